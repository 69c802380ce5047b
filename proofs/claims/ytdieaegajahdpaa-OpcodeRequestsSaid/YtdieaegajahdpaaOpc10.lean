/- opcode: the document's bytes of a request. -/
import Derived.Test.YtdieaegajahdpaaOpc8
namespace Go.Proofs.Ytdieaegajahdpaa
open Go.ChangeShapes Go.WideShapes Go.ChangeAt Go.RowKit
set_option linter.unusedVariables false
set_option linter.unusedSimpArgs false

set_option maxRecDepth 100000 in
set_option maxHeartbeats 16000000 in
theorem renc_8 (ty : UInt8) (sz : Nat) (dl : List UInt8) (dv : Value) (w : World) (hsz : sz < 4294967296) (h : IsBytes w dv dl) (hlen : dl.length ≤ 1000000) (hEB : encBytes ⟨8, ty, sz, dl⟩ = ([8] ++ dl)) :
    Calls Try.prog 23 #[.agg (reqCells ⟨8, ty, sz, dl⟩ dv)] w (REncEnd (decide (ty = 0 ∧ sz = 0 ∧ ¬dl.length = 0 ∧ dl.length ≤ 64)) (encBytes ⟨8, ty, sz, dl⟩) w) := by
  have hu := Try.underlying23
  have Hd := hide h
  obtain ⟨da, dc, rfl, hdc, hdm, _, _⟩ := h
  unfold maxLen at hdm
  have hw0 := (on_all w).alloc (.cells (reqCells ⟨8, ty, sz, dl⟩ (.slice da dl.length dc)) 49)
  have hs0 := (Str.refl w).alloc (.cells (reqCells ⟨8, ty, sz, dl⟩ (.slice da dl.length dc)) 49)
  have hw1 := own_new 5 1 1 (vbs [8]) hw0 rfl (by decide)
  have hv1 : (vbs [8]).toArray = #[vb 8] := rfl
  rw [hv1] at hw1
  simp only [World.size_alloc] at hw1
  have hs1 := hs0.alloc (.cells #[vb 8] 5)
  have g0 := on_blk_mul hw0
  have g1 := on_blk_mul hw1.right
  have q0 : _ = some (vb 8) := cell_of_row _ w.heap.size 0 _ _ _ g0
  have q1 : _ = some (vb ty) := cell_of_row _ w.heap.size 1 _ _ _ g1
  have q2 : _ = some (u32v sz) := cell_of_row _ w.heap.size 2 _ _ _ g1
  have q3 : _ = some (Value.slice da dl.length dc) := cell_of_row _ w.heap.size 3 _ _ _ g1
  have q4 : _ = some (vb 8) := cell_of_row _ w.heap.size 0 _ _ _ g1
  have H1 := hide hw1
  have HS1 := hide hs1
  clear hw0 hs0 hw1 hv1 hs1 g0 g1
  by_cases pt : ty = 0
  · by_cases ps : sz = 0
    · by_cases pd : dl.length = 0
      · have hk2 : decide (ty = 0 ∧ sz = 0 ∧ ¬dl.length = 0 ∧ dl.length ≤ 64) = false := decide_eq_false (fun h => h.2.2.1 pd)
        rw [hk2]
        clear hk2
        have T0 : (((ty.toNat : Nat) : Int) == 0) = true := by rw [pt]; rfl
        have S0 : ((sz : Int) == 0) = true := by rw [ps]; rfl
        have D0 : ((dl.length : Int) == 0) = true := by rw [pd]; rfl
        have DG : decide (0 < dl.length) = false := decide_eq_false (by omega)
        clear hEB
        clear pt
        clear ps
        clear pd
        go_enter Try.func23, Try.ntmps23
        go_wp2_with fail
        refine wp_region_app 3 [isV (.slice (some ⟨w.heap.size + 1, 0, Option.none⟩) 1 1), isV (.pointer (some ⟨w.heap.size, 3, Option.none⟩)), isV (.slice da dl.length dc), (fun _ _ => True), isV (.pointer (some ⟨w.heap.size, 1, Option.none⟩)), isV (vb ty), isV (.bool true), isV (.bool true), isV (.pointer (some ⟨w.heap.size, 2, Option.none⟩)), isV (u32v sz), isV (.bool true), isV (.bool true), isV (.bool true), isV (.pointer (some ⟨w.heap.size, 3, Option.none⟩)), isV (.slice da dl.length dc), isV (.int .i64 ((dl.length : Nat) : Int)), isV (.bool false), isV (.bool false), isV (.bool false), isV (undef), isV (undef), isV (undef), isV (undef), isV (.bool false), (fun _ _ => False), isV (.bool false)]
          [isV (.slice (some ⟨w.heap.size + 1, 0, Option.none⟩) 1 1), isV (.pointer (some ⟨w.heap.size, 3, Option.none⟩)), isV (.slice da dl.length dc), (fun v X => (ownR v ([8] ++ dl) * (EF w ⟨8, ty, sz, dl⟩ (.slice da dl.length dc))).on X), isV (.pointer (some ⟨w.heap.size, 1, Option.none⟩)), isV (vb ty), isV (.bool true), isV (.bool true), isV (.pointer (some ⟨w.heap.size, 2, Option.none⟩)), isV (u32v sz), isV (.bool true), isV (.bool true), isV (.bool true), isV (.pointer (some ⟨w.heap.size, 3, Option.none⟩)), isV (.slice da dl.length dc), isV (.int .i64 ((dl.length : Nat) : Int)), isV (.bool false), isV (.bool false), isV (.bool false), isV (undef), isV (undef), isV (undef), isV (undef), isV (.bool false), (fun v X => (ownR v ([8] ++ dl) * (EF w ⟨8, ty, sz, dl⟩ (.slice da dl.length dc))).on X), isV (.bool false)] _ rfl (by kernel_rfl) (by kernel_rfl) rfl (by decide) (EIv (ownR (.slice (some ⟨w.heap.size + 1, 0, Option.none⟩) 1 1) [8]) w ⟨8, ty, sz, dl⟩ (.slice da dl.length dc)) ⟨SP.on.drew H1.out, Str.drew HS1.out⟩ EIv.stay ?keep ?keep2 ?store ?todo ?rest
        case keep => exact ⟨Keep.isV _, Keep.isV _, Keep.isV _, fun _ _ _ h _ => h, Keep.isV _, Keep.isV _, Keep.isV _, Keep.isV _, Keep.isV _, Keep.isV _, Keep.isV _, Keep.isV _, Keep.isV _, Keep.isV _, Keep.isV _, Keep.isV _, Keep.isV _, Keep.isV _, Keep.isV _, Keep.isV _, Keep.isV _, Keep.isV _, Keep.isV _, Keep.isV _, fun _ _ _ h _ => h, Keep.isV _, trivial⟩
        case keep2 => exact ⟨Keep.isV _, Keep.isV _, Keep.isV _, fun _ _ _ h k => SP.on.below h k, Keep.isV _, Keep.isV _, Keep.isV _, Keep.isV _, Keep.isV _, Keep.isV _, Keep.isV _, Keep.isV _, Keep.isV _, Keep.isV _, Keep.isV _, Keep.isV _, Keep.isV _, Keep.isV _, Keep.isV _, Keep.isV _, Keep.isV _, Keep.isV _, Keep.isV _, Keep.isV _, fun _ _ _ h k => SP.on.below h k, Keep.isV _, trivial⟩
        case store =>
          intro ev X hT hb hk hf
          have e0 : ev (.tmp 119) = .slice (some ⟨w.heap.size + 1, 0, Option.none⟩) 1 1 := hf.1
          have e1 : ev (.tmp 121) = .slice da dl.length dc := hf.2.1
          refine OpOk.append_bytes (F := (EF w ⟨8, ty, sz, dl⟩ (.slice da dl.length dc))) _ _ _ rfl 5 hu infoR _ [8] dl e0 hT.1 (by rw [e1]; exact Hd.out.below (all_below hT.1.right.right hT.2)) (by have := hlen; simp; omega) ?_
          intro v' X2 ho hs
          refine ⟨⟨ho.right, hT.2.trans hs⟩, ho, ?_⟩
          intro i his hv
          match i, his, hv with
          | 0, _, hv => exact hv
          | 1, _, hv => exact hv
          | 2, _, hv => exact hv
          | 3, h, _ => exact absurd rfl h
          | 4, _, hv => exact hv
          | 5, _, hv => exact hv
          | 6, _, hv => exact hv
          | 7, _, hv => exact hv
          | 8, _, hv => exact hv
          | 9, _, hv => exact hv
          | 10, _, hv => exact hv
          | 11, _, hv => exact hv
          | 12, _, hv => exact hv
          | 13, _, hv => exact hv
          | 14, _, hv => exact hv
          | 15, _, hv => exact hv
          | 16, _, hv => exact hv
          | 17, _, hv => exact hv
          | 18, _, hv => exact hv
          | 19, _, hv => exact hv
          | 20, _, hv => exact hv
          | 21, _, hv => exact hv
          | 22, _, hv => exact hv
          | 23, _, hv => exact hv
          | 24, _, hv => exact hv.elim
          | 25, _, hv => exact hv
          | n + 26, _, _ => exact trivial
        case todo =>
          refine ⟨?_, ?_, ?_, ?_, ?_, ?_, ?_, ?_, ?_, ?_, ?_, ?_, ?_, ?_, ?_, ?_, ?_, ?_, ?_, ?_, ?_, ?_, ?_, ?_, ?_, ?_, trivial⟩
          · intro _ ph h1 h2
            obtain rfl : ph = false := h2 (by kernel_rfl)
            intro ev X hT hb hk hf
            have e0 : ev (.tmp 4) = .slice (some ⟨w.heap.size + 1, 0, Option.none⟩) 1 1 := hk.1
            exact OpOk.move rfl e0 ⟨rfl, Stay.refl _⟩
          · intro _ ph h1 h2
            cases ph
            all_goals
              intro ev X hT hb hk hf
              have e0 : ev (.tmp 1) = .pointer (some ⟨w.heap.size, 0, Option.none⟩) := hk.1
              exact OpOk.run (v := .pointer (some ⟨w.heap.size, 3, Option.none⟩)) (W' := X) (by simp [execOp, e0, hb.1, go_sem]) ⟨rfl, Stay.refl _⟩
          · intro _ ph h1 h2
            obtain rfl : ph = false := h2 (by kernel_rfl)
            intro ev X hT hb hk hf
            have e0 : ev (.tmp 120) = .pointer (some ⟨w.heap.size, 3, Option.none⟩) := hf.1
            have cW := EIv.cell hT 3 rfl
            exact OpOk.run (v := .slice da dl.length dc) (W' := X) (by simp [execOp, e0, cW, go_sem]) ⟨rfl, Stay.refl _⟩
          · exact fun h => absurd rfl h
          · intro _ ph h1 h2
            cases ph
            all_goals
              intro ev X hT hb hk hf
              have e0 : ev (.tmp 1) = .pointer (some ⟨w.heap.size, 0, Option.none⟩) := hk.1
              exact OpOk.run (v := .pointer (some ⟨w.heap.size, 1, Option.none⟩)) (W' := X) (by simp [execOp, e0, hb.1, go_sem]) ⟨rfl, Stay.refl _⟩
          · intro _ ph h1 h2
            cases ph
            all_goals
              intro ev X hT hb hk hf
              have e0 : ev (.tmp 123) = .pointer (some ⟨w.heap.size, 1, Option.none⟩) := hf.1
              have cW := EIv.cell hT 1 rfl
              exact OpOk.run (v := vb ty) (W' := X) (by simp [execOp, e0, cW, go_sem]) ⟨rfl, Stay.refl _⟩
          · intro _ ph h1 h2
            cases ph
            all_goals
              intro ev X hT hb hk hf
              have e0 : ev (.tmp 124) = vb ty := hf.1
              exact OpOk.run (v := .bool true) (W' := X) (by simp [execOp, e0, hb.1, T0, go_sem]) ⟨rfl, Stay.refl _⟩
          · intro _ ph h1 h2
            obtain rfl : ph = true := h1 (by kernel_rfl)
            intro ev X hT hb hk hf
            have e0 : ev (.tmp 125) = .bool true := hf.1
            exact OpOk.move rfl e0 ⟨rfl, Stay.refl _⟩
          · intro _ ph h1 h2
            cases ph
            all_goals
              intro ev X hT hb hk hf
              refine ⟨true, hf.1, fun _ => ?_, fun h => (h rfl).elim⟩
              have e0 : ev (.tmp 1) = .pointer (some ⟨w.heap.size, 0, Option.none⟩) := hk.1
              exact OpOk.run (v := .pointer (some ⟨w.heap.size, 2, Option.none⟩)) (W' := X) (by simp [execOp, e0, hb.1, go_sem]) ⟨rfl, Stay.refl _⟩
          · intro _ ph h1 h2
            cases ph
            all_goals
              intro ev X hT hb hk hf
              refine ⟨true, hf.2.1, fun _ => ?_, fun h => (h rfl).elim⟩
              have e0 : ev (.tmp 127) = .pointer (some ⟨w.heap.size, 2, Option.none⟩) := hf.1
              have cW := EIv.cell hT 2 rfl
              exact OpOk.run (v := u32v sz) (W' := X) (by simp [execOp, e0, cW, go_sem]) ⟨rfl, Stay.refl _⟩
          · intro _ ph h1 h2
            cases ph
            all_goals
              intro ev X hT hb hk hf
              refine ⟨true, hf.2.1, fun _ => ?_, fun h => (h rfl).elim⟩
              have e0 : ev (.tmp 128) = u32v sz := hf.1
              exact OpOk.run (v := .bool true) (W' := X) (by simp [execOp, e0, hb.1, S0, go_sem]) ⟨rfl, Stay.refl _⟩
          · intro _ ph h1 h2
            cases ph
            all_goals
              intro ev X hT hb hk hf
              have e0 : ev (.tmp 126) = .bool true := hf.1
              have e1 : ev (.tmp 129) = .bool true := hf.2.1
              exact OpOk.run (v := .bool true) (W' := X) (by simp [execOp, e0, e1, hb, hb.1, hb.2.1, hb.2.2, go_sem]) ⟨rfl, Stay.refl _⟩
          · intro _ ph h1 h2
            cases ph
            all_goals
              intro ev X hT hb hk hf
              have e0 : ev (.tmp 130) = .bool true := hf.1
              exact OpOk.move rfl e0 ⟨rfl, Stay.refl _⟩
          · intro _ ph h1 h2
            cases ph
            all_goals
              intro ev X hT hb hk hf
              refine ⟨true, hf.1, fun _ => ?_, fun h => (h rfl).elim⟩
              have e0 : ev (.tmp 1) = .pointer (some ⟨w.heap.size, 0, Option.none⟩) := hk.1
              exact OpOk.run (v := .pointer (some ⟨w.heap.size, 3, Option.none⟩)) (W' := X) (by simp [execOp, e0, hb.1, go_sem]) ⟨rfl, Stay.refl _⟩
          · intro _ ph h1 h2
            cases ph
            all_goals
              intro ev X hT hb hk hf
              refine ⟨true, hf.2.1, fun _ => ?_, fun h => (h rfl).elim⟩
              have e0 : ev (.tmp 132) = .pointer (some ⟨w.heap.size, 3, Option.none⟩) := hf.1
              have cW := EIv.cell hT 3 rfl
              exact OpOk.run (v := .slice da dl.length dc) (W' := X) (by simp [execOp, e0, cW, go_sem]) ⟨rfl, Stay.refl _⟩
          · intro _ ph h1 h2
            cases ph
            all_goals
              intro ev X hT hb hk hf
              refine ⟨true, hf.2.1, fun _ => ?_, fun h => (h rfl).elim⟩
              have e0 : ev (.tmp 133) = .slice da dl.length dc := hf.1
              exact OpOk.run (v := .int .i64 ((dl.length : Nat) : Int)) (W' := X) (by simp [execOp, e0, hb.1, go_sem]) ⟨rfl, Stay.refl _⟩
          · intro _ ph h1 h2
            cases ph
            all_goals
              intro ev X hT hb hk hf
              refine ⟨true, hf.2.1, fun _ => ?_, fun h => (h rfl).elim⟩
              have e0 : ev (.tmp 134) = .int .i64 ((dl.length : Nat) : Int) := hf.1
              exact OpOk.run (v := .bool false) (W' := X) (by simp [execOp, e0, hb.1, DG, go_sem]) ⟨rfl, Stay.refl _⟩
          · intro _ ph h1 h2
            cases ph
            all_goals
              intro ev X hT hb hk hf
              have e0 : ev (.tmp 131) = .bool true := hf.1
              have e1 : ev (.tmp 135) = .bool false := hf.2.1
              exact OpOk.run (v := .bool false) (W' := X) (by simp [execOp, e0, e1, hb, hb.1, hb.2.1, hb.2.2, go_sem]) ⟨rfl, Stay.refl _⟩
          · intro _ ph h1 h2
            cases ph
            all_goals
              intro ev X hT hb hk hf
              have e0 : ev (.tmp 136) = .bool false := hf.1
              exact OpOk.move rfl e0 ⟨rfl, Stay.refl _⟩
          · intro _ ph h1 h2
            cases ph
            all_goals
              intro ev X hT hb hk hf
              exact ⟨false, hf.1, fun h => (nomatch h), fun _ => rfl⟩
          · intro _ ph h1 h2
            cases ph
            all_goals
              intro ev X hT hb hk hf
              exact ⟨false, hf.2.1, fun h => (nomatch h), fun _ => rfl⟩
          · intro _ ph h1 h2
            cases ph
            all_goals
              intro ev X hT hb hk hf
              exact ⟨false, hf.2.1, fun h => (nomatch h), fun _ => rfl⟩
          · intro _ ph h1 h2
            cases ph
            all_goals
              intro ev X hT hb hk hf
              exact ⟨false, hf.2.1, fun h => (nomatch h), fun _ => rfl⟩
          · intro _ ph h1 h2
            cases ph
            all_goals
              intro ev X hT hb hk hf
              have e0 : ev (.tmp 137) = .bool false := hf.1
              have e1 : ev (.tmp 141) = undef := hf.2.1
              exact OpOk.run (v := .bool false) (W' := X) (by simp [execOp, e0, e1, hb, hb.1, hb.2.1, hb.2.2, go_sem]) ⟨rfl, Stay.refl _⟩
          · intro _ ph h1 h2
            obtain rfl : ph = true := h1 (by kernel_rfl)
            intro ev X hT hb hk hf
            have e0 := hf.1
            exact OpOk.assign rfl rfl ⟨e0, Stay.refl _⟩
          · intro _ ph h1 h2
            obtain rfl : ph = true := h1 (by kernel_rfl)
            intro ev X hT hb hk hf
            have e0 : ev (.tmp 142) = .bool false := hf.1
            exact OpOk.assign rfl e0 ⟨rfl, Stay.refl _⟩
        case rest =>
          intro X hT
          rintro _ rfl _ rfl _ rfl _ - _ rfl _ rfl _ rfl _ rfl _ rfl _ rfl _ rfl _ rfl _ rfl _ rfl _ rfl _ rfl _ rfl _ rfl _ rfl _ rfl _ rfl _ rfl _ rfl _ rfl vo ho _ rfl
          obtain ⟨xa, xc, rfl, _, _, _, _⟩ := own_value ho
          have HO := hide ho
          have HST := hide hT
          clear ho hT
          go_wp2
          refine Rest.done ?_
          go_wp2_with fail
          go_ret2
          exact ⟨_, rfl, (fun h => by cases h), all_below HST.out.1.right HST.out.2⟩
      · by_cases ple : dl.length ≤ 64
        · have hk2 : decide (ty = 0 ∧ sz = 0 ∧ ¬dl.length = 0 ∧ dl.length ≤ 64) = true := decide_eq_true ⟨pt, ps, pd, ple⟩
          rw [hk2]
          clear hk2
          have T0 : (((ty.toNat : Nat) : Int) == 0) = true := by rw [pt]; rfl
          have S0 : ((sz : Int) == 0) = true := by rw [ps]; rfl
          have D0 : ((dl.length : Int) == 0) = false := by rw [beq_eq_false_iff_ne]; omega
          have DG : decide (0 < dl.length) = true := decide_eq_true (by omega)
          have E0 : decide ((dl.length : Int) ≤ 64) = true := decide_eq_true (by omega)
          have EB := hide hEB
          clear hEB
          clear pt
          clear ps
          clear pd
          clear ple
          go_enter Try.func23, Try.ntmps23
          go_wp2_with fail
          refine wp_region_app 3 [isV (.slice (some ⟨w.heap.size + 1, 0, Option.none⟩) 1 1), isV (.pointer (some ⟨w.heap.size, 3, Option.none⟩)), isV (.slice da dl.length dc), (fun _ _ => True), isV (.pointer (some ⟨w.heap.size, 1, Option.none⟩)), isV (vb ty), isV (.bool true), isV (.bool true), isV (.pointer (some ⟨w.heap.size, 2, Option.none⟩)), isV (u32v sz), isV (.bool true), isV (.bool true), isV (.bool true), isV (.pointer (some ⟨w.heap.size, 3, Option.none⟩)), isV (.slice da dl.length dc), isV (.int .i64 ((dl.length : Nat) : Int)), isV (.bool true), isV (.bool true), isV (.bool true), isV (.pointer (some ⟨w.heap.size, 3, Option.none⟩)), isV (.slice da dl.length dc), isV (.int .i64 ((dl.length : Nat) : Int)), isV (.bool true), isV (.bool true), (fun _ _ => False), isV (.bool true)]
            [isV (.slice (some ⟨w.heap.size + 1, 0, Option.none⟩) 1 1), isV (.pointer (some ⟨w.heap.size, 3, Option.none⟩)), isV (.slice da dl.length dc), (fun v X => (ownR v ([8] ++ dl) * (EF w ⟨8, ty, sz, dl⟩ (.slice da dl.length dc))).on X), isV (.pointer (some ⟨w.heap.size, 1, Option.none⟩)), isV (vb ty), isV (.bool true), isV (.bool true), isV (.pointer (some ⟨w.heap.size, 2, Option.none⟩)), isV (u32v sz), isV (.bool true), isV (.bool true), isV (.bool true), isV (.pointer (some ⟨w.heap.size, 3, Option.none⟩)), isV (.slice da dl.length dc), isV (.int .i64 ((dl.length : Nat) : Int)), isV (.bool true), isV (.bool true), isV (.bool true), isV (.pointer (some ⟨w.heap.size, 3, Option.none⟩)), isV (.slice da dl.length dc), isV (.int .i64 ((dl.length : Nat) : Int)), isV (.bool true), isV (.bool true), (fun v X => (ownR v ([8] ++ dl) * (EF w ⟨8, ty, sz, dl⟩ (.slice da dl.length dc))).on X), isV (.bool true)] _ rfl (by kernel_rfl) (by kernel_rfl) rfl (by decide) (EIv (ownR (.slice (some ⟨w.heap.size + 1, 0, Option.none⟩) 1 1) [8]) w ⟨8, ty, sz, dl⟩ (.slice da dl.length dc)) ⟨SP.on.drew H1.out, Str.drew HS1.out⟩ EIv.stay ?keep ?keep2 ?store ?todo ?rest
          case keep => exact ⟨Keep.isV _, Keep.isV _, Keep.isV _, fun _ _ _ h _ => h, Keep.isV _, Keep.isV _, Keep.isV _, Keep.isV _, Keep.isV _, Keep.isV _, Keep.isV _, Keep.isV _, Keep.isV _, Keep.isV _, Keep.isV _, Keep.isV _, Keep.isV _, Keep.isV _, Keep.isV _, Keep.isV _, Keep.isV _, Keep.isV _, Keep.isV _, Keep.isV _, fun _ _ _ h _ => h, Keep.isV _, trivial⟩
          case keep2 => exact ⟨Keep.isV _, Keep.isV _, Keep.isV _, fun _ _ _ h k => SP.on.below h k, Keep.isV _, Keep.isV _, Keep.isV _, Keep.isV _, Keep.isV _, Keep.isV _, Keep.isV _, Keep.isV _, Keep.isV _, Keep.isV _, Keep.isV _, Keep.isV _, Keep.isV _, Keep.isV _, Keep.isV _, Keep.isV _, Keep.isV _, Keep.isV _, Keep.isV _, Keep.isV _, fun _ _ _ h k => SP.on.below h k, Keep.isV _, trivial⟩
          case store =>
            intro ev X hT hb hk hf
            have e0 : ev (.tmp 119) = .slice (some ⟨w.heap.size + 1, 0, Option.none⟩) 1 1 := hf.1
            have e1 : ev (.tmp 121) = .slice da dl.length dc := hf.2.1
            refine OpOk.append_bytes (F := (EF w ⟨8, ty, sz, dl⟩ (.slice da dl.length dc))) _ _ _ rfl 5 hu infoR _ [8] dl e0 hT.1 (by rw [e1]; exact Hd.out.below (all_below hT.1.right.right hT.2)) (by have := hlen; simp; omega) ?_
            intro v' X2 ho hs
            refine ⟨⟨ho.right, hT.2.trans hs⟩, ho, ?_⟩
            intro i his hv
            match i, his, hv with
            | 0, _, hv => exact hv
            | 1, _, hv => exact hv
            | 2, _, hv => exact hv
            | 3, h, _ => exact absurd rfl h
            | 4, _, hv => exact hv
            | 5, _, hv => exact hv
            | 6, _, hv => exact hv
            | 7, _, hv => exact hv
            | 8, _, hv => exact hv
            | 9, _, hv => exact hv
            | 10, _, hv => exact hv
            | 11, _, hv => exact hv
            | 12, _, hv => exact hv
            | 13, _, hv => exact hv
            | 14, _, hv => exact hv
            | 15, _, hv => exact hv
            | 16, _, hv => exact hv
            | 17, _, hv => exact hv
            | 18, _, hv => exact hv
            | 19, _, hv => exact hv
            | 20, _, hv => exact hv
            | 21, _, hv => exact hv
            | 22, _, hv => exact hv
            | 23, _, hv => exact hv
            | 24, _, hv => exact hv.elim
            | 25, _, hv => exact hv
            | n + 26, _, _ => exact trivial
          case todo =>
            refine ⟨?_, ?_, ?_, ?_, ?_, ?_, ?_, ?_, ?_, ?_, ?_, ?_, ?_, ?_, ?_, ?_, ?_, ?_, ?_, ?_, ?_, ?_, ?_, ?_, ?_, ?_, trivial⟩
            · intro _ ph h1 h2
              obtain rfl : ph = false := h2 (by kernel_rfl)
              intro ev X hT hb hk hf
              have e0 : ev (.tmp 4) = .slice (some ⟨w.heap.size + 1, 0, Option.none⟩) 1 1 := hk.1
              exact OpOk.move rfl e0 ⟨rfl, Stay.refl _⟩
            · intro _ ph h1 h2
              cases ph
              all_goals
                intro ev X hT hb hk hf
                have e0 : ev (.tmp 1) = .pointer (some ⟨w.heap.size, 0, Option.none⟩) := hk.1
                exact OpOk.run (v := .pointer (some ⟨w.heap.size, 3, Option.none⟩)) (W' := X) (by simp [execOp, e0, hb.1, go_sem]) ⟨rfl, Stay.refl _⟩
            · intro _ ph h1 h2
              obtain rfl : ph = false := h2 (by kernel_rfl)
              intro ev X hT hb hk hf
              have e0 : ev (.tmp 120) = .pointer (some ⟨w.heap.size, 3, Option.none⟩) := hf.1
              have cW := EIv.cell hT 3 rfl
              exact OpOk.run (v := .slice da dl.length dc) (W' := X) (by simp [execOp, e0, cW, go_sem]) ⟨rfl, Stay.refl _⟩
            · exact fun h => absurd rfl h
            · intro _ ph h1 h2
              cases ph
              all_goals
                intro ev X hT hb hk hf
                have e0 : ev (.tmp 1) = .pointer (some ⟨w.heap.size, 0, Option.none⟩) := hk.1
                exact OpOk.run (v := .pointer (some ⟨w.heap.size, 1, Option.none⟩)) (W' := X) (by simp [execOp, e0, hb.1, go_sem]) ⟨rfl, Stay.refl _⟩
            · intro _ ph h1 h2
              cases ph
              all_goals
                intro ev X hT hb hk hf
                have e0 : ev (.tmp 123) = .pointer (some ⟨w.heap.size, 1, Option.none⟩) := hf.1
                have cW := EIv.cell hT 1 rfl
                exact OpOk.run (v := vb ty) (W' := X) (by simp [execOp, e0, cW, go_sem]) ⟨rfl, Stay.refl _⟩
            · intro _ ph h1 h2
              cases ph
              all_goals
                intro ev X hT hb hk hf
                have e0 : ev (.tmp 124) = vb ty := hf.1
                exact OpOk.run (v := .bool true) (W' := X) (by simp [execOp, e0, hb.1, T0, go_sem]) ⟨rfl, Stay.refl _⟩
            · intro _ ph h1 h2
              obtain rfl : ph = true := h1 (by kernel_rfl)
              intro ev X hT hb hk hf
              have e0 : ev (.tmp 125) = .bool true := hf.1
              exact OpOk.move rfl e0 ⟨rfl, Stay.refl _⟩
            · intro _ ph h1 h2
              cases ph
              all_goals
                intro ev X hT hb hk hf
                refine ⟨true, hf.1, fun _ => ?_, fun h => (h rfl).elim⟩
                have e0 : ev (.tmp 1) = .pointer (some ⟨w.heap.size, 0, Option.none⟩) := hk.1
                exact OpOk.run (v := .pointer (some ⟨w.heap.size, 2, Option.none⟩)) (W' := X) (by simp [execOp, e0, hb.1, go_sem]) ⟨rfl, Stay.refl _⟩
            · intro _ ph h1 h2
              cases ph
              all_goals
                intro ev X hT hb hk hf
                refine ⟨true, hf.2.1, fun _ => ?_, fun h => (h rfl).elim⟩
                have e0 : ev (.tmp 127) = .pointer (some ⟨w.heap.size, 2, Option.none⟩) := hf.1
                have cW := EIv.cell hT 2 rfl
                exact OpOk.run (v := u32v sz) (W' := X) (by simp [execOp, e0, cW, go_sem]) ⟨rfl, Stay.refl _⟩
            · intro _ ph h1 h2
              cases ph
              all_goals
                intro ev X hT hb hk hf
                refine ⟨true, hf.2.1, fun _ => ?_, fun h => (h rfl).elim⟩
                have e0 : ev (.tmp 128) = u32v sz := hf.1
                exact OpOk.run (v := .bool true) (W' := X) (by simp [execOp, e0, hb.1, S0, go_sem]) ⟨rfl, Stay.refl _⟩
            · intro _ ph h1 h2
              cases ph
              all_goals
                intro ev X hT hb hk hf
                have e0 : ev (.tmp 126) = .bool true := hf.1
                have e1 : ev (.tmp 129) = .bool true := hf.2.1
                exact OpOk.run (v := .bool true) (W' := X) (by simp [execOp, e0, e1, hb, hb.1, hb.2.1, hb.2.2, go_sem]) ⟨rfl, Stay.refl _⟩
            · intro _ ph h1 h2
              cases ph
              all_goals
                intro ev X hT hb hk hf
                have e0 : ev (.tmp 130) = .bool true := hf.1
                exact OpOk.move rfl e0 ⟨rfl, Stay.refl _⟩
            · intro _ ph h1 h2
              cases ph
              all_goals
                intro ev X hT hb hk hf
                refine ⟨true, hf.1, fun _ => ?_, fun h => (h rfl).elim⟩
                have e0 : ev (.tmp 1) = .pointer (some ⟨w.heap.size, 0, Option.none⟩) := hk.1
                exact OpOk.run (v := .pointer (some ⟨w.heap.size, 3, Option.none⟩)) (W' := X) (by simp [execOp, e0, hb.1, go_sem]) ⟨rfl, Stay.refl _⟩
            · intro _ ph h1 h2
              cases ph
              all_goals
                intro ev X hT hb hk hf
                refine ⟨true, hf.2.1, fun _ => ?_, fun h => (h rfl).elim⟩
                have e0 : ev (.tmp 132) = .pointer (some ⟨w.heap.size, 3, Option.none⟩) := hf.1
                have cW := EIv.cell hT 3 rfl
                exact OpOk.run (v := .slice da dl.length dc) (W' := X) (by simp [execOp, e0, cW, go_sem]) ⟨rfl, Stay.refl _⟩
            · intro _ ph h1 h2
              cases ph
              all_goals
                intro ev X hT hb hk hf
                refine ⟨true, hf.2.1, fun _ => ?_, fun h => (h rfl).elim⟩
                have e0 : ev (.tmp 133) = .slice da dl.length dc := hf.1
                exact OpOk.run (v := .int .i64 ((dl.length : Nat) : Int)) (W' := X) (by simp [execOp, e0, hb.1, go_sem]) ⟨rfl, Stay.refl _⟩
            · intro _ ph h1 h2
              cases ph
              all_goals
                intro ev X hT hb hk hf
                refine ⟨true, hf.2.1, fun _ => ?_, fun h => (h rfl).elim⟩
                have e0 : ev (.tmp 134) = .int .i64 ((dl.length : Nat) : Int) := hf.1
                exact OpOk.run (v := .bool true) (W' := X) (by simp [execOp, e0, hb.1, DG, go_sem]) ⟨rfl, Stay.refl _⟩
            · intro _ ph h1 h2
              cases ph
              all_goals
                intro ev X hT hb hk hf
                have e0 : ev (.tmp 131) = .bool true := hf.1
                have e1 : ev (.tmp 135) = .bool true := hf.2.1
                exact OpOk.run (v := .bool true) (W' := X) (by simp [execOp, e0, e1, hb, hb.1, hb.2.1, hb.2.2, go_sem]) ⟨rfl, Stay.refl _⟩
            · intro _ ph h1 h2
              cases ph
              all_goals
                intro ev X hT hb hk hf
                have e0 : ev (.tmp 136) = .bool true := hf.1
                exact OpOk.move rfl e0 ⟨rfl, Stay.refl _⟩
            · intro _ ph h1 h2
              cases ph
              all_goals
                intro ev X hT hb hk hf
                refine ⟨true, hf.1, fun _ => ?_, fun h => (h rfl).elim⟩
                have e0 : ev (.tmp 1) = .pointer (some ⟨w.heap.size, 0, Option.none⟩) := hk.1
                exact OpOk.run (v := .pointer (some ⟨w.heap.size, 3, Option.none⟩)) (W' := X) (by simp [execOp, e0, hb.1, go_sem]) ⟨rfl, Stay.refl _⟩
            · intro _ ph h1 h2
              cases ph
              all_goals
                intro ev X hT hb hk hf
                refine ⟨true, hf.2.1, fun _ => ?_, fun h => (h rfl).elim⟩
                have e0 : ev (.tmp 138) = .pointer (some ⟨w.heap.size, 3, Option.none⟩) := hf.1
                have cW := EIv.cell hT 3 rfl
                exact OpOk.run (v := .slice da dl.length dc) (W' := X) (by simp [execOp, e0, cW, go_sem]) ⟨rfl, Stay.refl _⟩
            · intro _ ph h1 h2
              cases ph
              all_goals
                intro ev X hT hb hk hf
                refine ⟨true, hf.2.1, fun _ => ?_, fun h => (h rfl).elim⟩
                have e0 : ev (.tmp 139) = .slice da dl.length dc := hf.1
                exact OpOk.run (v := .int .i64 ((dl.length : Nat) : Int)) (W' := X) (by simp [execOp, e0, hb.1, go_sem]) ⟨rfl, Stay.refl _⟩
            · intro _ ph h1 h2
              cases ph
              all_goals
                intro ev X hT hb hk hf
                refine ⟨true, hf.2.1, fun _ => ?_, fun h => (h rfl).elim⟩
                have e0 : ev (.tmp 140) = .int .i64 ((dl.length : Nat) : Int) := hf.1
                exact OpOk.run (v := .bool true) (W' := X) (by simp [execOp, e0, hb.1, E0, go_sem]) ⟨rfl, Stay.refl _⟩
            · intro _ ph h1 h2
              cases ph
              all_goals
                intro ev X hT hb hk hf
                have e0 : ev (.tmp 137) = .bool true := hf.1
                have e1 : ev (.tmp 141) = .bool true := hf.2.1
                exact OpOk.run (v := .bool true) (W' := X) (by simp [execOp, e0, e1, hb, hb.1, hb.2.1, hb.2.2, go_sem]) ⟨rfl, Stay.refl _⟩
            · intro _ ph h1 h2
              obtain rfl : ph = true := h1 (by kernel_rfl)
              intro ev X hT hb hk hf
              have e0 := hf.1
              exact OpOk.assign rfl rfl ⟨e0, Stay.refl _⟩
            · intro _ ph h1 h2
              obtain rfl : ph = true := h1 (by kernel_rfl)
              intro ev X hT hb hk hf
              have e0 : ev (.tmp 142) = .bool true := hf.1
              exact OpOk.assign rfl e0 ⟨rfl, Stay.refl _⟩
          case rest =>
            intro X hT
            rintro _ rfl _ rfl _ rfl _ - _ rfl _ rfl _ rfl _ rfl _ rfl _ rfl _ rfl _ rfl _ rfl _ rfl _ rfl _ rfl _ rfl _ rfl _ rfl _ rfl _ rfl _ rfl _ rfl _ rfl vo ho _ rfl
            obtain ⟨xa, xc, rfl, _, _, _, _⟩ := own_value ho
            have HO := hide ho
            have HST := hide hT
            clear ho hT
            go_wp2
            refine Rest.done ?_
            go_wp2_with fail
            go_ret2
            exact ⟨_, rfl, fun _ => by rw [EB.out]; exact own_bytes HO.out, all_below HST.out.1.right HST.out.2⟩
        · have hk2 : decide (ty = 0 ∧ sz = 0 ∧ ¬dl.length = 0 ∧ dl.length ≤ 64) = false := decide_eq_false (fun h => ple h.2.2.2)
          rw [hk2]
          clear hk2
          have T0 : (((ty.toNat : Nat) : Int) == 0) = true := by rw [pt]; rfl
          have S0 : ((sz : Int) == 0) = true := by rw [ps]; rfl
          have D0 : ((dl.length : Int) == 0) = false := by rw [beq_eq_false_iff_ne]; omega
          have DG : decide (0 < dl.length) = true := decide_eq_true (by omega)
          have E0 : decide ((dl.length : Int) ≤ 64) = false := decide_eq_false (by omega)
          clear hEB
          clear pt
          clear ps
          clear pd
          clear ple
          go_enter Try.func23, Try.ntmps23
          go_wp2_with fail
          refine wp_region_app 3 [isV (.slice (some ⟨w.heap.size + 1, 0, Option.none⟩) 1 1), isV (.pointer (some ⟨w.heap.size, 3, Option.none⟩)), isV (.slice da dl.length dc), (fun _ _ => True), isV (.pointer (some ⟨w.heap.size, 1, Option.none⟩)), isV (vb ty), isV (.bool true), isV (.bool true), isV (.pointer (some ⟨w.heap.size, 2, Option.none⟩)), isV (u32v sz), isV (.bool true), isV (.bool true), isV (.bool true), isV (.pointer (some ⟨w.heap.size, 3, Option.none⟩)), isV (.slice da dl.length dc), isV (.int .i64 ((dl.length : Nat) : Int)), isV (.bool true), isV (.bool true), isV (.bool true), isV (.pointer (some ⟨w.heap.size, 3, Option.none⟩)), isV (.slice da dl.length dc), isV (.int .i64 ((dl.length : Nat) : Int)), isV (.bool false), isV (.bool false), (fun _ _ => False), isV (.bool false)]
            [isV (.slice (some ⟨w.heap.size + 1, 0, Option.none⟩) 1 1), isV (.pointer (some ⟨w.heap.size, 3, Option.none⟩)), isV (.slice da dl.length dc), (fun v X => (ownR v ([8] ++ dl) * (EF w ⟨8, ty, sz, dl⟩ (.slice da dl.length dc))).on X), isV (.pointer (some ⟨w.heap.size, 1, Option.none⟩)), isV (vb ty), isV (.bool true), isV (.bool true), isV (.pointer (some ⟨w.heap.size, 2, Option.none⟩)), isV (u32v sz), isV (.bool true), isV (.bool true), isV (.bool true), isV (.pointer (some ⟨w.heap.size, 3, Option.none⟩)), isV (.slice da dl.length dc), isV (.int .i64 ((dl.length : Nat) : Int)), isV (.bool true), isV (.bool true), isV (.bool true), isV (.pointer (some ⟨w.heap.size, 3, Option.none⟩)), isV (.slice da dl.length dc), isV (.int .i64 ((dl.length : Nat) : Int)), isV (.bool false), isV (.bool false), (fun v X => (ownR v ([8] ++ dl) * (EF w ⟨8, ty, sz, dl⟩ (.slice da dl.length dc))).on X), isV (.bool false)] _ rfl (by kernel_rfl) (by kernel_rfl) rfl (by decide) (EIv (ownR (.slice (some ⟨w.heap.size + 1, 0, Option.none⟩) 1 1) [8]) w ⟨8, ty, sz, dl⟩ (.slice da dl.length dc)) ⟨SP.on.drew H1.out, Str.drew HS1.out⟩ EIv.stay ?keep ?keep2 ?store ?todo ?rest
          case keep => exact ⟨Keep.isV _, Keep.isV _, Keep.isV _, fun _ _ _ h _ => h, Keep.isV _, Keep.isV _, Keep.isV _, Keep.isV _, Keep.isV _, Keep.isV _, Keep.isV _, Keep.isV _, Keep.isV _, Keep.isV _, Keep.isV _, Keep.isV _, Keep.isV _, Keep.isV _, Keep.isV _, Keep.isV _, Keep.isV _, Keep.isV _, Keep.isV _, Keep.isV _, fun _ _ _ h _ => h, Keep.isV _, trivial⟩
          case keep2 => exact ⟨Keep.isV _, Keep.isV _, Keep.isV _, fun _ _ _ h k => SP.on.below h k, Keep.isV _, Keep.isV _, Keep.isV _, Keep.isV _, Keep.isV _, Keep.isV _, Keep.isV _, Keep.isV _, Keep.isV _, Keep.isV _, Keep.isV _, Keep.isV _, Keep.isV _, Keep.isV _, Keep.isV _, Keep.isV _, Keep.isV _, Keep.isV _, Keep.isV _, Keep.isV _, fun _ _ _ h k => SP.on.below h k, Keep.isV _, trivial⟩
          case store =>
            intro ev X hT hb hk hf
            have e0 : ev (.tmp 119) = .slice (some ⟨w.heap.size + 1, 0, Option.none⟩) 1 1 := hf.1
            have e1 : ev (.tmp 121) = .slice da dl.length dc := hf.2.1
            refine OpOk.append_bytes (F := (EF w ⟨8, ty, sz, dl⟩ (.slice da dl.length dc))) _ _ _ rfl 5 hu infoR _ [8] dl e0 hT.1 (by rw [e1]; exact Hd.out.below (all_below hT.1.right.right hT.2)) (by have := hlen; simp; omega) ?_
            intro v' X2 ho hs
            refine ⟨⟨ho.right, hT.2.trans hs⟩, ho, ?_⟩
            intro i his hv
            match i, his, hv with
            | 0, _, hv => exact hv
            | 1, _, hv => exact hv
            | 2, _, hv => exact hv
            | 3, h, _ => exact absurd rfl h
            | 4, _, hv => exact hv
            | 5, _, hv => exact hv
            | 6, _, hv => exact hv
            | 7, _, hv => exact hv
            | 8, _, hv => exact hv
            | 9, _, hv => exact hv
            | 10, _, hv => exact hv
            | 11, _, hv => exact hv
            | 12, _, hv => exact hv
            | 13, _, hv => exact hv
            | 14, _, hv => exact hv
            | 15, _, hv => exact hv
            | 16, _, hv => exact hv
            | 17, _, hv => exact hv
            | 18, _, hv => exact hv
            | 19, _, hv => exact hv
            | 20, _, hv => exact hv
            | 21, _, hv => exact hv
            | 22, _, hv => exact hv
            | 23, _, hv => exact hv
            | 24, _, hv => exact hv.elim
            | 25, _, hv => exact hv
            | n + 26, _, _ => exact trivial
          case todo =>
            refine ⟨?_, ?_, ?_, ?_, ?_, ?_, ?_, ?_, ?_, ?_, ?_, ?_, ?_, ?_, ?_, ?_, ?_, ?_, ?_, ?_, ?_, ?_, ?_, ?_, ?_, ?_, trivial⟩
            · intro _ ph h1 h2
              obtain rfl : ph = false := h2 (by kernel_rfl)
              intro ev X hT hb hk hf
              have e0 : ev (.tmp 4) = .slice (some ⟨w.heap.size + 1, 0, Option.none⟩) 1 1 := hk.1
              exact OpOk.move rfl e0 ⟨rfl, Stay.refl _⟩
            · intro _ ph h1 h2
              cases ph
              all_goals
                intro ev X hT hb hk hf
                have e0 : ev (.tmp 1) = .pointer (some ⟨w.heap.size, 0, Option.none⟩) := hk.1
                exact OpOk.run (v := .pointer (some ⟨w.heap.size, 3, Option.none⟩)) (W' := X) (by simp [execOp, e0, hb.1, go_sem]) ⟨rfl, Stay.refl _⟩
            · intro _ ph h1 h2
              obtain rfl : ph = false := h2 (by kernel_rfl)
              intro ev X hT hb hk hf
              have e0 : ev (.tmp 120) = .pointer (some ⟨w.heap.size, 3, Option.none⟩) := hf.1
              have cW := EIv.cell hT 3 rfl
              exact OpOk.run (v := .slice da dl.length dc) (W' := X) (by simp [execOp, e0, cW, go_sem]) ⟨rfl, Stay.refl _⟩
            · exact fun h => absurd rfl h
            · intro _ ph h1 h2
              cases ph
              all_goals
                intro ev X hT hb hk hf
                have e0 : ev (.tmp 1) = .pointer (some ⟨w.heap.size, 0, Option.none⟩) := hk.1
                exact OpOk.run (v := .pointer (some ⟨w.heap.size, 1, Option.none⟩)) (W' := X) (by simp [execOp, e0, hb.1, go_sem]) ⟨rfl, Stay.refl _⟩
            · intro _ ph h1 h2
              cases ph
              all_goals
                intro ev X hT hb hk hf
                have e0 : ev (.tmp 123) = .pointer (some ⟨w.heap.size, 1, Option.none⟩) := hf.1
                have cW := EIv.cell hT 1 rfl
                exact OpOk.run (v := vb ty) (W' := X) (by simp [execOp, e0, cW, go_sem]) ⟨rfl, Stay.refl _⟩
            · intro _ ph h1 h2
              cases ph
              all_goals
                intro ev X hT hb hk hf
                have e0 : ev (.tmp 124) = vb ty := hf.1
                exact OpOk.run (v := .bool true) (W' := X) (by simp [execOp, e0, hb.1, T0, go_sem]) ⟨rfl, Stay.refl _⟩
            · intro _ ph h1 h2
              obtain rfl : ph = true := h1 (by kernel_rfl)
              intro ev X hT hb hk hf
              have e0 : ev (.tmp 125) = .bool true := hf.1
              exact OpOk.move rfl e0 ⟨rfl, Stay.refl _⟩
            · intro _ ph h1 h2
              cases ph
              all_goals
                intro ev X hT hb hk hf
                refine ⟨true, hf.1, fun _ => ?_, fun h => (h rfl).elim⟩
                have e0 : ev (.tmp 1) = .pointer (some ⟨w.heap.size, 0, Option.none⟩) := hk.1
                exact OpOk.run (v := .pointer (some ⟨w.heap.size, 2, Option.none⟩)) (W' := X) (by simp [execOp, e0, hb.1, go_sem]) ⟨rfl, Stay.refl _⟩
            · intro _ ph h1 h2
              cases ph
              all_goals
                intro ev X hT hb hk hf
                refine ⟨true, hf.2.1, fun _ => ?_, fun h => (h rfl).elim⟩
                have e0 : ev (.tmp 127) = .pointer (some ⟨w.heap.size, 2, Option.none⟩) := hf.1
                have cW := EIv.cell hT 2 rfl
                exact OpOk.run (v := u32v sz) (W' := X) (by simp [execOp, e0, cW, go_sem]) ⟨rfl, Stay.refl _⟩
            · intro _ ph h1 h2
              cases ph
              all_goals
                intro ev X hT hb hk hf
                refine ⟨true, hf.2.1, fun _ => ?_, fun h => (h rfl).elim⟩
                have e0 : ev (.tmp 128) = u32v sz := hf.1
                exact OpOk.run (v := .bool true) (W' := X) (by simp [execOp, e0, hb.1, S0, go_sem]) ⟨rfl, Stay.refl _⟩
            · intro _ ph h1 h2
              cases ph
              all_goals
                intro ev X hT hb hk hf
                have e0 : ev (.tmp 126) = .bool true := hf.1
                have e1 : ev (.tmp 129) = .bool true := hf.2.1
                exact OpOk.run (v := .bool true) (W' := X) (by simp [execOp, e0, e1, hb, hb.1, hb.2.1, hb.2.2, go_sem]) ⟨rfl, Stay.refl _⟩
            · intro _ ph h1 h2
              cases ph
              all_goals
                intro ev X hT hb hk hf
                have e0 : ev (.tmp 130) = .bool true := hf.1
                exact OpOk.move rfl e0 ⟨rfl, Stay.refl _⟩
            · intro _ ph h1 h2
              cases ph
              all_goals
                intro ev X hT hb hk hf
                refine ⟨true, hf.1, fun _ => ?_, fun h => (h rfl).elim⟩
                have e0 : ev (.tmp 1) = .pointer (some ⟨w.heap.size, 0, Option.none⟩) := hk.1
                exact OpOk.run (v := .pointer (some ⟨w.heap.size, 3, Option.none⟩)) (W' := X) (by simp [execOp, e0, hb.1, go_sem]) ⟨rfl, Stay.refl _⟩
            · intro _ ph h1 h2
              cases ph
              all_goals
                intro ev X hT hb hk hf
                refine ⟨true, hf.2.1, fun _ => ?_, fun h => (h rfl).elim⟩
                have e0 : ev (.tmp 132) = .pointer (some ⟨w.heap.size, 3, Option.none⟩) := hf.1
                have cW := EIv.cell hT 3 rfl
                exact OpOk.run (v := .slice da dl.length dc) (W' := X) (by simp [execOp, e0, cW, go_sem]) ⟨rfl, Stay.refl _⟩
            · intro _ ph h1 h2
              cases ph
              all_goals
                intro ev X hT hb hk hf
                refine ⟨true, hf.2.1, fun _ => ?_, fun h => (h rfl).elim⟩
                have e0 : ev (.tmp 133) = .slice da dl.length dc := hf.1
                exact OpOk.run (v := .int .i64 ((dl.length : Nat) : Int)) (W' := X) (by simp [execOp, e0, hb.1, go_sem]) ⟨rfl, Stay.refl _⟩
            · intro _ ph h1 h2
              cases ph
              all_goals
                intro ev X hT hb hk hf
                refine ⟨true, hf.2.1, fun _ => ?_, fun h => (h rfl).elim⟩
                have e0 : ev (.tmp 134) = .int .i64 ((dl.length : Nat) : Int) := hf.1
                exact OpOk.run (v := .bool true) (W' := X) (by simp [execOp, e0, hb.1, DG, go_sem]) ⟨rfl, Stay.refl _⟩
            · intro _ ph h1 h2
              cases ph
              all_goals
                intro ev X hT hb hk hf
                have e0 : ev (.tmp 131) = .bool true := hf.1
                have e1 : ev (.tmp 135) = .bool true := hf.2.1
                exact OpOk.run (v := .bool true) (W' := X) (by simp [execOp, e0, e1, hb, hb.1, hb.2.1, hb.2.2, go_sem]) ⟨rfl, Stay.refl _⟩
            · intro _ ph h1 h2
              cases ph
              all_goals
                intro ev X hT hb hk hf
                have e0 : ev (.tmp 136) = .bool true := hf.1
                exact OpOk.move rfl e0 ⟨rfl, Stay.refl _⟩
            · intro _ ph h1 h2
              cases ph
              all_goals
                intro ev X hT hb hk hf
                refine ⟨true, hf.1, fun _ => ?_, fun h => (h rfl).elim⟩
                have e0 : ev (.tmp 1) = .pointer (some ⟨w.heap.size, 0, Option.none⟩) := hk.1
                exact OpOk.run (v := .pointer (some ⟨w.heap.size, 3, Option.none⟩)) (W' := X) (by simp [execOp, e0, hb.1, go_sem]) ⟨rfl, Stay.refl _⟩
            · intro _ ph h1 h2
              cases ph
              all_goals
                intro ev X hT hb hk hf
                refine ⟨true, hf.2.1, fun _ => ?_, fun h => (h rfl).elim⟩
                have e0 : ev (.tmp 138) = .pointer (some ⟨w.heap.size, 3, Option.none⟩) := hf.1
                have cW := EIv.cell hT 3 rfl
                exact OpOk.run (v := .slice da dl.length dc) (W' := X) (by simp [execOp, e0, cW, go_sem]) ⟨rfl, Stay.refl _⟩
            · intro _ ph h1 h2
              cases ph
              all_goals
                intro ev X hT hb hk hf
                refine ⟨true, hf.2.1, fun _ => ?_, fun h => (h rfl).elim⟩
                have e0 : ev (.tmp 139) = .slice da dl.length dc := hf.1
                exact OpOk.run (v := .int .i64 ((dl.length : Nat) : Int)) (W' := X) (by simp [execOp, e0, hb.1, go_sem]) ⟨rfl, Stay.refl _⟩
            · intro _ ph h1 h2
              cases ph
              all_goals
                intro ev X hT hb hk hf
                refine ⟨true, hf.2.1, fun _ => ?_, fun h => (h rfl).elim⟩
                have e0 : ev (.tmp 140) = .int .i64 ((dl.length : Nat) : Int) := hf.1
                exact OpOk.run (v := .bool false) (W' := X) (by simp [execOp, e0, hb.1, E0, go_sem]) ⟨rfl, Stay.refl _⟩
            · intro _ ph h1 h2
              cases ph
              all_goals
                intro ev X hT hb hk hf
                have e0 : ev (.tmp 137) = .bool true := hf.1
                have e1 : ev (.tmp 141) = .bool false := hf.2.1
                exact OpOk.run (v := .bool false) (W' := X) (by simp [execOp, e0, e1, hb, hb.1, hb.2.1, hb.2.2, go_sem]) ⟨rfl, Stay.refl _⟩
            · intro _ ph h1 h2
              obtain rfl : ph = true := h1 (by kernel_rfl)
              intro ev X hT hb hk hf
              have e0 := hf.1
              exact OpOk.assign rfl rfl ⟨e0, Stay.refl _⟩
            · intro _ ph h1 h2
              obtain rfl : ph = true := h1 (by kernel_rfl)
              intro ev X hT hb hk hf
              have e0 : ev (.tmp 142) = .bool false := hf.1
              exact OpOk.assign rfl e0 ⟨rfl, Stay.refl _⟩
          case rest =>
            intro X hT
            rintro _ rfl _ rfl _ rfl _ - _ rfl _ rfl _ rfl _ rfl _ rfl _ rfl _ rfl _ rfl _ rfl _ rfl _ rfl _ rfl _ rfl _ rfl _ rfl _ rfl _ rfl _ rfl _ rfl _ rfl vo ho _ rfl
            obtain ⟨xa, xc, rfl, _, _, _, _⟩ := own_value ho
            have HO := hide ho
            have HST := hide hT
            clear ho hT
            go_wp2
            refine Rest.done ?_
            go_wp2_with fail
            go_ret2
            exact ⟨_, rfl, (fun h => by cases h), all_below HST.out.1.right HST.out.2⟩
    · have hk2 : decide (ty = 0 ∧ sz = 0 ∧ ¬dl.length = 0 ∧ dl.length ≤ 64) = false := decide_eq_false (fun h => ps h.2.1)
      rw [hk2]
      clear hk2
      have T0 : (((ty.toNat : Nat) : Int) == 0) = true := by rw [pt]; rfl
      have S0 : ((sz : Int) == 0) = false := by rw [beq_eq_false_iff_ne]; omega
      clear hEB
      clear pt
      clear ps
      go_enter Try.func23, Try.ntmps23
      go_wp2_with fail
      refine wp_region_app 3 [isV (.slice (some ⟨w.heap.size + 1, 0, Option.none⟩) 1 1), isV (.pointer (some ⟨w.heap.size, 3, Option.none⟩)), isV (.slice da dl.length dc), (fun _ _ => True), isV (.pointer (some ⟨w.heap.size, 1, Option.none⟩)), isV (vb ty), isV (.bool true), isV (.bool true), isV (.pointer (some ⟨w.heap.size, 2, Option.none⟩)), isV (u32v sz), isV (.bool false), isV (.bool false), isV (.bool false), isV (undef), isV (undef), isV (undef), isV (undef), isV (.bool false), isV (.bool false), isV (undef), isV (undef), isV (undef), isV (undef), isV (.bool false), (fun _ _ => False), isV (.bool false)]
        [isV (.slice (some ⟨w.heap.size + 1, 0, Option.none⟩) 1 1), isV (.pointer (some ⟨w.heap.size, 3, Option.none⟩)), isV (.slice da dl.length dc), (fun v X => (ownR v ([8] ++ dl) * (EF w ⟨8, ty, sz, dl⟩ (.slice da dl.length dc))).on X), isV (.pointer (some ⟨w.heap.size, 1, Option.none⟩)), isV (vb ty), isV (.bool true), isV (.bool true), isV (.pointer (some ⟨w.heap.size, 2, Option.none⟩)), isV (u32v sz), isV (.bool false), isV (.bool false), isV (.bool false), isV (undef), isV (undef), isV (undef), isV (undef), isV (.bool false), isV (.bool false), isV (undef), isV (undef), isV (undef), isV (undef), isV (.bool false), (fun v X => (ownR v ([8] ++ dl) * (EF w ⟨8, ty, sz, dl⟩ (.slice da dl.length dc))).on X), isV (.bool false)] _ rfl (by kernel_rfl) (by kernel_rfl) rfl (by decide) (EIv (ownR (.slice (some ⟨w.heap.size + 1, 0, Option.none⟩) 1 1) [8]) w ⟨8, ty, sz, dl⟩ (.slice da dl.length dc)) ⟨SP.on.drew H1.out, Str.drew HS1.out⟩ EIv.stay ?keep ?keep2 ?store ?todo ?rest
      case keep => exact ⟨Keep.isV _, Keep.isV _, Keep.isV _, fun _ _ _ h _ => h, Keep.isV _, Keep.isV _, Keep.isV _, Keep.isV _, Keep.isV _, Keep.isV _, Keep.isV _, Keep.isV _, Keep.isV _, Keep.isV _, Keep.isV _, Keep.isV _, Keep.isV _, Keep.isV _, Keep.isV _, Keep.isV _, Keep.isV _, Keep.isV _, Keep.isV _, Keep.isV _, fun _ _ _ h _ => h, Keep.isV _, trivial⟩
      case keep2 => exact ⟨Keep.isV _, Keep.isV _, Keep.isV _, fun _ _ _ h k => SP.on.below h k, Keep.isV _, Keep.isV _, Keep.isV _, Keep.isV _, Keep.isV _, Keep.isV _, Keep.isV _, Keep.isV _, Keep.isV _, Keep.isV _, Keep.isV _, Keep.isV _, Keep.isV _, Keep.isV _, Keep.isV _, Keep.isV _, Keep.isV _, Keep.isV _, Keep.isV _, Keep.isV _, fun _ _ _ h k => SP.on.below h k, Keep.isV _, trivial⟩
      case store =>
        intro ev X hT hb hk hf
        have e0 : ev (.tmp 119) = .slice (some ⟨w.heap.size + 1, 0, Option.none⟩) 1 1 := hf.1
        have e1 : ev (.tmp 121) = .slice da dl.length dc := hf.2.1
        refine OpOk.append_bytes (F := (EF w ⟨8, ty, sz, dl⟩ (.slice da dl.length dc))) _ _ _ rfl 5 hu infoR _ [8] dl e0 hT.1 (by rw [e1]; exact Hd.out.below (all_below hT.1.right.right hT.2)) (by have := hlen; simp; omega) ?_
        intro v' X2 ho hs
        refine ⟨⟨ho.right, hT.2.trans hs⟩, ho, ?_⟩
        intro i his hv
        match i, his, hv with
        | 0, _, hv => exact hv
        | 1, _, hv => exact hv
        | 2, _, hv => exact hv
        | 3, h, _ => exact absurd rfl h
        | 4, _, hv => exact hv
        | 5, _, hv => exact hv
        | 6, _, hv => exact hv
        | 7, _, hv => exact hv
        | 8, _, hv => exact hv
        | 9, _, hv => exact hv
        | 10, _, hv => exact hv
        | 11, _, hv => exact hv
        | 12, _, hv => exact hv
        | 13, _, hv => exact hv
        | 14, _, hv => exact hv
        | 15, _, hv => exact hv
        | 16, _, hv => exact hv
        | 17, _, hv => exact hv
        | 18, _, hv => exact hv
        | 19, _, hv => exact hv
        | 20, _, hv => exact hv
        | 21, _, hv => exact hv
        | 22, _, hv => exact hv
        | 23, _, hv => exact hv
        | 24, _, hv => exact hv.elim
        | 25, _, hv => exact hv
        | n + 26, _, _ => exact trivial
      case todo =>
        refine ⟨?_, ?_, ?_, ?_, ?_, ?_, ?_, ?_, ?_, ?_, ?_, ?_, ?_, ?_, ?_, ?_, ?_, ?_, ?_, ?_, ?_, ?_, ?_, ?_, ?_, ?_, trivial⟩
        · intro _ ph h1 h2
          obtain rfl : ph = false := h2 (by kernel_rfl)
          intro ev X hT hb hk hf
          have e0 : ev (.tmp 4) = .slice (some ⟨w.heap.size + 1, 0, Option.none⟩) 1 1 := hk.1
          exact OpOk.move rfl e0 ⟨rfl, Stay.refl _⟩
        · intro _ ph h1 h2
          cases ph
          all_goals
            intro ev X hT hb hk hf
            have e0 : ev (.tmp 1) = .pointer (some ⟨w.heap.size, 0, Option.none⟩) := hk.1
            exact OpOk.run (v := .pointer (some ⟨w.heap.size, 3, Option.none⟩)) (W' := X) (by simp [execOp, e0, hb.1, go_sem]) ⟨rfl, Stay.refl _⟩
        · intro _ ph h1 h2
          obtain rfl : ph = false := h2 (by kernel_rfl)
          intro ev X hT hb hk hf
          have e0 : ev (.tmp 120) = .pointer (some ⟨w.heap.size, 3, Option.none⟩) := hf.1
          have cW := EIv.cell hT 3 rfl
          exact OpOk.run (v := .slice da dl.length dc) (W' := X) (by simp [execOp, e0, cW, go_sem]) ⟨rfl, Stay.refl _⟩
        · exact fun h => absurd rfl h
        · intro _ ph h1 h2
          cases ph
          all_goals
            intro ev X hT hb hk hf
            have e0 : ev (.tmp 1) = .pointer (some ⟨w.heap.size, 0, Option.none⟩) := hk.1
            exact OpOk.run (v := .pointer (some ⟨w.heap.size, 1, Option.none⟩)) (W' := X) (by simp [execOp, e0, hb.1, go_sem]) ⟨rfl, Stay.refl _⟩
        · intro _ ph h1 h2
          cases ph
          all_goals
            intro ev X hT hb hk hf
            have e0 : ev (.tmp 123) = .pointer (some ⟨w.heap.size, 1, Option.none⟩) := hf.1
            have cW := EIv.cell hT 1 rfl
            exact OpOk.run (v := vb ty) (W' := X) (by simp [execOp, e0, cW, go_sem]) ⟨rfl, Stay.refl _⟩
        · intro _ ph h1 h2
          cases ph
          all_goals
            intro ev X hT hb hk hf
            have e0 : ev (.tmp 124) = vb ty := hf.1
            exact OpOk.run (v := .bool true) (W' := X) (by simp [execOp, e0, hb.1, T0, go_sem]) ⟨rfl, Stay.refl _⟩
        · intro _ ph h1 h2
          obtain rfl : ph = true := h1 (by kernel_rfl)
          intro ev X hT hb hk hf
          have e0 : ev (.tmp 125) = .bool true := hf.1
          exact OpOk.move rfl e0 ⟨rfl, Stay.refl _⟩
        · intro _ ph h1 h2
          cases ph
          all_goals
            intro ev X hT hb hk hf
            refine ⟨true, hf.1, fun _ => ?_, fun h => (h rfl).elim⟩
            have e0 : ev (.tmp 1) = .pointer (some ⟨w.heap.size, 0, Option.none⟩) := hk.1
            exact OpOk.run (v := .pointer (some ⟨w.heap.size, 2, Option.none⟩)) (W' := X) (by simp [execOp, e0, hb.1, go_sem]) ⟨rfl, Stay.refl _⟩
        · intro _ ph h1 h2
          cases ph
          all_goals
            intro ev X hT hb hk hf
            refine ⟨true, hf.2.1, fun _ => ?_, fun h => (h rfl).elim⟩
            have e0 : ev (.tmp 127) = .pointer (some ⟨w.heap.size, 2, Option.none⟩) := hf.1
            have cW := EIv.cell hT 2 rfl
            exact OpOk.run (v := u32v sz) (W' := X) (by simp [execOp, e0, cW, go_sem]) ⟨rfl, Stay.refl _⟩
        · intro _ ph h1 h2
          cases ph
          all_goals
            intro ev X hT hb hk hf
            refine ⟨true, hf.2.1, fun _ => ?_, fun h => (h rfl).elim⟩
            have e0 : ev (.tmp 128) = u32v sz := hf.1
            exact OpOk.run (v := .bool false) (W' := X) (by simp [execOp, e0, hb.1, S0, go_sem]) ⟨rfl, Stay.refl _⟩
        · intro _ ph h1 h2
          cases ph
          all_goals
            intro ev X hT hb hk hf
            have e0 : ev (.tmp 126) = .bool true := hf.1
            have e1 : ev (.tmp 129) = .bool false := hf.2.1
            exact OpOk.run (v := .bool false) (W' := X) (by simp [execOp, e0, e1, hb, hb.1, hb.2.1, hb.2.2, go_sem]) ⟨rfl, Stay.refl _⟩
        · intro _ ph h1 h2
          cases ph
          all_goals
            intro ev X hT hb hk hf
            have e0 : ev (.tmp 130) = .bool false := hf.1
            exact OpOk.move rfl e0 ⟨rfl, Stay.refl _⟩
        · intro _ ph h1 h2
          cases ph
          all_goals
            intro ev X hT hb hk hf
            exact ⟨false, hf.1, fun h => (nomatch h), fun _ => rfl⟩
        · intro _ ph h1 h2
          cases ph
          all_goals
            intro ev X hT hb hk hf
            exact ⟨false, hf.2.1, fun h => (nomatch h), fun _ => rfl⟩
        · intro _ ph h1 h2
          cases ph
          all_goals
            intro ev X hT hb hk hf
            exact ⟨false, hf.2.1, fun h => (nomatch h), fun _ => rfl⟩
        · intro _ ph h1 h2
          cases ph
          all_goals
            intro ev X hT hb hk hf
            exact ⟨false, hf.2.1, fun h => (nomatch h), fun _ => rfl⟩
        · intro _ ph h1 h2
          cases ph
          all_goals
            intro ev X hT hb hk hf
            have e0 : ev (.tmp 131) = .bool false := hf.1
            have e1 : ev (.tmp 135) = undef := hf.2.1
            exact OpOk.run (v := .bool false) (W' := X) (by simp [execOp, e0, e1, hb, hb.1, hb.2.1, hb.2.2, go_sem]) ⟨rfl, Stay.refl _⟩
        · intro _ ph h1 h2
          cases ph
          all_goals
            intro ev X hT hb hk hf
            have e0 : ev (.tmp 136) = .bool false := hf.1
            exact OpOk.move rfl e0 ⟨rfl, Stay.refl _⟩
        · intro _ ph h1 h2
          cases ph
          all_goals
            intro ev X hT hb hk hf
            exact ⟨false, hf.1, fun h => (nomatch h), fun _ => rfl⟩
        · intro _ ph h1 h2
          cases ph
          all_goals
            intro ev X hT hb hk hf
            exact ⟨false, hf.2.1, fun h => (nomatch h), fun _ => rfl⟩
        · intro _ ph h1 h2
          cases ph
          all_goals
            intro ev X hT hb hk hf
            exact ⟨false, hf.2.1, fun h => (nomatch h), fun _ => rfl⟩
        · intro _ ph h1 h2
          cases ph
          all_goals
            intro ev X hT hb hk hf
            exact ⟨false, hf.2.1, fun h => (nomatch h), fun _ => rfl⟩
        · intro _ ph h1 h2
          cases ph
          all_goals
            intro ev X hT hb hk hf
            have e0 : ev (.tmp 137) = .bool false := hf.1
            have e1 : ev (.tmp 141) = undef := hf.2.1
            exact OpOk.run (v := .bool false) (W' := X) (by simp [execOp, e0, e1, hb, hb.1, hb.2.1, hb.2.2, go_sem]) ⟨rfl, Stay.refl _⟩
        · intro _ ph h1 h2
          obtain rfl : ph = true := h1 (by kernel_rfl)
          intro ev X hT hb hk hf
          have e0 := hf.1
          exact OpOk.assign rfl rfl ⟨e0, Stay.refl _⟩
        · intro _ ph h1 h2
          obtain rfl : ph = true := h1 (by kernel_rfl)
          intro ev X hT hb hk hf
          have e0 : ev (.tmp 142) = .bool false := hf.1
          exact OpOk.assign rfl e0 ⟨rfl, Stay.refl _⟩
      case rest =>
        intro X hT
        rintro _ rfl _ rfl _ rfl _ - _ rfl _ rfl _ rfl _ rfl _ rfl _ rfl _ rfl _ rfl _ rfl _ rfl _ rfl _ rfl _ rfl _ rfl _ rfl _ rfl _ rfl _ rfl _ rfl _ rfl vo ho _ rfl
        obtain ⟨xa, xc, rfl, _, _, _, _⟩ := own_value ho
        have HO := hide ho
        have HST := hide hT
        clear ho hT
        go_wp2
        refine Rest.done ?_
        go_wp2_with fail
        go_ret2
        exact ⟨_, rfl, (fun h => by cases h), all_below HST.out.1.right HST.out.2⟩
  · have hk2 : decide (ty = 0 ∧ sz = 0 ∧ ¬dl.length = 0 ∧ dl.length ≤ 64) = false := decide_eq_false (fun h => pt h.1)
    rw [hk2]
    clear hk2
    have T0 : (((ty.toNat : Nat) : Int) == 0) = false := by rw [beq_eq_false_iff_ne]; intro e; exact pt (UInt8.toNat_inj.1 (by simpa using e))
    clear hEB
    clear pt
    go_enter Try.func23, Try.ntmps23
    go_wp2_with fail
    refine wp_region_app 3 [isV (.slice (some ⟨w.heap.size + 1, 0, Option.none⟩) 1 1), isV (.pointer (some ⟨w.heap.size, 3, Option.none⟩)), isV (.slice da dl.length dc), (fun _ _ => True), isV (.pointer (some ⟨w.heap.size, 1, Option.none⟩)), isV (vb ty), isV (.bool false), isV (.bool false), isV (undef), isV (undef), isV (undef), isV (.bool false), isV (.bool false), isV (undef), isV (undef), isV (undef), isV (undef), isV (.bool false), isV (.bool false), isV (undef), isV (undef), isV (undef), isV (undef), isV (.bool false), (fun _ _ => False), isV (.bool false)]
      [isV (.slice (some ⟨w.heap.size + 1, 0, Option.none⟩) 1 1), isV (.pointer (some ⟨w.heap.size, 3, Option.none⟩)), isV (.slice da dl.length dc), (fun v X => (ownR v ([8] ++ dl) * (EF w ⟨8, ty, sz, dl⟩ (.slice da dl.length dc))).on X), isV (.pointer (some ⟨w.heap.size, 1, Option.none⟩)), isV (vb ty), isV (.bool false), isV (.bool false), isV (undef), isV (undef), isV (undef), isV (.bool false), isV (.bool false), isV (undef), isV (undef), isV (undef), isV (undef), isV (.bool false), isV (.bool false), isV (undef), isV (undef), isV (undef), isV (undef), isV (.bool false), (fun v X => (ownR v ([8] ++ dl) * (EF w ⟨8, ty, sz, dl⟩ (.slice da dl.length dc))).on X), isV (.bool false)] _ rfl (by kernel_rfl) (by kernel_rfl) rfl (by decide) (EIv (ownR (.slice (some ⟨w.heap.size + 1, 0, Option.none⟩) 1 1) [8]) w ⟨8, ty, sz, dl⟩ (.slice da dl.length dc)) ⟨SP.on.drew H1.out, Str.drew HS1.out⟩ EIv.stay ?keep ?keep2 ?store ?todo ?rest
    case keep => exact ⟨Keep.isV _, Keep.isV _, Keep.isV _, fun _ _ _ h _ => h, Keep.isV _, Keep.isV _, Keep.isV _, Keep.isV _, Keep.isV _, Keep.isV _, Keep.isV _, Keep.isV _, Keep.isV _, Keep.isV _, Keep.isV _, Keep.isV _, Keep.isV _, Keep.isV _, Keep.isV _, Keep.isV _, Keep.isV _, Keep.isV _, Keep.isV _, Keep.isV _, fun _ _ _ h _ => h, Keep.isV _, trivial⟩
    case keep2 => exact ⟨Keep.isV _, Keep.isV _, Keep.isV _, fun _ _ _ h k => SP.on.below h k, Keep.isV _, Keep.isV _, Keep.isV _, Keep.isV _, Keep.isV _, Keep.isV _, Keep.isV _, Keep.isV _, Keep.isV _, Keep.isV _, Keep.isV _, Keep.isV _, Keep.isV _, Keep.isV _, Keep.isV _, Keep.isV _, Keep.isV _, Keep.isV _, Keep.isV _, Keep.isV _, fun _ _ _ h k => SP.on.below h k, Keep.isV _, trivial⟩
    case store =>
      intro ev X hT hb hk hf
      have e0 : ev (.tmp 119) = .slice (some ⟨w.heap.size + 1, 0, Option.none⟩) 1 1 := hf.1
      have e1 : ev (.tmp 121) = .slice da dl.length dc := hf.2.1
      refine OpOk.append_bytes (F := (EF w ⟨8, ty, sz, dl⟩ (.slice da dl.length dc))) _ _ _ rfl 5 hu infoR _ [8] dl e0 hT.1 (by rw [e1]; exact Hd.out.below (all_below hT.1.right.right hT.2)) (by have := hlen; simp; omega) ?_
      intro v' X2 ho hs
      refine ⟨⟨ho.right, hT.2.trans hs⟩, ho, ?_⟩
      intro i his hv
      match i, his, hv with
      | 0, _, hv => exact hv
      | 1, _, hv => exact hv
      | 2, _, hv => exact hv
      | 3, h, _ => exact absurd rfl h
      | 4, _, hv => exact hv
      | 5, _, hv => exact hv
      | 6, _, hv => exact hv
      | 7, _, hv => exact hv
      | 8, _, hv => exact hv
      | 9, _, hv => exact hv
      | 10, _, hv => exact hv
      | 11, _, hv => exact hv
      | 12, _, hv => exact hv
      | 13, _, hv => exact hv
      | 14, _, hv => exact hv
      | 15, _, hv => exact hv
      | 16, _, hv => exact hv
      | 17, _, hv => exact hv
      | 18, _, hv => exact hv
      | 19, _, hv => exact hv
      | 20, _, hv => exact hv
      | 21, _, hv => exact hv
      | 22, _, hv => exact hv
      | 23, _, hv => exact hv
      | 24, _, hv => exact hv.elim
      | 25, _, hv => exact hv
      | n + 26, _, _ => exact trivial
    case todo =>
      refine ⟨?_, ?_, ?_, ?_, ?_, ?_, ?_, ?_, ?_, ?_, ?_, ?_, ?_, ?_, ?_, ?_, ?_, ?_, ?_, ?_, ?_, ?_, ?_, ?_, ?_, ?_, trivial⟩
      · intro _ ph h1 h2
        obtain rfl : ph = false := h2 (by kernel_rfl)
        intro ev X hT hb hk hf
        have e0 : ev (.tmp 4) = .slice (some ⟨w.heap.size + 1, 0, Option.none⟩) 1 1 := hk.1
        exact OpOk.move rfl e0 ⟨rfl, Stay.refl _⟩
      · intro _ ph h1 h2
        cases ph
        all_goals
          intro ev X hT hb hk hf
          have e0 : ev (.tmp 1) = .pointer (some ⟨w.heap.size, 0, Option.none⟩) := hk.1
          exact OpOk.run (v := .pointer (some ⟨w.heap.size, 3, Option.none⟩)) (W' := X) (by simp [execOp, e0, hb.1, go_sem]) ⟨rfl, Stay.refl _⟩
      · intro _ ph h1 h2
        obtain rfl : ph = false := h2 (by kernel_rfl)
        intro ev X hT hb hk hf
        have e0 : ev (.tmp 120) = .pointer (some ⟨w.heap.size, 3, Option.none⟩) := hf.1
        have cW := EIv.cell hT 3 rfl
        exact OpOk.run (v := .slice da dl.length dc) (W' := X) (by simp [execOp, e0, cW, go_sem]) ⟨rfl, Stay.refl _⟩
      · exact fun h => absurd rfl h
      · intro _ ph h1 h2
        cases ph
        all_goals
          intro ev X hT hb hk hf
          have e0 : ev (.tmp 1) = .pointer (some ⟨w.heap.size, 0, Option.none⟩) := hk.1
          exact OpOk.run (v := .pointer (some ⟨w.heap.size, 1, Option.none⟩)) (W' := X) (by simp [execOp, e0, hb.1, go_sem]) ⟨rfl, Stay.refl _⟩
      · intro _ ph h1 h2
        cases ph
        all_goals
          intro ev X hT hb hk hf
          have e0 : ev (.tmp 123) = .pointer (some ⟨w.heap.size, 1, Option.none⟩) := hf.1
          have cW := EIv.cell hT 1 rfl
          exact OpOk.run (v := vb ty) (W' := X) (by simp [execOp, e0, cW, go_sem]) ⟨rfl, Stay.refl _⟩
      · intro _ ph h1 h2
        cases ph
        all_goals
          intro ev X hT hb hk hf
          have e0 : ev (.tmp 124) = vb ty := hf.1
          exact OpOk.run (v := .bool false) (W' := X) (by simp [execOp, e0, hb.1, T0, go_sem]) ⟨rfl, Stay.refl _⟩
      · intro _ ph h1 h2
        obtain rfl : ph = true := h1 (by kernel_rfl)
        intro ev X hT hb hk hf
        have e0 : ev (.tmp 125) = .bool false := hf.1
        exact OpOk.move rfl e0 ⟨rfl, Stay.refl _⟩
      · intro _ ph h1 h2
        cases ph
        all_goals
          intro ev X hT hb hk hf
          exact ⟨false, hf.1, fun h => (nomatch h), fun _ => rfl⟩
      · intro _ ph h1 h2
        cases ph
        all_goals
          intro ev X hT hb hk hf
          exact ⟨false, hf.2.1, fun h => (nomatch h), fun _ => rfl⟩
      · intro _ ph h1 h2
        cases ph
        all_goals
          intro ev X hT hb hk hf
          exact ⟨false, hf.2.1, fun h => (nomatch h), fun _ => rfl⟩
      · intro _ ph h1 h2
        cases ph
        all_goals
          intro ev X hT hb hk hf
          have e0 : ev (.tmp 126) = .bool false := hf.1
          have e1 : ev (.tmp 129) = undef := hf.2.1
          exact OpOk.run (v := .bool false) (W' := X) (by simp [execOp, e0, e1, hb, hb.1, hb.2.1, hb.2.2, go_sem]) ⟨rfl, Stay.refl _⟩
      · intro _ ph h1 h2
        cases ph
        all_goals
          intro ev X hT hb hk hf
          have e0 : ev (.tmp 130) = .bool false := hf.1
          exact OpOk.move rfl e0 ⟨rfl, Stay.refl _⟩
      · intro _ ph h1 h2
        cases ph
        all_goals
          intro ev X hT hb hk hf
          exact ⟨false, hf.1, fun h => (nomatch h), fun _ => rfl⟩
      · intro _ ph h1 h2
        cases ph
        all_goals
          intro ev X hT hb hk hf
          exact ⟨false, hf.2.1, fun h => (nomatch h), fun _ => rfl⟩
      · intro _ ph h1 h2
        cases ph
        all_goals
          intro ev X hT hb hk hf
          exact ⟨false, hf.2.1, fun h => (nomatch h), fun _ => rfl⟩
      · intro _ ph h1 h2
        cases ph
        all_goals
          intro ev X hT hb hk hf
          exact ⟨false, hf.2.1, fun h => (nomatch h), fun _ => rfl⟩
      · intro _ ph h1 h2
        cases ph
        all_goals
          intro ev X hT hb hk hf
          have e0 : ev (.tmp 131) = .bool false := hf.1
          have e1 : ev (.tmp 135) = undef := hf.2.1
          exact OpOk.run (v := .bool false) (W' := X) (by simp [execOp, e0, e1, hb, hb.1, hb.2.1, hb.2.2, go_sem]) ⟨rfl, Stay.refl _⟩
      · intro _ ph h1 h2
        cases ph
        all_goals
          intro ev X hT hb hk hf
          have e0 : ev (.tmp 136) = .bool false := hf.1
          exact OpOk.move rfl e0 ⟨rfl, Stay.refl _⟩
      · intro _ ph h1 h2
        cases ph
        all_goals
          intro ev X hT hb hk hf
          exact ⟨false, hf.1, fun h => (nomatch h), fun _ => rfl⟩
      · intro _ ph h1 h2
        cases ph
        all_goals
          intro ev X hT hb hk hf
          exact ⟨false, hf.2.1, fun h => (nomatch h), fun _ => rfl⟩
      · intro _ ph h1 h2
        cases ph
        all_goals
          intro ev X hT hb hk hf
          exact ⟨false, hf.2.1, fun h => (nomatch h), fun _ => rfl⟩
      · intro _ ph h1 h2
        cases ph
        all_goals
          intro ev X hT hb hk hf
          exact ⟨false, hf.2.1, fun h => (nomatch h), fun _ => rfl⟩
      · intro _ ph h1 h2
        cases ph
        all_goals
          intro ev X hT hb hk hf
          have e0 : ev (.tmp 137) = .bool false := hf.1
          have e1 : ev (.tmp 141) = undef := hf.2.1
          exact OpOk.run (v := .bool false) (W' := X) (by simp [execOp, e0, e1, hb, hb.1, hb.2.1, hb.2.2, go_sem]) ⟨rfl, Stay.refl _⟩
      · intro _ ph h1 h2
        obtain rfl : ph = true := h1 (by kernel_rfl)
        intro ev X hT hb hk hf
        have e0 := hf.1
        exact OpOk.assign rfl rfl ⟨e0, Stay.refl _⟩
      · intro _ ph h1 h2
        obtain rfl : ph = true := h1 (by kernel_rfl)
        intro ev X hT hb hk hf
        have e0 : ev (.tmp 142) = .bool false := hf.1
        exact OpOk.assign rfl e0 ⟨rfl, Stay.refl _⟩
    case rest =>
      intro X hT
      rintro _ rfl _ rfl _ rfl _ - _ rfl _ rfl _ rfl _ rfl _ rfl _ rfl _ rfl _ rfl _ rfl _ rfl _ rfl _ rfl _ rfl _ rfl _ rfl _ rfl _ rfl _ rfl _ rfl _ rfl vo ho _ rfl
      obtain ⟨xa, xc, rfl, _, _, _, _⟩ := own_value ho
      have HO := hide ho
      have HST := hide hT
      clear ho hT
      go_wp2
      refine Rest.done ?_
      go_wp2_with fail
      go_ret2
      exact ⟨_, rfl, (fun h => by cases h), all_below HST.out.1.right HST.out.2⟩

set_option maxRecDepth 100000 in
set_option maxHeartbeats 16000000 in
theorem renc_no (op ty : UInt8) (sz : Nat) (dl : List UInt8) (dv : Value) (w : World) (hsz : sz < 4294967296) (h : IsBytes w dv dl) (hlen : dl.length ≤ 1000000) (hop : ¬(op = 0 ∨ op = 3 ∨ op = 4 ∨ op = 7 ∨ op = 12 ∨ op = 1 ∨ op = 2 ∨ op = 6 ∨ op = 9 ∨ op = 8)) (hEB : False → encBytes ⟨op, ty, sz, dl⟩ = []) :
    Calls Try.prog 23 #[.agg (reqCells ⟨op, ty, sz, dl⟩ dv)] w (REncEnd (decide (False)) (encBytes ⟨op, ty, sz, dl⟩) w) := by
  have hu := Try.underlying23
  have Hd := hide h
  obtain ⟨da, dc, rfl, hdc, hdm, _, _⟩ := h
  unfold maxLen at hdm
  have hw0 := (on_all w).alloc (.cells (reqCells ⟨op, ty, sz, dl⟩ (.slice da dl.length dc)) 49)
  have hs0 := (Str.refl w).alloc (.cells (reqCells ⟨op, ty, sz, dl⟩ (.slice da dl.length dc)) 49)
  have hw1 := own_new 5 1 1 (vbs [op]) hw0 rfl (by decide)
  have hv1 : (vbs [op]).toArray = #[vb op] := rfl
  rw [hv1] at hw1
  simp only [World.size_alloc] at hw1
  have hs1 := hs0.alloc (.cells #[vb op] 5)
  have g0 := on_blk_mul hw0
  have g1 := on_blk_mul hw1.right
  have q0 : _ = some (vb op) := cell_of_row _ w.heap.size 0 _ _ _ g0
  have q1 : _ = some (vb ty) := cell_of_row _ w.heap.size 1 _ _ _ g1
  have q2 : _ = some (u32v sz) := cell_of_row _ w.heap.size 2 _ _ _ g1
  have q3 : _ = some (Value.slice da dl.length dc) := cell_of_row _ w.heap.size 3 _ _ _ g1
  have q4 : _ = some (vb op) := cell_of_row _ w.heap.size 0 _ _ _ g1
  have H1 := hide hw1
  have HS1 := hide hs1
  clear hw0 hs0 hw1 hv1 hs1 g0 g1
  have n0 := ne8 op 0 (by decide) (fun e => hop (by rw [e]; simp))
  have n3 := ne8 op 3 (by decide) (fun e => hop (by rw [e]; simp))
  have n4 := ne8 op 4 (by decide) (fun e => hop (by rw [e]; simp))
  have n7 := ne8 op 7 (by decide) (fun e => hop (by rw [e]; simp))
  have n12 := ne8 op 12 (by decide) (fun e => hop (by rw [e]; simp))
  have n1 := ne8 op 1 (by decide) (fun e => hop (by rw [e]; simp))
  have n2 := ne8 op 2 (by decide) (fun e => hop (by rw [e]; simp))
  have n6 := ne8 op 6 (by decide) (fun e => hop (by rw [e]; simp))
  have n9 := ne8 op 9 (by decide) (fun e => hop (by rw [e]; simp))
  have n8 := ne8 op 8 (by decide) (fun e => hop (by rw [e]; simp))
  clear hop
  by_cases pt : ty = 0
  · by_cases ps : sz = 0
    · by_cases pd : dl.length = 0
      · have hk2 : decide (False) = false := decide_eq_false (fun h => h)
        rw [hk2]
        clear hk2
        have T0 : (((ty.toNat : Nat) : Int) == 0) = true := by rw [pt]; rfl
        have S0 : ((sz : Int) == 0) = true := by rw [ps]; rfl
        have D0 : ((dl.length : Int) == 0) = true := by rw [pd]; rfl
        have DG : decide (0 < dl.length) = false := decide_eq_false (by omega)
        clear hEB
        clear pt
        clear ps
        clear pd
        go_enter Try.func23, Try.ntmps23
        go_wp2_with fail
        go_ret2
        exact ⟨_, rfl, (fun h => by cases h), all_below H1.out.right.right HS1.out⟩
      · have hk2 : decide (False) = false := decide_eq_false (fun h => h)
        rw [hk2]
        clear hk2
        have T0 : (((ty.toNat : Nat) : Int) == 0) = true := by rw [pt]; rfl
        have S0 : ((sz : Int) == 0) = true := by rw [ps]; rfl
        have D0 : ((dl.length : Int) == 0) = false := by rw [beq_eq_false_iff_ne]; omega
        have DG : decide (0 < dl.length) = true := decide_eq_true (by omega)
        clear hEB
        clear pt
        clear ps
        clear pd
        go_enter Try.func23, Try.ntmps23
        go_wp2_with fail
        go_ret2
        exact ⟨_, rfl, (fun h => by cases h), all_below H1.out.right.right HS1.out⟩
    · have hk2 : decide (False) = false := decide_eq_false (fun h => h)
      rw [hk2]
      clear hk2
      have T0 : (((ty.toNat : Nat) : Int) == 0) = true := by rw [pt]; rfl
      have S0 : ((sz : Int) == 0) = false := by rw [beq_eq_false_iff_ne]; omega
      clear hEB
      clear pt
      clear ps
      go_enter Try.func23, Try.ntmps23
      go_wp2_with fail
      go_ret2
      exact ⟨_, rfl, (fun h => by cases h), all_below H1.out.right.right HS1.out⟩
  · have hk2 : decide (False) = false := decide_eq_false (fun h => h)
    rw [hk2]
    clear hk2
    have T0 : (((ty.toNat : Nat) : Int) == 0) = false := by rw [beq_eq_false_iff_ne]; intro e; exact pt (UInt8.toNat_inj.1 (by simpa using e))
    clear hEB
    clear pt
    go_enter Try.func23, Try.ntmps23
    go_wp2_with fail
    go_ret2
    exact ⟨_, rfl, (fun h => by cases h), all_below H1.out.right.right HS1.out⟩
end Go.Proofs.Ytdieaegajahdpaa
