/- opcode: the document's bytes of a request. -/
import Derived.Test.YtdieaegajahdpaaOpc8
namespace Go.Proofs.Ytdieaegajahdpaa
open Go.ChangeShapes Go.WideShapes Go.ChangeAt Go.RowKit
set_option linter.unusedVariables false
set_option linter.unusedSimpArgs false

set_option maxRecDepth 100000 in
set_option maxHeartbeats 16000000 in
theorem renc_0 (ty : UInt8) (sz : Nat) (dl : List UInt8) (dv : Value) (w : World) (hsz : sz < 4294967296) (h : IsBytes w dv dl) (hlen : dl.length ≤ 1000000) (hEB : dl.length = 0 → encBytes ⟨0, ty, sz, dl⟩ = [0]) :
    Calls Try.prog 23 #[.agg (reqCells ⟨0, ty, sz, dl⟩ dv)] w (REncEnd (decide (ty = 0 ∧ sz = 0 ∧ dl.length = 0)) (encBytes ⟨0, ty, sz, dl⟩) w) := by
  have hu := Try.underlying23
  have Hd := hide h
  obtain ⟨da, dc, rfl, hdc, hdm, _, _⟩ := h
  unfold maxLen at hdm
  have hw0 := (on_all w).alloc (.cells (reqCells ⟨0, ty, sz, dl⟩ (.slice da dl.length dc)) 49)
  have hs0 := (Str.refl w).alloc (.cells (reqCells ⟨0, ty, sz, dl⟩ (.slice da dl.length dc)) 49)
  have hw1 := own_new 5 1 1 (vbs [0]) hw0 rfl (by decide)
  have hv1 : (vbs [0]).toArray = #[vb 0] := rfl
  rw [hv1] at hw1
  simp only [World.size_alloc] at hw1
  have hs1 := hs0.alloc (.cells #[vb 0] 5)
  have g0 := on_blk_mul hw0
  have g1 := on_blk_mul hw1.right
  have q0 : _ = some (vb 0) := cell_of_row _ w.heap.size 0 _ _ _ g0
  have q1 : _ = some (vb ty) := cell_of_row _ w.heap.size 1 _ _ _ g1
  have q2 : _ = some (u32v sz) := cell_of_row _ w.heap.size 2 _ _ _ g1
  have q3 : _ = some (Value.slice da dl.length dc) := cell_of_row _ w.heap.size 3 _ _ _ g1
  have q4 : _ = some (vb 0) := cell_of_row _ w.heap.size 0 _ _ _ g1
  have H1 := hide hw1
  have HS1 := hide hs1
  clear hw0 hs0 hw1 hv1 hs1 g0 g1
  by_cases pt : ty = 0
  · by_cases ps : sz = 0
    · by_cases pd : dl.length = 0
      · have hk2 : decide (ty = 0 ∧ sz = 0 ∧ dl.length = 0) = true := decide_eq_true ⟨pt, ps, pd⟩
        rw [hk2]
        clear hk2
        have T0 : (((ty.toNat : Nat) : Int) == 0) = true := by rw [pt]; rfl
        have S0 : ((sz : Int) == 0) = true := by rw [ps]; rfl
        have D0 : ((dl.length : Int) == 0) = true := by rw [pd]; rfl
        have DG : decide (0 < dl.length) = false := decide_eq_false (by omega)
        have EB := hide (hEB pd)
        clear hEB
        clear pt
        clear ps
        clear pd
        go_enter Try.func23, Try.ntmps23
        go_wp2_with fail
        go_ret2
        exact ⟨_, rfl, fun _ => by rw [EB.out]; exact own_bytes H1.out, all_below H1.out.right.right HS1.out⟩
      · have hk2 : decide (ty = 0 ∧ sz = 0 ∧ dl.length = 0) = false := decide_eq_false (fun h => pd h.2.2)
        rw [hk2]
        clear hk2
        have T0 : (((ty.toNat : Nat) : Int) == 0) = true := by rw [pt]; rfl
        have S0 : ((sz : Int) == 0) = true := by rw [ps]; rfl
        have D0 : ((dl.length : Int) == 0) = false := by rw [beq_eq_false_iff_ne]; omega
        have DG : decide (0 < dl.length) = true := decide_eq_true (by omega)
        clear hEB
        clear pt
        clear ps
        clear pd
        go_enter Try.func23, Try.ntmps23
        go_wp2_with fail
        go_ret2
        exact ⟨_, rfl, (fun h => by cases h), all_below H1.out.right.right HS1.out⟩
    · have hk2 : decide (ty = 0 ∧ sz = 0 ∧ dl.length = 0) = false := decide_eq_false (fun h => ps h.2.1)
      rw [hk2]
      clear hk2
      have T0 : (((ty.toNat : Nat) : Int) == 0) = true := by rw [pt]; rfl
      have S0 : ((sz : Int) == 0) = false := by rw [beq_eq_false_iff_ne]; omega
      clear hEB
      clear pt
      clear ps
      go_enter Try.func23, Try.ntmps23
      go_wp2_with fail
      go_ret2
      exact ⟨_, rfl, (fun h => by cases h), all_below H1.out.right.right HS1.out⟩
  · have hk2 : decide (ty = 0 ∧ sz = 0 ∧ dl.length = 0) = false := decide_eq_false (fun h => pt h.1)
    rw [hk2]
    clear hk2
    have T0 : (((ty.toNat : Nat) : Int) == 0) = false := by rw [beq_eq_false_iff_ne]; intro e; exact pt (UInt8.toNat_inj.1 (by simpa using e))
    clear hEB
    clear pt
    go_enter Try.func23, Try.ntmps23
    go_wp2_with fail
    go_ret2
    exact ⟨_, rfl, (fun h => by cases h), all_below H1.out.right.right HS1.out⟩

set_option maxRecDepth 100000 in
set_option maxHeartbeats 16000000 in
theorem renc_3 (ty : UInt8) (sz : Nat) (dl : List UInt8) (dv : Value) (w : World) (hsz : sz < 4294967296) (h : IsBytes w dv dl) (hlen : dl.length ≤ 1000000) (hEB : dl.length = 0 → encBytes ⟨3, ty, sz, dl⟩ = [3]) :
    Calls Try.prog 23 #[.agg (reqCells ⟨3, ty, sz, dl⟩ dv)] w (REncEnd (decide (ty = 0 ∧ sz = 0 ∧ dl.length = 0)) (encBytes ⟨3, ty, sz, dl⟩) w) := by
  have hu := Try.underlying23
  have Hd := hide h
  obtain ⟨da, dc, rfl, hdc, hdm, _, _⟩ := h
  unfold maxLen at hdm
  have hw0 := (on_all w).alloc (.cells (reqCells ⟨3, ty, sz, dl⟩ (.slice da dl.length dc)) 49)
  have hs0 := (Str.refl w).alloc (.cells (reqCells ⟨3, ty, sz, dl⟩ (.slice da dl.length dc)) 49)
  have hw1 := own_new 5 1 1 (vbs [3]) hw0 rfl (by decide)
  have hv1 : (vbs [3]).toArray = #[vb 3] := rfl
  rw [hv1] at hw1
  simp only [World.size_alloc] at hw1
  have hs1 := hs0.alloc (.cells #[vb 3] 5)
  have g0 := on_blk_mul hw0
  have g1 := on_blk_mul hw1.right
  have q0 : _ = some (vb 3) := cell_of_row _ w.heap.size 0 _ _ _ g0
  have q1 : _ = some (vb ty) := cell_of_row _ w.heap.size 1 _ _ _ g1
  have q2 : _ = some (u32v sz) := cell_of_row _ w.heap.size 2 _ _ _ g1
  have q3 : _ = some (Value.slice da dl.length dc) := cell_of_row _ w.heap.size 3 _ _ _ g1
  have q4 : _ = some (vb 3) := cell_of_row _ w.heap.size 0 _ _ _ g1
  have H1 := hide hw1
  have HS1 := hide hs1
  clear hw0 hs0 hw1 hv1 hs1 g0 g1
  by_cases pt : ty = 0
  · by_cases ps : sz = 0
    · by_cases pd : dl.length = 0
      · have hk2 : decide (ty = 0 ∧ sz = 0 ∧ dl.length = 0) = true := decide_eq_true ⟨pt, ps, pd⟩
        rw [hk2]
        clear hk2
        have T0 : (((ty.toNat : Nat) : Int) == 0) = true := by rw [pt]; rfl
        have S0 : ((sz : Int) == 0) = true := by rw [ps]; rfl
        have D0 : ((dl.length : Int) == 0) = true := by rw [pd]; rfl
        have DG : decide (0 < dl.length) = false := decide_eq_false (by omega)
        have EB := hide (hEB pd)
        clear hEB
        clear pt
        clear ps
        clear pd
        go_enter Try.func23, Try.ntmps23
        go_wp2_with fail
        go_ret2
        exact ⟨_, rfl, fun _ => by rw [EB.out]; exact own_bytes H1.out, all_below H1.out.right.right HS1.out⟩
      · have hk2 : decide (ty = 0 ∧ sz = 0 ∧ dl.length = 0) = false := decide_eq_false (fun h => pd h.2.2)
        rw [hk2]
        clear hk2
        have T0 : (((ty.toNat : Nat) : Int) == 0) = true := by rw [pt]; rfl
        have S0 : ((sz : Int) == 0) = true := by rw [ps]; rfl
        have D0 : ((dl.length : Int) == 0) = false := by rw [beq_eq_false_iff_ne]; omega
        have DG : decide (0 < dl.length) = true := decide_eq_true (by omega)
        clear hEB
        clear pt
        clear ps
        clear pd
        go_enter Try.func23, Try.ntmps23
        go_wp2_with fail
        go_ret2
        exact ⟨_, rfl, (fun h => by cases h), all_below H1.out.right.right HS1.out⟩
    · have hk2 : decide (ty = 0 ∧ sz = 0 ∧ dl.length = 0) = false := decide_eq_false (fun h => ps h.2.1)
      rw [hk2]
      clear hk2
      have T0 : (((ty.toNat : Nat) : Int) == 0) = true := by rw [pt]; rfl
      have S0 : ((sz : Int) == 0) = false := by rw [beq_eq_false_iff_ne]; omega
      clear hEB
      clear pt
      clear ps
      go_enter Try.func23, Try.ntmps23
      go_wp2_with fail
      go_ret2
      exact ⟨_, rfl, (fun h => by cases h), all_below H1.out.right.right HS1.out⟩
  · have hk2 : decide (ty = 0 ∧ sz = 0 ∧ dl.length = 0) = false := decide_eq_false (fun h => pt h.1)
    rw [hk2]
    clear hk2
    have T0 : (((ty.toNat : Nat) : Int) == 0) = false := by rw [beq_eq_false_iff_ne]; intro e; exact pt (UInt8.toNat_inj.1 (by simpa using e))
    clear hEB
    clear pt
    go_enter Try.func23, Try.ntmps23
    go_wp2_with fail
    go_ret2
    exact ⟨_, rfl, (fun h => by cases h), all_below H1.out.right.right HS1.out⟩

set_option maxRecDepth 100000 in
set_option maxHeartbeats 16000000 in
theorem renc_4 (ty : UInt8) (sz : Nat) (dl : List UInt8) (dv : Value) (w : World) (hsz : sz < 4294967296) (h : IsBytes w dv dl) (hlen : dl.length ≤ 1000000) (hEB : dl.length = 0 → encBytes ⟨4, ty, sz, dl⟩ = [4]) :
    Calls Try.prog 23 #[.agg (reqCells ⟨4, ty, sz, dl⟩ dv)] w (REncEnd (decide (ty = 0 ∧ sz = 0 ∧ dl.length = 0)) (encBytes ⟨4, ty, sz, dl⟩) w) := by
  have hu := Try.underlying23
  have Hd := hide h
  obtain ⟨da, dc, rfl, hdc, hdm, _, _⟩ := h
  unfold maxLen at hdm
  have hw0 := (on_all w).alloc (.cells (reqCells ⟨4, ty, sz, dl⟩ (.slice da dl.length dc)) 49)
  have hs0 := (Str.refl w).alloc (.cells (reqCells ⟨4, ty, sz, dl⟩ (.slice da dl.length dc)) 49)
  have hw1 := own_new 5 1 1 (vbs [4]) hw0 rfl (by decide)
  have hv1 : (vbs [4]).toArray = #[vb 4] := rfl
  rw [hv1] at hw1
  simp only [World.size_alloc] at hw1
  have hs1 := hs0.alloc (.cells #[vb 4] 5)
  have g0 := on_blk_mul hw0
  have g1 := on_blk_mul hw1.right
  have q0 : _ = some (vb 4) := cell_of_row _ w.heap.size 0 _ _ _ g0
  have q1 : _ = some (vb ty) := cell_of_row _ w.heap.size 1 _ _ _ g1
  have q2 : _ = some (u32v sz) := cell_of_row _ w.heap.size 2 _ _ _ g1
  have q3 : _ = some (Value.slice da dl.length dc) := cell_of_row _ w.heap.size 3 _ _ _ g1
  have q4 : _ = some (vb 4) := cell_of_row _ w.heap.size 0 _ _ _ g1
  have H1 := hide hw1
  have HS1 := hide hs1
  clear hw0 hs0 hw1 hv1 hs1 g0 g1
  by_cases pt : ty = 0
  · by_cases ps : sz = 0
    · by_cases pd : dl.length = 0
      · have hk2 : decide (ty = 0 ∧ sz = 0 ∧ dl.length = 0) = true := decide_eq_true ⟨pt, ps, pd⟩
        rw [hk2]
        clear hk2
        have T0 : (((ty.toNat : Nat) : Int) == 0) = true := by rw [pt]; rfl
        have S0 : ((sz : Int) == 0) = true := by rw [ps]; rfl
        have D0 : ((dl.length : Int) == 0) = true := by rw [pd]; rfl
        have DG : decide (0 < dl.length) = false := decide_eq_false (by omega)
        have EB := hide (hEB pd)
        clear hEB
        clear pt
        clear ps
        clear pd
        go_enter Try.func23, Try.ntmps23
        go_wp2_with fail
        go_ret2
        exact ⟨_, rfl, fun _ => by rw [EB.out]; exact own_bytes H1.out, all_below H1.out.right.right HS1.out⟩
      · have hk2 : decide (ty = 0 ∧ sz = 0 ∧ dl.length = 0) = false := decide_eq_false (fun h => pd h.2.2)
        rw [hk2]
        clear hk2
        have T0 : (((ty.toNat : Nat) : Int) == 0) = true := by rw [pt]; rfl
        have S0 : ((sz : Int) == 0) = true := by rw [ps]; rfl
        have D0 : ((dl.length : Int) == 0) = false := by rw [beq_eq_false_iff_ne]; omega
        have DG : decide (0 < dl.length) = true := decide_eq_true (by omega)
        clear hEB
        clear pt
        clear ps
        clear pd
        go_enter Try.func23, Try.ntmps23
        go_wp2_with fail
        go_ret2
        exact ⟨_, rfl, (fun h => by cases h), all_below H1.out.right.right HS1.out⟩
    · have hk2 : decide (ty = 0 ∧ sz = 0 ∧ dl.length = 0) = false := decide_eq_false (fun h => ps h.2.1)
      rw [hk2]
      clear hk2
      have T0 : (((ty.toNat : Nat) : Int) == 0) = true := by rw [pt]; rfl
      have S0 : ((sz : Int) == 0) = false := by rw [beq_eq_false_iff_ne]; omega
      clear hEB
      clear pt
      clear ps
      go_enter Try.func23, Try.ntmps23
      go_wp2_with fail
      go_ret2
      exact ⟨_, rfl, (fun h => by cases h), all_below H1.out.right.right HS1.out⟩
  · have hk2 : decide (ty = 0 ∧ sz = 0 ∧ dl.length = 0) = false := decide_eq_false (fun h => pt h.1)
    rw [hk2]
    clear hk2
    have T0 : (((ty.toNat : Nat) : Int) == 0) = false := by rw [beq_eq_false_iff_ne]; intro e; exact pt (UInt8.toNat_inj.1 (by simpa using e))
    clear hEB
    clear pt
    go_enter Try.func23, Try.ntmps23
    go_wp2_with fail
    go_ret2
    exact ⟨_, rfl, (fun h => by cases h), all_below H1.out.right.right HS1.out⟩

set_option maxRecDepth 100000 in
set_option maxHeartbeats 16000000 in
theorem renc_7 (ty : UInt8) (sz : Nat) (dl : List UInt8) (dv : Value) (w : World) (hsz : sz < 4294967296) (h : IsBytes w dv dl) (hlen : dl.length ≤ 1000000) (hEB : dl.length = 0 → encBytes ⟨7, ty, sz, dl⟩ = [7]) :
    Calls Try.prog 23 #[.agg (reqCells ⟨7, ty, sz, dl⟩ dv)] w (REncEnd (decide (ty = 0 ∧ sz = 0 ∧ dl.length = 0)) (encBytes ⟨7, ty, sz, dl⟩) w) := by
  have hu := Try.underlying23
  have Hd := hide h
  obtain ⟨da, dc, rfl, hdc, hdm, _, _⟩ := h
  unfold maxLen at hdm
  have hw0 := (on_all w).alloc (.cells (reqCells ⟨7, ty, sz, dl⟩ (.slice da dl.length dc)) 49)
  have hs0 := (Str.refl w).alloc (.cells (reqCells ⟨7, ty, sz, dl⟩ (.slice da dl.length dc)) 49)
  have hw1 := own_new 5 1 1 (vbs [7]) hw0 rfl (by decide)
  have hv1 : (vbs [7]).toArray = #[vb 7] := rfl
  rw [hv1] at hw1
  simp only [World.size_alloc] at hw1
  have hs1 := hs0.alloc (.cells #[vb 7] 5)
  have g0 := on_blk_mul hw0
  have g1 := on_blk_mul hw1.right
  have q0 : _ = some (vb 7) := cell_of_row _ w.heap.size 0 _ _ _ g0
  have q1 : _ = some (vb ty) := cell_of_row _ w.heap.size 1 _ _ _ g1
  have q2 : _ = some (u32v sz) := cell_of_row _ w.heap.size 2 _ _ _ g1
  have q3 : _ = some (Value.slice da dl.length dc) := cell_of_row _ w.heap.size 3 _ _ _ g1
  have q4 : _ = some (vb 7) := cell_of_row _ w.heap.size 0 _ _ _ g1
  have H1 := hide hw1
  have HS1 := hide hs1
  clear hw0 hs0 hw1 hv1 hs1 g0 g1
  by_cases pt : ty = 0
  · by_cases ps : sz = 0
    · by_cases pd : dl.length = 0
      · have hk2 : decide (ty = 0 ∧ sz = 0 ∧ dl.length = 0) = true := decide_eq_true ⟨pt, ps, pd⟩
        rw [hk2]
        clear hk2
        have T0 : (((ty.toNat : Nat) : Int) == 0) = true := by rw [pt]; rfl
        have S0 : ((sz : Int) == 0) = true := by rw [ps]; rfl
        have D0 : ((dl.length : Int) == 0) = true := by rw [pd]; rfl
        have DG : decide (0 < dl.length) = false := decide_eq_false (by omega)
        have EB := hide (hEB pd)
        clear hEB
        clear pt
        clear ps
        clear pd
        go_enter Try.func23, Try.ntmps23
        go_wp2_with fail
        go_ret2
        exact ⟨_, rfl, fun _ => by rw [EB.out]; exact own_bytes H1.out, all_below H1.out.right.right HS1.out⟩
      · have hk2 : decide (ty = 0 ∧ sz = 0 ∧ dl.length = 0) = false := decide_eq_false (fun h => pd h.2.2)
        rw [hk2]
        clear hk2
        have T0 : (((ty.toNat : Nat) : Int) == 0) = true := by rw [pt]; rfl
        have S0 : ((sz : Int) == 0) = true := by rw [ps]; rfl
        have D0 : ((dl.length : Int) == 0) = false := by rw [beq_eq_false_iff_ne]; omega
        have DG : decide (0 < dl.length) = true := decide_eq_true (by omega)
        clear hEB
        clear pt
        clear ps
        clear pd
        go_enter Try.func23, Try.ntmps23
        go_wp2_with fail
        go_ret2
        exact ⟨_, rfl, (fun h => by cases h), all_below H1.out.right.right HS1.out⟩
    · have hk2 : decide (ty = 0 ∧ sz = 0 ∧ dl.length = 0) = false := decide_eq_false (fun h => ps h.2.1)
      rw [hk2]
      clear hk2
      have T0 : (((ty.toNat : Nat) : Int) == 0) = true := by rw [pt]; rfl
      have S0 : ((sz : Int) == 0) = false := by rw [beq_eq_false_iff_ne]; omega
      clear hEB
      clear pt
      clear ps
      go_enter Try.func23, Try.ntmps23
      go_wp2_with fail
      go_ret2
      exact ⟨_, rfl, (fun h => by cases h), all_below H1.out.right.right HS1.out⟩
  · have hk2 : decide (ty = 0 ∧ sz = 0 ∧ dl.length = 0) = false := decide_eq_false (fun h => pt h.1)
    rw [hk2]
    clear hk2
    have T0 : (((ty.toNat : Nat) : Int) == 0) = false := by rw [beq_eq_false_iff_ne]; intro e; exact pt (UInt8.toNat_inj.1 (by simpa using e))
    clear hEB
    clear pt
    go_enter Try.func23, Try.ntmps23
    go_wp2_with fail
    go_ret2
    exact ⟨_, rfl, (fun h => by cases h), all_below H1.out.right.right HS1.out⟩

set_option maxRecDepth 100000 in
set_option maxHeartbeats 16000000 in
theorem renc_12 (ty : UInt8) (sz : Nat) (dl : List UInt8) (dv : Value) (w : World) (hsz : sz < 4294967296) (h : IsBytes w dv dl) (hlen : dl.length ≤ 1000000) (hEB : dl.length = 0 → encBytes ⟨12, ty, sz, dl⟩ = [12]) :
    Calls Try.prog 23 #[.agg (reqCells ⟨12, ty, sz, dl⟩ dv)] w (REncEnd (decide (ty = 0 ∧ sz = 0 ∧ dl.length = 0)) (encBytes ⟨12, ty, sz, dl⟩) w) := by
  have hu := Try.underlying23
  have Hd := hide h
  obtain ⟨da, dc, rfl, hdc, hdm, _, _⟩ := h
  unfold maxLen at hdm
  have hw0 := (on_all w).alloc (.cells (reqCells ⟨12, ty, sz, dl⟩ (.slice da dl.length dc)) 49)
  have hs0 := (Str.refl w).alloc (.cells (reqCells ⟨12, ty, sz, dl⟩ (.slice da dl.length dc)) 49)
  have hw1 := own_new 5 1 1 (vbs [12]) hw0 rfl (by decide)
  have hv1 : (vbs [12]).toArray = #[vb 12] := rfl
  rw [hv1] at hw1
  simp only [World.size_alloc] at hw1
  have hs1 := hs0.alloc (.cells #[vb 12] 5)
  have g0 := on_blk_mul hw0
  have g1 := on_blk_mul hw1.right
  have q0 : _ = some (vb 12) := cell_of_row _ w.heap.size 0 _ _ _ g0
  have q1 : _ = some (vb ty) := cell_of_row _ w.heap.size 1 _ _ _ g1
  have q2 : _ = some (u32v sz) := cell_of_row _ w.heap.size 2 _ _ _ g1
  have q3 : _ = some (Value.slice da dl.length dc) := cell_of_row _ w.heap.size 3 _ _ _ g1
  have q4 : _ = some (vb 12) := cell_of_row _ w.heap.size 0 _ _ _ g1
  have H1 := hide hw1
  have HS1 := hide hs1
  clear hw0 hs0 hw1 hv1 hs1 g0 g1
  by_cases pt : ty = 0
  · by_cases ps : sz = 0
    · by_cases pd : dl.length = 0
      · have hk2 : decide (ty = 0 ∧ sz = 0 ∧ dl.length = 0) = true := decide_eq_true ⟨pt, ps, pd⟩
        rw [hk2]
        clear hk2
        have T0 : (((ty.toNat : Nat) : Int) == 0) = true := by rw [pt]; rfl
        have S0 : ((sz : Int) == 0) = true := by rw [ps]; rfl
        have D0 : ((dl.length : Int) == 0) = true := by rw [pd]; rfl
        have DG : decide (0 < dl.length) = false := decide_eq_false (by omega)
        have EB := hide (hEB pd)
        clear hEB
        clear pt
        clear ps
        clear pd
        go_enter Try.func23, Try.ntmps23
        go_wp2_with fail
        go_ret2
        exact ⟨_, rfl, fun _ => by rw [EB.out]; exact own_bytes H1.out, all_below H1.out.right.right HS1.out⟩
      · have hk2 : decide (ty = 0 ∧ sz = 0 ∧ dl.length = 0) = false := decide_eq_false (fun h => pd h.2.2)
        rw [hk2]
        clear hk2
        have T0 : (((ty.toNat : Nat) : Int) == 0) = true := by rw [pt]; rfl
        have S0 : ((sz : Int) == 0) = true := by rw [ps]; rfl
        have D0 : ((dl.length : Int) == 0) = false := by rw [beq_eq_false_iff_ne]; omega
        have DG : decide (0 < dl.length) = true := decide_eq_true (by omega)
        clear hEB
        clear pt
        clear ps
        clear pd
        go_enter Try.func23, Try.ntmps23
        go_wp2_with fail
        go_ret2
        exact ⟨_, rfl, (fun h => by cases h), all_below H1.out.right.right HS1.out⟩
    · have hk2 : decide (ty = 0 ∧ sz = 0 ∧ dl.length = 0) = false := decide_eq_false (fun h => ps h.2.1)
      rw [hk2]
      clear hk2
      have T0 : (((ty.toNat : Nat) : Int) == 0) = true := by rw [pt]; rfl
      have S0 : ((sz : Int) == 0) = false := by rw [beq_eq_false_iff_ne]; omega
      clear hEB
      clear pt
      clear ps
      go_enter Try.func23, Try.ntmps23
      go_wp2_with fail
      go_ret2
      exact ⟨_, rfl, (fun h => by cases h), all_below H1.out.right.right HS1.out⟩
  · have hk2 : decide (ty = 0 ∧ sz = 0 ∧ dl.length = 0) = false := decide_eq_false (fun h => pt h.1)
    rw [hk2]
    clear hk2
    have T0 : (((ty.toNat : Nat) : Int) == 0) = false := by rw [beq_eq_false_iff_ne]; intro e; exact pt (UInt8.toNat_inj.1 (by simpa using e))
    clear hEB
    clear pt
    go_enter Try.func23, Try.ntmps23
    go_wp2_with fail
    go_ret2
    exact ⟨_, rfl, (fun h => by cases h), all_below H1.out.right.right HS1.out⟩
end Go.Proofs.Ytdieaegajahdpaa
