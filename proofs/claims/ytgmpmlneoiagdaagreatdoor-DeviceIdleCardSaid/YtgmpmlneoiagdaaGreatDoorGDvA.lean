/- LAID TOGETHER: Dv1, Dv2, Dv3. -/
import Derived.Test.YtgmpmlneoiagdaaGreatDoorTr3
import Derived.Test.YtgmpmlneoiagdaaGreatDoorGFl
import Derived.Test.YtgmpmlneoiagdaaGreatDoorOb1
import Derived.Test.YtgmpmlneoiagdaaGreatDoorOb2
/- activate and boot, where nothing is received nor copied: what is remembered, a step, limits, what is decided. -/
namespace Go.Proofs.YtgmpmlneoiagdaaGreatDoor
open Go.ChangeShapes Go.WideShapes Go.ChangeAt Go.RowKit
set_option linter.unusedVariables false
set_option linter.unusedSimpArgs false

def RemEnd (R : RecS) (er : Nat) (w : World) (e : Ending) (w' : World) : Prop := ∃ iv, e = .returned (.tuple #[.agg (recCells R iv), .int .i64 (er : Nat)]) ∧ (ownR iv R.init * all w).on w' ∧ Str w w'
theorem sp_four (A B C D : SP) : A * (B * (C * D)) = C * (B * (A * D)) := by ac_rfl
/-- limits whose key was never set -/
def limC (fl rm : Nat) : Array Value := (vbs (List.replicate 32 0) ++ [Value.int .u32 0, .int .u8 0, .int .u32 (fl : Nat), .int .u32 (rm : Nat)]).toArray
theorem limC_size (a b : Nat) : (limC a b).size = 36 := by simp [limC]
theorem limC_info (a b : Nat) : (Tryz.prog.info? 41).map (·.size) = some (limC a b).size := by rw [limC_size]; kernel_rfl
theorem limC_hz (X : World) : (zeroValue 41).run Tryz.prog X = .ok (.agg (limC 0 0)) X := by kernel_rfl
theorem limC_one (a b : Nat) : (limC a b).all (·.oneCell') = true := by
  unfold limC
  simp [vbs, Value.oneCell']
theorem limC_get34 (a b : Nat) : (limC a b)[34]? = some (.int .u32 (a : Nat)) := by simp [limC]
theorem limC_get35 (a b : Nat) : (limC a b)[35]? = some (.int .u32 (b : Nat)) := by simp [limC]
theorem limC_set34 (a b c : Nat) : (limC a b).setIfInBounds 34 (.int .u32 (c : Nat)) = limC c b := by simp [limC]
theorem limC_set35 (a b c : Nat) : (limC a b).setIfInBounds 35 (.int .u32 (c : Nat)) = limC a c := by simp [limC]
/-- a flash on which nothing is received nor copied -/
structure FlS.Calm (s : FlS) : Prop where
  ok : s.Ok
  on : s.off = false
  big : 34 ≤ s.worn.length
  err : s.load.2.2 = 0 ∨ s.load.2.2 = 15
  phase : s.load.1.phase = 0
  floor : s.load.1.floor = 0
theorem FlS.Calm.size {s : FlS} (h : s.Calm) : 8704 ≤ s.B.length := by have h1 := h.ok.pages; have h2 := h.big; omega

set_option maxRecDepth 100000 in
set_option maxHeartbeats 16000000 in
theorem remembered_any (p : Nat) (s : FlS) (F : SP) (w : World) (h : (Flash p s * F).on w) (ok : s.Ok) (hB : 8704 ≤ s.B.length) :
    Calls Tryz.prog 43 #[fptr p] w (RemEnd s.load.1 s.load.2.2 w) := by
  have hur := Tryz.underlying31
  have hz := rc_hz
  have h0 := h.alloc (.cells (recCells zeroS nilV) 31)
  have HA := hide ((on_all w).alloc (.cells (recCells zeroS nilV) 31))
  have S0 := hide ((Str.refl w).alloc (.cells (recCells zeroS nilV) 31))
  have hS := size_any p s _ _ h0.right ok
  have hL := load_any p s _ _ h0.right ok
  have hB2 : s.B.length ≤ 16384 := by have h1 := ok.pages; have h2 := ok.most; omega
  have hBI : ¬ (s.B.length : Int) < 8704 := by omega
  obtain ⟨⟨R, pg, er⟩, hX⟩ : ∃ x, x = s.load := ⟨_, rfl⟩
  rw [← hX] at hL ⊢
  clear hX h h0 hB ok
  go_enter Tryz.func43, Tryz.ntmps43
  go_wp2_with fail
  generalize w.alloc (.cells (recCells zeroS nilV) 31) = w0 at *
  refine hS.mono ?_
  clear hS
  rintro e w1 ⟨rfl, rfl⟩
  go_wp2_with fail
  refine hL.mono ?_
  clear hL
  rintro e w1 ⟨iv, rfl, ho, hs⟩
  have HoR := hide (rc_one (s := R) (iv := iv) (own_slice ho))
  have HsR := hide (rc_info R iv)
  have h1 := (on_all_to ho HA.out).alloc (.cells (recCells zeroS nilV) 31)
  have gA := hide (on_blk_mul h1)
  have h2 := h1.setRow (recCells R iv)
  have g2 := hide (on_blk_mul h2)
  rw [sp_four] at h2
  have gC := hide (on_blk_mul h2)
  have H3 := hide (h2.setRow (recCells R iv))
  have S3 := hide ((((S0.out.trans hs).alloc (.cells (recCells zeroS nilV) 31)).setRow w1.heap.size (recCells R iv)).setRow w.heap.size (recCells R iv))
  have hstop : ∀ p : Prop, Hid p → p := fun _ h => h.out
  clear ho hs h1 h2 HA S0
  go_wp2_with (refine wpList_store_row rfl _ _ _ rfl w1.heap.size (recCells R iv) rfl rfl _ _ gA.out HsR.out rfl HoR.out ?_; refine hstop _ ?_)
  refine hide ?_
  clear hstop gA
  generalize (w1.alloc (.cells (recCells zeroS nilV) 31)).setRow w1.heap.size (recCells R iv) = w2 at *
  generalize w1.heap.size = gB at *
  go_wp2_with (first
    | (refine wpList_load_row rfl _ _ rfl gB rfl _ (recCells R iv) _ _ g2.out hur rfl HsR.out ?_)
    | (refine wpList_store_row rfl _ _ _ rfl w.heap.size (recCells R iv) rfl rfl _ _ gC.out HsR.out rfl HoR.out ?_))
  refine bodyPost_ret (v := .tuple #[.agg (recCells R iv), .int .i64 (er : Nat)]) (results_cell_row_tmp Tryz.results43 _ _ w.heap.size _ (recCells R iv) (0, 0) _ rfl (setRow_heap_same _ _ _ _ _ _ gC.out) hur rfl HsR.out (.int .i64 (er : Nat)) rfl) rfl ?_
  have h9 := H3.out.right
  rw [SP.mul_left_comm] at h9
  exact ⟨iv, rfl, SP.le.on (SP.le.mul (SP.le.refl _) (SP.le_right _ _)) (by rw [SP.mul_left_comm] at h9; exact h9), S3.out⟩

set_option maxRecDepth 100000 in
set_option maxHeartbeats 16000000 in
theorem step_calm (p : Nat) (s : FlS) (F : SP) (w : World) (h : (Flash p s * F).on w) (c : s.Calm) (he : s.load.2.2 = 0) :
    Calls Tryz.prog 82 #[fptr p] w fun e w' => e = .returned (.tuple #[.bool true, .int .i64 0]) ∧ Below w.heap.size w w' := by
  have hur := Tryz.underlying31
  have hz := rc_hz
  have hR := remembered_any p s F w h c.ok c.size
  have hph := c.phase
  rw [he] at hR
  generalize s.load.1 = R at *
  have e1 : (((R.phase.toNat : Nat) : Int) != 2) = true := by rw [hph]; rfl
  clear h c he hph
  go_enter Tryz.func82, Tryz.ntmps82
  go_wp2_with fail
  refine hR.mono ?_
  clear hR
  rintro e w1 ⟨iv, rfl, ho, hs⟩
  rw [show ((0 : Nat) : Int) = 0 from rfl]
  have HoR := hide (rc_one (s := R) (iv := iv) (own_slice ho))
  have HsR := hide (rc_info R iv)
  have h1 := ho.alloc (.cells (recCells zeroS nilV) 31)
  have gA := hide (on_blk_mul h1)
  have h2 := h1.setRow (recCells R iv)
  have c4 : ((w1.alloc (.cells (recCells zeroS nilV) 31)).setRow w1.heap.size (recCells R iv)).cell? ⟨w1.heap.size, 4, Option.none⟩ = some (vb R.phase) := cell_of_row _ _ 4 _ _ _ (on_blk_mul h2)
  have HB := hide (all_below h2.right.right ((hs.alloc (.cells (recCells zeroS nilV) 31)).setRow w1.heap.size (recCells R iv)))
  have hstop : ∀ p : Prop, Hid p → p := fun _ h => h.out
  clear ho hs h1 h2
  go_wp2_with (refine wpList_store_row rfl _ _ _ rfl w1.heap.size (recCells R iv) rfl rfl _ _ gA.out HsR.out rfl HoR.out ?_; refine hstop _ ?_)
  refine hide ?_
  clear hstop gA
  generalize (w1.alloc (.cells (recCells zeroS nilV) 31)).setRow w1.heap.size (recCells R iv) = w2 at *
  generalize w1.heap.size = gB at *
  go_wp2_with fail
  go_ret2
  exact ⟨rfl, HB.out⟩

set_option maxRecDepth 100000 in
set_option maxHeartbeats 16000000 in
theorem valid_none (p : Nat) (s : FlS) (F : SP) (w : World) (h : (Flash p s * F).on w) (c : s.Calm) (he : s.load.2.2 = 15) :
    Calls Tryz.prog 25 #[fptr p] w fun e w' => e = .returned (.tuple #[nilV, .bool false]) ∧ Below w.heap.size w w' := by
  have hur := Tryz.underlying31
  have hz := rc_hz
  have hR := remembered_any p s F w h c.ok c.size
  rw [he] at hR
  generalize s.load.1 = R at *
  clear h c he
  go_enter Tryz.func25, Tryz.ntmps25
  go_wp2_with fail
  refine hR.mono ?_
  clear hR
  rintro e w1 ⟨iv, rfl, ho, hs⟩
  rw [show ((15 : Nat) : Int) = 15 from rfl]
  have HoR := hide (rc_one (s := R) (iv := iv) (own_slice ho))
  have HsR := hide (rc_info R iv)
  have h1 := ho.alloc (.cells (recCells zeroS nilV) 31)
  have gA := hide (on_blk_mul h1)
  have h2 := h1.setRow (recCells R iv)
  have HB := hide (all_below h2.right.right ((hs.alloc (.cells (recCells zeroS nilV) 31)).setRow w1.heap.size (recCells R iv)))
  have hstop : ∀ p : Prop, Hid p → p := fun _ h => h.out
  clear ho hs h1 h2
  go_wp2_with (refine wpList_store_row rfl _ _ _ rfl w1.heap.size (recCells R iv) rfl rfl _ _ gA.out HsR.out rfl HoR.out ?_; refine hstop _ ?_)
  refine hide ?_
  clear hstop gA
  generalize (w1.alloc (.cells (recCells zeroS nilV) 31)).setRow w1.heap.size (recCells R iv) = w2 at *
  generalize w1.heap.size = gB at *
  go_wp2_with fail
  go_ret2
  exact ⟨rfl, HB.out⟩
end Go.Proofs.YtgmpmlneoiagdaaGreatDoor

/- boot: limits, how it goes on, what is decided, where nothing is received nor copied. -/
namespace Go.Proofs.YtgmpmlneoiagdaaGreatDoor
open Go.ChangeShapes Go.WideShapes Go.ChangeAt Go.RowKit
set_option linter.unusedVariables false
set_option linter.unusedSimpArgs false

set_option maxRecDepth 100000 in
set_option maxHeartbeats 16000000 in
theorem limits_calm (p : Nat) (s : FlS) (F : SP) (w : World) (h : (Flash p s * F).on w) (c : s.Calm) (rm : Nat) :
    Calls Tryz.prog 72 #[fptr p, .agg (limC 0 rm)] w fun e w' => e = .returned (.agg (limC 0 4096)) ∧ Below w.heap.size w w' := by
  have hur := Tryz.underlying31
  have hul := Tryz.underlying41
  have hz := rc_hz
  have hzl := limC_hz
  have hfl := c.floor
  have hA := ((on_all w).alloc (.cells (limC 0 rm) 41)).alloc (.cells (limC 0 0) 41)
  rw [World.size_alloc] at hA
  have HA := hide hA
  have S0 := hide (((Str.refl w).alloc (.cells (limC 0 rm) 41)).alloc (.cells (limC 0 0) 41))
  have hL := hide (load_any p s _ _ ((h.alloc' (.cells (limC 0 rm) 41)).alloc' (.cells (limC 0 0) 41)) c.ok)
  obtain ⟨⟨R, pg, er⟩, hX⟩ : ∃ x, x = s.load := ⟨_, rfl⟩
  rw [← hX] at hL hfl
  simp only at hfl
  have Hfl := hide hfl
  have Hl1 := hide (limC_info 0 rm)
  have Hl2 := hide (limC_info 0 4096)
  have Ho2 := hide (limC_one 0 4096)
  have Hz0 := hide (show (limC 0 0).size = (limC 0 4096).size by rw [limC_size, limC_size])
  have Hg := hide (limC_get34 0 rm)
  have Hg5 := hide (limC_get35 0 rm)
  have Hs1 : Hid ((limC 0 rm).setIfInBounds 34 (.int .u32 0) = limC 0 rm) := hide (limC_set34 0 rm 0)
  have Hs2 : Hid ((limC 0 rm).setIfInBounds 35 (.int .u32 4096) = limC 0 4096) := hide (limC_set35 0 rm 4096)
  clear hX h c hA hfl
  generalize limC 0 rm = l1 at *
  generalize limC 0 4096 = l2 at *
  generalize limC 0 0 = l0 at *
  go_enter Tryz.func72, Tryz.ntmps72
  go_wp2_with fail
  generalize (w.alloc (.cells l1 41)).alloc (.cells l0 41) = w0 at *
  refine hL.out.mono ?_
  clear hL
  rintro e w1 ⟨iv, rfl, ho, hs⟩
  have HoR := hide (rc_one (s := R) (iv := iv) (own_slice ho))
  have HsR := hide (rc_info R iv)
  have h1 := (on_all_to ho HA.out).alloc (.cells (recCells zeroS nilV) 31)
  have gA := hide (on_blk_mul h1)
  have h2 := h1.setRow (recCells R iv)
  have S2 := hide (((S0.out.trans hs).alloc (.cells (recCells zeroS nilV) 31)).setRow w1.heap.size (recCells R iv))
  have H2 := hide h2
  have hstop : ∀ p : Prop, Hid p → p := fun _ h => h.out
  clear ho hs h1 h2 HA S0
  go_wp2_with (refine wpList_store_row rfl _ _ _ rfl w1.heap.size (recCells R iv) rfl rfl _ _ gA.out HsR.out rfl HoR.out ?_; refine hstop _ ?_)
  refine hide ?_
  clear hstop gA
  generalize (w1.alloc (.cells (recCells zeroS nilV) 31)).setRow w1.heap.size (recCells R iv) = w2 at *
  generalize w1.heap.size = gB at *
  have c1 : w2.cell? ⟨gB, 1, Option.none⟩ = some (.int .u32 0) := by
    have h9 := cell_of_row _ _ 1 _ _ _ (on_blk_mul H2.out)
    rw [h9]
    show some (u32v R.floor) = _
    rw [Hfl.out]
    rfl
  -- l1 lies at w.heap.size, l0 behind it
  have h3 := H2.out
  rw [show ∀ A B C D E : SP, A * (B * (C * (D * E))) = D * (C * (A * (B * E))) from fun A B C D E => by ac_rfl] at h3
  have gL := on_blk_mul h3
  have c34 : w2.cell? ⟨w.heap.size, 34, Option.none⟩ = some (.int .u32 0) := by rw [cell_of_row _ _ 34 _ _ _ gL, Hg.out]; rfl
  have f34 := frozen_of_row w2 w.heap.size 34 _ _ gL
  have h4 := h3.setCell (i := 34) (.int .u32 0)
  rw [Hs1.out] at h4
  have f35 := frozen_of_row (w2.setCell ⟨w.heap.size, 34, Option.none⟩ (.int .u32 0)) w.heap.size 35 _ _ (on_blk_mul h4)
  have c35 : (w2.setCell ⟨w.heap.size, 34, Option.none⟩ (.int .u32 0)).cell? ⟨w.heap.size, 35, Option.none⟩ = some (.int .u32 (rm : Nat)) := by rw [cell_of_row _ _ 35 _ _ _ (on_blk_mul h4), Hg5.out]
  have h5 := h4.setCell (i := 35) (.int .u32 4096)
  rw [Hs2.out] at h5
  have g5 := on_blk_mul h5
  rw [SP.mul_left_comm] at h5
  have g6 := on_blk_mul h5
  have H7 := hide (h5.setRow l2)
  have S7 := hide (((S2.out.setCell ⟨w.heap.size, 34, Option.none⟩ (.int .u32 0)).setCell ⟨w.heap.size, 35, Option.none⟩ (.int .u32 4096)).setRow (w.heap.size + 1) l2)
  clear h3 h4 h5 gL H2 S2
  have hstop : ∀ p : Prop, Hid p → p := fun _ h => h.out
  go_wp2_with (first
    | (refine wpList_load_row rfl _ _ rfl w.heap.size rfl _ l2 _ _ g5 hul rfl Hl2.out ?_)
    | (refine wpList_store_row rfl _ _ _ rfl (w.heap.size + 1) l2 rfl rfl _ _ g6 Hl2.out Hz0.out Ho2.out ?_))
  refine bodyPost_ret (v := .agg l2) (results_cell_row Tryz.results72 _ _ (w.heap.size + 1) _ l2 (0, 0) _ rfl (setRow_heap_same _ _ _ _ _ _ g6) hul rfl Hl2.out) rfl ?_
  exact ⟨rfl, all_below H7.out.right.right.right.right S7.out⟩

set_option maxRecDepth 100000 in
set_option maxHeartbeats 16000000 in
theorem goon_calm (p : Nat) (s : FlS) (F : SP) (w : World) (h : (Flash p s * F).on w) (c : s.Calm) (a b : Nat) :
    Calls Tryz.prog 69 #[fptr p, .agg (limC a b)] w fun e w' => (∃ v, e = .returned v) ∧ Below w.heap.size w w' := by
  have hur := Tryz.underlying31
  have hz := rc_hz
  have hph := c.phase
  have her := c.err
  have h0 := h.alloc' (.cells (limC a b) 41)
  have HA := hide ((on_all w).alloc' (.cells (limC a b) 41))
  have S0 := hide ((Str.refl w).alloc (.cells (limC a b) 41))
  have hL := hide (load_any p s _ _ h0 c.ok)
  have H0 := hide h0
  have hSt := hide (fun (he : s.load.2.2 = 0) X hX => step_calm p s F X hX c he)
  obtain ⟨⟨R, pg, er⟩, hX⟩ : ∃ x, x = s.load := ⟨_, rfl⟩
  rw [← hX] at hL hph her hSt
  simp only at hph her hSt
  clear hX h c h0
  have e1 : (((R.phase.toNat : Nat) : Int) == 1) = false := by rw [hph]; rfl
  clear hph
  generalize limC a b = lm at *
  go_enter Tryz.func69, Tryz.ntmps69
  go_wp2_with fail
  generalize w.alloc (.cells lm 41) = w0 at *
  refine hL.out.mono ?_
  clear hL
  rintro e w1 ⟨iv, rfl, ho, hs⟩
  have HoR := hide (rc_one (s := R) (iv := iv) (own_slice ho))
  have HsR := hide (rc_info R iv)
  have hf1 := (on_all_to ho H0.out).right
  have h1 := (on_all_to ho HA.out).alloc (.cells (recCells zeroS nilV) 31)
  have hf2 := (on_all_to ho H0.out).alloc (.cells (recCells zeroS nilV) 31)
  have gA := hide (on_blk_mul h1)
  have h2 := h1.setRow (recCells R iv)
  have c4 : ((w1.alloc (.cells (recCells zeroS nilV) 31)).setRow w1.heap.size (recCells R iv)).cell? ⟨w1.heap.size, 4, Option.none⟩ = some (vb R.phase) := cell_of_row _ _ 4 _ _ _ (on_blk_mul h2)
  have HF := hide ((hf2.setRow (recCells R iv)).right.right)
  have S2 := hide (((S0.out.trans hs).alloc (.cells (recCells zeroS nilV) 31)).setRow w1.heap.size (recCells R iv))
  have HB := hide (all_below h2.right.right S2.out)
  have hstop : ∀ p : Prop, Hid p → p := fun _ h => h.out
  clear ho hs h1 h2 HA S0 hf1 hf2
  rcases her with rfl | rfl
  · rw [show ((0 : Nat) : Int) = 0 from rfl]
    go_wp2_with (refine wpList_store_row rfl _ _ _ rfl w1.heap.size (recCells R iv) rfl rfl _ _ gA.out HsR.out rfl HoR.out ?_; refine hstop _ ?_)
    refine hide ?_
    clear hstop gA
    generalize (w1.alloc (.cells (recCells zeroS nilV) 31)).setRow w1.heap.size (recCells R iv) = w2 at *
    generalize w1.heap.size = gB at *
    go_wp2_with fail
    go_loopw [7] (fun dv wr => (Flash p s * F).on wr ∧ Below w.heap.size w wr) (fun _ _ => 0)
    case atStart => exact ⟨HF.out, HB.out⟩
    case round =>
      obtain ⟨hw, hb⟩ := hrel
      have hS := hide (hSt.out (by first | rfl | trivial) _ hw)
      have Hb := hide hb
      clear hw hb HF HB
      go_wp2_with fail
      refine hS.out.mono ?_
      clear hS
      rintro e w4 ⟨rfl, hb4⟩
      have HB4 := hide (Hb.out.trans (hb4.mono Hb.out.size))
      clear hb4
      go_wp2_with fail
      exact bodyPost_ret (v := .tuple #[]) (by simp [results, Tryz.results69, go_sem]) rfl ⟨⟨_, rfl⟩, HB4.out⟩
  · rw [show ((15 : Nat) : Int) = 15 from rfl]
    go_wp2_with (refine wpList_store_row rfl _ _ _ rfl w1.heap.size (recCells R iv) rfl rfl _ _ gA.out HsR.out rfl HoR.out ?_; refine hstop _ ?_)
    refine hide ?_
    clear hstop gA
    generalize (w1.alloc (.cells (recCells zeroS nilV) 31)).setRow w1.heap.size (recCells R iv) = w2 at *
    go_wp2_with fail
    exact bodyPost_ret (v := .tuple #[]) (by simp [results, Tryz.results69, go_sem]) rfl ⟨⟨_, rfl⟩, HB.out⟩

abbrev chC (b : Bool) (v : Value) : Array Value := #[.bool b, v]
theorem ch_hz (X : World) : (zeroValue 105).run Tryz.prog X = .ok (.agg (chC false nilV)) X := by kernel_rfl
theorem ch_build0 (X : World) : (Instr.build 105 #[]).run Tryz.prog X = .ok (.agg (chC false nilV)) X := by kernel_rfl
theorem ch_info (b : Bool) (v : Value) : (Tryz.prog.info? 105).map (·.size) = some (chC b v).size := by
  show _ = some 2
  kernel_rfl
set_option maxRecDepth 100000 in
set_option maxHeartbeats 16000000 in
theorem decide_calm (p : Nat) (s : FlS) (F : SP) (w : World) (h : (Flash p s * F).on w) (c : s.Calm) (a b : Nat) (entry : Bool) (hv : entry = false → s.load.2.2 = 15) :
    Calls Tryz.prog 55 #[fptr p, .agg (limC a b), .bool entry] w fun e w' => e = .returned (.tuple #[.agg (chC false nilV), .int .i64 0]) ∧ Below w.heap.size w w' := by
  have huc := Tryz.underlying105
  have hul := Tryz.underlying41
  have hz := ch_hz
  have hb0 := ch_build0
  have hA := ((on_all w).alloc (.cells (limC a b) 41)).alloc (.cells (chC false nilV) 105)
  have hF := (h.alloc' (.cells (limC a b) 41)).alloc' (.cells (chC false nilV) 105)
  have S0 := hide (((Str.refl w).alloc (.cells (limC a b) 41)).alloc (.cells (chC false nilV) 105))
  rw [World.size_alloc] at hA
  have hsz := size_any p s F _ hF c.ok
  have hGo := hide (goon_calm p s F _ hF c a b)
  have hOf := hide (fun X hX => off_any p s F X hX)
  have hVa := hide (fun (he : s.load.2.2 = 15) X hX => valid_none p s F X hX c he)
  have hB2 : s.B.length ≤ 16384 := by have h1 := c.ok.pages; have h2 := c.ok.most; omega
  have hBI : ¬ (s.B.length : Int) < 8704 := by have := c.size; omega
  rw [c.on] at hOf
  have HA := hide hA
  have HF := hide hF
  have gl := hide (on_blk_mul hA.right)
  have Hl1 := hide (limC_info a b)
  have Hci := hide (ch_info false nilV)
  have Hco : Hid ((chC false nilV).all (·.oneCell') = true) := hide (by simp [Value.oneCell'])
  clear h c hA hF
  generalize limC a b = lm at *
  go_enter Tryz.func55, Tryz.ntmps55
  go_wp2_with fail
  generalize (w.alloc (.cells lm 41)).alloc (.cells (chC false nilV) 105) = w0 at *
  refine hsz.mono ?_
  clear hsz
  rintro e w1 ⟨rfl, rfl⟩
  go_wp2_with (refine wpList_load_row rfl _ _ rfl w.heap.size rfl _ lm _ _ gl.out hul rfl Hl1.out ?_)
  refine hGo.out.mono ?_
  clear hGo
  rintro e w2 ⟨⟨_, rfl⟩, hb⟩
  have hO2 := hOf.out w2 (HF.out.below hb)
  have H2 := hide (HA.out.below hb)
  have HF2 := hide (HF.out.below hb)
  have S2 := hide (S0.out.trans (Str.below hb))
  clear hb HA HF S0 gl
  go_wp2_with fail
  refine hO2.mono ?_
  clear hO2
  rintro e w3 ⟨rfl, rfl⟩
  cases entry
  · have hV2 := hide (hVa.out (hv rfl) w2 HF2.out)
    go_wp2_with fail
    refine hV2.out.mono ?_
    clear hV2
    rintro e w4 ⟨rfl, hb⟩
    have H4 := H2.out.below hb
    have g4 := hide (on_blk_mul H4)
    have H5 := hide (H4.setRow (chC false nilV))
    have S5 := hide ((S2.out.trans (Str.below hb)).setRow (w.heap.size + 1) (chC false nilV))
    clear hb H4 H2 S2
    go_wp2_with (refine wpList_store_row rfl _ _ _ rfl (w.heap.size + 1) (chC false nilV) rfl rfl _ _ g4.out Hci.out rfl Hco.out ?_)
    refine bodyPost_ret (v := .tuple #[.agg (chC false nilV), .int .i64 0]) (results_cell_row_tmp Tryz.results55 _ _ (w.heap.size + 1) _ (chC false nilV) (0, 0) _ rfl (setRow_heap_same _ _ _ _ _ _ g4.out) huc rfl Hci.out (.int .i64 0) rfl) rfl ?_
    exact ⟨rfl, all_below H5.out.right.right S5.out⟩
  · have g4 := hide (on_blk_mul H2.out)
    have H5 := hide (H2.out.setRow (chC false nilV))
    have S5 := hide (S2.out.setRow (w.heap.size + 1) (chC false nilV))
    clear H2 S2
    go_wp2_with (first
      | (refine wpList_build_eq rfl _ _ rfl (chC false nilV) (hb0 _) ?_)
      | (refine wpList_store_row rfl _ _ _ rfl (w.heap.size + 1) (chC false nilV) rfl rfl _ _ g4.out Hci.out rfl Hco.out ?_))
    refine bodyPost_ret (v := .tuple #[.agg (chC false nilV), .int .i64 0]) (results_cell_row_tmp Tryz.results55 _ _ (w.heap.size + 1) _ (chC false nilV) (0, 0) _ rfl (setRow_heap_same _ _ _ _ _ _ g4.out) huc rfl Hci.out (.int .i64 0) rfl) rfl ?_
    exact ⟨rfl, all_below H5.out.right.right S5.out⟩
end Go.Proofs.YtgmpmlneoiagdaaGreatDoor

/- object: a machine that goes on where a keeper has nothing; whether it is complete. -/
namespace Go.Proofs.YtgmpmlneoiagdaaGreatDoor
open Go.ChangeShapes Go.WideShapes Go.ChangeAt Go.RowKit
set_option linter.unusedVariables false
set_option linter.unusedSimpArgs false

/-- a machine that goes on where a keeper is -/
def mK (q : Nat) : Array Value := ([Value.iface 130 (.pointer (some ⟨q, 0, Option.none⟩))] ++ (limC 0 4096).toList ++ [Value.int .u8 0, .bool false, .int .i64 0, nV, .bool false, .int .i64 0, nV, .bool false, .int .i64 0, nV, nV] ++ pkL zP ++ [Value.int .i64 0, .int .u32 0, .int .u32 0, .int .u32 0]).toArray
theorem build_mK (q : Nat) (w : World) : (Instr.build 127 #[(0, .iface 130 (.pointer (some ⟨q, 0, Option.none⟩))), (1, .agg (limC 0 4096))]).run Tryz.prog w = .ok (.agg (mK q)) w := by kernel_rfl
theorem kp_eq (w : World) (a : Addr) : (binOp .eql 122 (.iface 130 (.pointer (some a))) .nilIface).run Tryz.prog w = .ok (.bool false) w := by kernel_rfl
theorem kp_gd (w : World) (a : Addr) (x y : Operand) : (eqGuard .eql 122 x y (.iface 130 (.pointer (some a))) .nilIface).run Tryz.prog w = .ok () w := by kernel_rfl

set_option maxRecDepth 100000 in
set_option maxHeartbeats 8000000 in
theorem pcheck_empty (va : Option Addr) (vc : Nat) (fl rm : Nat) (w : World) (hv : IsBytes w (.slice va 0 vc) []) (hL : Lens w) :
    Calls Tryz.prog 90 #[.slice va 0 vc, .agg (limC fl rm)] w fun e w' => e = .returned (.tuple #[.agg (pkC zP), .int .i64 7]) ∧ Below w.heap.size w w' := by
  have hup := Tryz.underlying100
  have hz := pk_hz
  have hbz := build_pkz
  have hzs : (Tryz.prog.info? 100).map (·.size) = some (pkC zP).size := by kernel_rfl
  have hzo := pkC_one zP
  have h1 := ((on_all w).alloc (.cells (limC fl rm) 41)).alloc (.cells (pkC zP) 100)
  have hs1 := ((Str.refl w).alloc (.cells (limC fl rm) 41)).alloc (.cells (pkC zP) 100)
  rw [World.size_alloc] at h1
  have hE := pkparse_any (.slice va 0 vc) [] ((w.alloc (.cells (limC fl rm) 41)).alloc (.cells (pkC zP) 100)) (hv.below (all_below h1.right.right hs1)) (by decide) (hL.below (all_below h1.right.right hs1))
  rw [pparse_nil] at hE
  have hE : Calls Tryz.prog 93 #[.slice va 0 vc] ((w.alloc (.cells (limC fl rm) 41)).alloc (.cells (pkC zP) 100)) (fun e w' => e = .returned (.tuple #[.agg (pkC zP), .int .i64 7]) ∧ Below ((w.alloc (.cells (limC fl rm) 41)).alloc (.cells (pkC zP) 100)).heap.size ((w.alloc (.cells (limC fl rm) 41)).alloc (.cells (pkC zP) 100)) w') := hE
  have H1 := hide h1
  have HS1 := hide hs1
  clear h1 hs1 hL hv
  generalize hLm : limC fl rm = lm at *
  generalize hZ : pkC zP = Z at *
  clear hLm hZ
  go_enter Tryz.func90, Tryz.ntmps90
  go_wp2_with fail
  generalize (w.alloc (.cells lm 41)).alloc (.cells Z 100) = w1 at *
  refine hE.mono ?_
  clear hE
  rintro e w2 ⟨rfl, hb⟩
  have h2 := H1.out.below hb
  have hr2 := heap_alloc_new w2 (.cells Z 100)
  have h3 := (h2.alloc (.cells Z 100)).setRow Z
  have hs3 := ((HS1.out.trans (Str.below hb)).alloc (.cells Z 100)).setRow w2.heap.size Z
  have H3 := hide h3
  have HS3 := hide hs3
  have hR := on_blk_mul h3.right
  clear h2 h3 hs3 hb
  generalize hW3 : (w2.alloc (.cells Z 100)).setRow w2.heap.size Z = w3 at *
  have HW3 := hide hW3
  clear hW3
  go_wp2_with (first
    | (refine wpList_store_row rfl _ _ _ rfl w2.heap.size Z rfl rfl _ _ hr2 hzs rfl hzo ?_; rw [HW3.out])
    | (refine wpList_store_row rfl _ _ _ rfl (w.heap.size + 1) Z rfl rfl _ _ hR hzs rfl hzo ?_)
    | (refine wpList_build_eq rfl _ _ rfl Z (hbz _) ?_))
  refine bodyPost_ret (v := .tuple #[.agg Z, .int .i64 7]) (results_cell_row_tmp Tryz.results90 _ _ (w.heap.size + 1) _ Z (0, 0) _ rfl (setRow_heap_same _ _ _ _ _ _ hR) hup rfl hzs (.int .i64 7) rfl) rfl ?_
  exact ⟨rfl, below_setRow (all_below H3.out.right.right.right HS3.out) (by omega) _⟩

set_option maxRecDepth 100000 in
set_option maxHeartbeats 8000000 in
theorem resume_kp (p q fp : Nat) (R : RecS) (F : SP) (w : World) (h : (blk p (.cells (mK q) 127 (0, 0)) * (Kp q fp R * F)).on w) (ok : R.Ok) (hph : R.phase = 0) (hL : Lens w) :
    Calls Tryz.prog 83 #[.pointer (some ⟨p, 0, Option.none⟩)] w fun e w' => (∃ v, e = .returned v) ∧ Below w.heap.size w w' := by
  have hup := Tryz.underlying100
  have hul := Tryz.underlying41
  have hz := pk_hz
  have hzs : (Tryz.prog.info? 100).map (·.size) = some (pkC zP).size := by kernel_rfl
  have hzo := pkC_one zP
  have hls : (Tryz.prog.info? 41).map (·.size) = some (limC 0 4096).size := by kernel_rfl
  have hg := on_blk_mul h
  have c0 : w.cell? ⟨p, 0, Option.none⟩ = some (.iface 130 (.pointer (some ⟨q, 0, Option.none⟩))) := cell_of_row _ _ 0 _ _ _ hg
  have hE := kload_any q fp R F w (by have h9 := h.right; exact h9) ok
  have hgot : R.got = ([], 0) := by unfold RecS.got; rw [if_neg (by rw [hph]; decide)]
  unfold KLoad at hE
  rw [hgot] at hE
  have HLm : Hid (∀ X, Stay w X → ∀ j v, (limC 0 4096)[j]? = some v → X.cell? ⟨p, 1 + j, Option.none⟩ = some v) := hide fun X hX j v hj => by
    have hgX := (hX.block p (Array.getElem?_eq_some_iff.1 hg).1).trans hg
    rw [cell_of_row _ _ _ _ _ _ hgX]
    have hj2 : j < (limC 0 4096).toList.length := by have := (Array.getElem?_eq_some_iff.1 hj).1; simpa using this
    unfold mK
    rw [List.getElem?_toArray, List.append_assoc, List.append_assoc, List.append_assoc, List.getElem?_append_right (by simp), show 1 + j - [Value.iface 130 (.pointer (some ⟨q, 0, Option.none⟩))].length = j by simp, List.getElem?_append_left hj2]
    simpa using hj
  have nilA : ∀ w (a : Addr), (nilAhead 157 130 (.pointer (some a)) "Load").run Tryz.prog w = .ok (some false) w := fun w a => by kernel_rfl
  have HL := hide hL
  clear h hL hg hgot hph ok
  generalize hLm : (limC 0 4096) = lm at *
  have HLmE := hide hLm
  generalize hZ : pkC zP = Z at *
  have HZ := hide hZ
  clear hLm hZ
  go_enter Tryz.func83, Tryz.ntmps83
  go_wp2_with fail
  refine hE.mono ?_
  clear hE
  rintro e w2 ⟨v2, rfl, ho, hs⟩
  have hb := all_below ho.right hs
  have hv2 := own_bytes ho
  obtain ⟨va, vc, rfl, _, _, _, _⟩ := own_value ho
  rw [show ((0 : Nat) : Int) = 0 from rfl]
  have HB2 := hide hb
  have HLm2 : Hid (∀ j v, lm[j]? = some v → w2.cell? ⟨p, 1 + j, Option.none⟩ = some v) := hide (HLm.out w2 hb)
  have hE := pcheck_empty va vc 0 4096 w2 hv2 (HL.out.below hb)
  rw [HLmE.out, HZ.out] at hE
  clear hb c0 ho hs hv2
  go_wp2_with (refine wpList_load_part rfl _ _ rfl p 1 rfl lm _ HLm2.out hul rfl hls ?_)
  refine hE.mono ?_
  clear hE
  rintro e w3 ⟨rfl, hb⟩
  have HB3 := hide (HB2.out.trans (hb.mono HB2.out.size))
  have hr3 := heap_alloc_new w3 (.cells Z 100)
  have HB4 := hide (below_setRow (HB3.out.alloc HB3.out.size (.cells Z 100)) HB3.out.size Z)
  clear hb
  go_wp2_with (refine wpList_store_row rfl _ _ _ rfl w3.heap.size Z rfl rfl _ _ hr3 hzs rfl hzo ?_)
  exact bodyPost_ret (v := .tuple #[]) (by simp [results, Tryz.results83, go_sem]) rfl ⟨⟨_, rfl⟩, HB4.out⟩

set_option maxRecDepth 100000 in
set_option maxHeartbeats 8000000 in
theorem onew_kp (q fp : Nat) (R : RecS) (F : SP) (w : World) (h : (Kp q fp R * F).on w) (ok : R.Ok) (hph : R.phase = 0) (hL : Lens w) :
    Calls Tryz.prog 71 #[.iface 130 (.pointer (some ⟨q, 0, Option.none⟩)), .agg (limC 0 4096)] w fun e w' => ∃ p, e = .returned (.tuple #[.pointer (some ⟨p, 0, Option.none⟩), .int .i64 0]) ∧ (blk p (.cells (mK q) 127 (0, 0)) * (Kp q fp R * F)).on w' ∧ Below w.heap.size w w' := by
  have hul := Tryz.underlying41
  have hls : (Tryz.prog.info? 41).map (·.size) = some (limC 0 4096).size := by kernel_rfl
  have hr := heap_alloc_new w (.cells (limC 0 4096) 41)
  have h1 := (h.alloc' (.cells (limC 0 4096) 41)).alloc (.cells (mK q) 127)
  have hB : Below w.heap.size w ((w.alloc (.cells (limC 0 4096) 41)).alloc (.cells (mK q) 127)) := ((Below.refl _ _).alloc (Nat.le_refl _) _).alloc (by simp) _
  rw [World.size_alloc] at h1
  have H1 := hide h1
  have hE := resume_kp (w.heap.size + 1) q fp R F ((w.alloc (.cells (limC 0 4096) 41)).alloc (.cells (mK q) 127)) h1 ok hph (hL.below hB)
  have HB := hide hB
  clear h h1 hB hL ok hph
  generalize hLm : (limC 0 4096) = lm at *
  generalize hM : mK q = M at *
  have HM := hide hM
  have HLmE := hide hLm
  have Hbm : Hid (∀ X, (Instr.build 127 #[(0, .iface 130 (.pointer (some ⟨q, 0, Option.none⟩))), (1, .agg lm)]).run Tryz.prog X = .ok (.agg M) X) := hide fun X => by rw [← HLmE.out, ← HM.out]; exact build_mK q X
  have hul' := hide hul
  have hls' := hide hls
  have hr' := hide hr
  clear hLm hM hls hr hul
  go_enter Tryz.func71, Tryz.ntmps71
  go_wp2_with (first
    | (refine wpList_eql_iface rfl _ _ _ _ rfl (.iface 130 (.pointer (some ⟨q, 0, Option.none⟩))) rfl rfl (fun x y => kp_gd _ _ x y) (kp_eq _ _) ?_)
    | (refine wpList_load_row rfl _ _ rfl w.heap.size rfl _ lm _ _ hr'.out hul'.out rfl hls'.out ?_)
    | (refine wpList_build_two rfl 127 0 1 _ _ rfl (.iface 130 (.pointer (some ⟨q, 0, Option.none⟩))) (.agg lm) rfl rfl M (Hbm.out _) ?_))
  generalize (w.alloc (.cells lm 41)).alloc (.cells M 127) = w1 at *
  refine hE.mono ?_
  clear hE
  rintro e w2 ⟨⟨v, rfl⟩, hb⟩
  have HB2 := hide (HB.out.trans (hb.mono HB.out.size))
  have H2 := hide (H1.out.below hb)
  clear hb
  go_wp2_with fail
  go_ret2
  exact ⟨_, rfl, H2.out, HB2.out⟩


set_option maxRecDepth 100000 in
set_option maxHeartbeats 8000000 in
theorem executed_no (p q : Nat) (F : SP) (w : World) (h : (blk p (.cells (mK q) 127 (0, 0)) * F).on w) :
    Calls Tryz.prog 79 #[.pointer (some ⟨p, 0, Option.none⟩)] w fun e w' => e = .returned (.bool false) ∧ w = w' := by
  have hum := Tryz.underlying127
  have c47 : w.cell? ⟨p, 47, Option.none⟩ = some nV := by
    rw [cell_of_row _ _ 47 _ _ _ (on_blk_mul h)]
    kernel_rfl
  go_enter Tryz.func79, Tryz.ntmps79
  go_wp2_with fail
  go_ret
  exact ⟨rfl, rfl⟩
end Go.Proofs.YtgmpmlneoiagdaaGreatDoor
