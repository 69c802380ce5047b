/- LAID TOGETHER: Dv17, Dv18, Dv19, Dv20. -/
import Derived.Test.YtgmpmlneoiagdaaGreatDoorGDvE
import Derived.Test.YtgmpmlneoiagdaaGreatDoorGDvA
import Derived.Test.YtgmpmlneoiagdaaGreatDoorGDvB
/- boot: what is decided where the active image is valid, or a record tells of none. -/
namespace Go.Proofs.YtgmpmlneoiagdaaGreatDoor
open Go.ChangeShapes Go.WideShapes Go.ChangeAt Go.RowKit
set_option linter.unusedVariables false
set_option linter.unusedSimpArgs false

set_option maxRecDepth 100000 in
set_option maxHeartbeats 16000000 in
theorem decide_none (p : Nat) (s : FlS) (F : SP) (w : World) (h : (Flash p s * F).on w) (c : s.Calm) (a b : Nat) (hV : ∀ X, (Flash p s * F).on X → Calls Tryz.prog 25 #[fptr p] X fun e w' => e = .returned (.tuple #[nilV, .bool false]) ∧ Below X.heap.size X w') :
    Calls Tryz.prog 55 #[fptr p, .agg (limC a b), .bool false] w fun e w' => e = .returned (.tuple #[.agg (chC false nilV), .int .i64 0]) ∧ Below w.heap.size w w' := by
  have huc := Tryz.underlying105
  have hul := Tryz.underlying41
  have hz := ch_hz
  have hb0 := ch_build0
  have hA := ((on_all w).alloc (.cells (limC a b) 41)).alloc (.cells (chC false nilV) 105)
  have hF := (h.alloc' (.cells (limC a b) 41)).alloc' (.cells (chC false nilV) 105)
  have S0 := hide (((Str.refl w).alloc (.cells (limC a b) 41)).alloc (.cells (chC false nilV) 105))
  rw [World.size_alloc] at hA
  have hsz := size_any p s F _ hF c.ok
  have hGo := hide (goon_calm p s F _ hF c a b)
  have hOf := hide (fun X hX => off_any p s F X hX)
  have hVa := hide hV
  clear hV
  have hB2 : s.B.length ≤ 16384 := by have h1 := c.ok.pages; have h2 := c.ok.most; omega
  have hBI : ¬ (s.B.length : Int) < 8704 := by have := c.size; omega
  rw [c.on] at hOf
  have HA := hide hA
  have HF := hide hF
  have gl := hide (on_blk_mul hA.right)
  have Hl1 := hide (limC_info a b)
  have Hci := hide (ch_info false nilV)
  have Hco : Hid ((chC false nilV).all (·.oneCell') = true) := hide (by simp [Value.oneCell'])
  clear h c hA hF
  generalize limC a b = lm at *
  go_enter Tryz.func55, Tryz.ntmps55
  go_wp2_with fail
  generalize (w.alloc (.cells lm 41)).alloc (.cells (chC false nilV) 105) = w0 at *
  refine hsz.mono ?_
  clear hsz
  rintro e w1 ⟨rfl, rfl⟩
  go_wp2_with (refine wpList_load_row rfl _ _ rfl w.heap.size rfl _ lm _ _ gl.out hul rfl Hl1.out ?_)
  refine hGo.out.mono ?_
  clear hGo
  rintro e w2 ⟨⟨_, rfl⟩, hb⟩
  have hO2 := hOf.out w2 (HF.out.below hb)
  have H2 := hide (HA.out.below hb)
  have HF2 := hide (HF.out.below hb)
  have S2 := hide (S0.out.trans (Str.below hb))
  clear hb HA HF S0 gl
  go_wp2_with fail
  refine hO2.mono ?_
  clear hO2
  rintro e w3 ⟨rfl, rfl⟩
  have hV2 := hide (hVa.out w2 HF2.out)
  go_wp2_with fail
  refine hV2.out.mono ?_
  clear hV2
  rintro e w4 ⟨rfl, hb⟩
  have H4 := H2.out.below hb
  have g4 := hide (on_blk_mul H4)
  have H5 := hide (H4.setRow (chC false nilV))
  have S5 := hide ((S2.out.trans (Str.below hb)).setRow (w.heap.size + 1) (chC false nilV))
  clear hb H4 H2 S2
  go_wp2_with (refine wpList_store_row rfl _ _ _ rfl (w.heap.size + 1) (chC false nilV) rfl rfl _ _ g4.out Hci.out rfl Hco.out ?_)
  refine bodyPost_ret (v := .tuple #[.agg (chC false nilV), .int .i64 0]) (results_cell_row_tmp Tryz.results55 _ _ (w.heap.size + 1) _ (chC false nilV) (0, 0) _ rfl (setRow_heap_same _ _ _ _ _ _ g4.out) huc rfl Hci.out (.int .i64 0) rfl) rfl ?_
  exact ⟨rfl, all_below H5.out.right.right S5.out⟩

theorem sp_dr1 (A B C D : SP) : A * (B * (C * D)) = C * (A * (B * D)) := by ac_rfl
theorem sp_dr2 (A B C D : SP) : C * (A * (B * D)) = B * (C * (A * D)) := by ac_rfl
theorem ch_info2 (b : Bool) (a : Option Addr) (n c : Nat) : (chC b (.slice a n c)).all (·.oneCell') = true := by simp [Value.oneCell']
set_option maxRecDepth 100000 in
set_option maxHeartbeats 16000000 in
theorem decide_run (p : Nat) (s : FlS) (F : SP) (w : World) (h : (Flash p s * F).on w) (c : s.Calm) (a b : Nat) (img : List UInt8)
    (hV : ∀ (G : SP) X, (Flash p s * G).on X → Calls Tryz.prog 25 #[fptr p] X fun e w' => ∃ x, e = .returned (.tuple #[x, .bool true]) ∧ (ownBy x img * all X).on w' ∧ Str X w') :
    Calls Tryz.prog 55 #[fptr p, .agg (limC a b), .bool false] w fun e w' => ∃ x, e = .returned (.tuple #[.agg (chC true x), .int .i64 0]) ∧ (ownBy x img * all w).on w' ∧ Str w w' := by
  have huc := Tryz.underlying105
  have hul := Tryz.underlying41
  have hz := ch_hz
  have h0 := (h.alloc (.cells (limC a b) 41)).alloc (.cells (chC false nilV) 105)
  have S0 := hide (((Str.refl w).alloc (.cells (limC a b) 41)).alloc (.cells (chC false nilV) 105))
  rw [World.size_alloc, sp_dr1] at h0
  have HA := hide (((on_all w).alloc (.cells (limC a b) 41)).alloc (.cells (chC false nilV) 105))
  rw [World.size_alloc] at HA
  have hsz := size_any p s _ _ h0 c.ok
  have hGo := hide (goon_calm p s _ _ h0 c a b)
  have hOf := hide (fun G X (hX : (Flash p s * G).on X) => off_any p s G X hX)
  have hB2 : s.B.length ≤ 16384 := by have h1 := c.ok.pages; have h2 := c.ok.most; omega
  have hBI : ¬ (s.B.length : Int) < 8704 := by have := c.size; omega
  rw [c.on] at hOf
  have H0 := hide h0
  have gl := hide (on_blk_mul (show (blk w.heap.size (.cells (limC a b) 41 (0, 0)) * (Flash p s * (blk (w.heap.size + 1) (.cells (chC false nilV) 105 (0, 0)) * F))).on _ by rw [← sp_dr2]; exact h0))
  have Hl1 := hide (limC_info a b)
  have hVa := hide hV
  clear h c h0 hV
  generalize limC a b = lm at *
  go_enter Tryz.func55, Tryz.ntmps55
  go_wp2_with fail
  generalize (w.alloc (.cells lm 41)).alloc (.cells (chC false nilV) 105) = w0 at *
  refine hsz.mono ?_
  clear hsz
  rintro e w1 ⟨rfl, rfl⟩
  go_wp2_with (refine wpList_load_row rfl _ _ rfl w.heap.size rfl _ lm _ _ gl.out hul rfl Hl1.out ?_)
  refine hGo.out.mono ?_
  clear hGo
  rintro e w2 ⟨⟨_, rfl⟩, hb⟩
  have hO2 := hOf.out _ w2 (H0.out.below hb)
  have H2 := hide (H0.out.below hb)
  have A2 := hide (HA.out.below hb)
  have S2 := hide (S0.out.trans (Str.below hb))
  clear hb H0 S0 gl HA
  go_wp2_with fail
  refine hO2.mono ?_
  clear hO2
  rintro e w3 ⟨rfl, rfl⟩
  have hV2 := hide (hVa.out _ w2 H2.out)
  go_wp2_with fail
  refine hV2.out.mono ?_
  clear hV2
  rintro e w4 ⟨x, rfl, ho, hs⟩
  have hx := own_bytes ho
  have ho := on_all_to ho A2.out
  rw [SP.mul_left_comm] at ho
  have S4 := hide (S2.out.trans hs)
  have g4 := hide (on_blk_mul ho)
  obtain ⟨oa, oc, rfl, _, _, _, _⟩ := hx
  have H5 := hide (ho.setRow (chC true (.slice oa img.length oc)))
  have S5 := hide (S4.out.setRow (w.heap.size + 1) (chC true (.slice oa img.length oc)))
  have Hci := hide (ch_info true (.slice oa img.length oc))
  have Hco := hide (ch_info2 true oa img.length oc)
  clear ho hs H2 S2 A2
  go_wp2_with (refine wpList_store_row rfl _ _ _ rfl (w.heap.size + 1) (chC true (.slice oa img.length oc)) rfl rfl _ _ g4.out Hci.out rfl Hco.out ?_)
  refine bodyPost_ret (v := .tuple #[.agg (chC true (.slice oa img.length oc)), .int .i64 0]) (results_cell_row_tmp Tryz.results55 _ _ (w.heap.size + 1) _ (chC true (.slice oa img.length oc)) (0, 0) _ rfl (setRow_heap_same _ _ _ _ _ _ g4.out) huc rfl Hci.out (.int .i64 0) rfl) rfl ?_
  exact ⟨_, rfl, (SP.le.mul (SP.le.refl _) (SP.le_right _ _)).on H5.out.right, S5.out⟩
end Go.Proofs.YtgmpmlneoiagdaaGreatDoor

/- device: it starts where a record tells of no image. -/
namespace Go.Proofs.YtgmpmlneoiagdaaGreatDoor
open Go.ChangeShapes Go.WideShapes Go.ChangeAt Go.RowKit
set_option linter.unusedVariables false
set_option linter.unusedSimpArgs false

set_option maxRecDepth 100000 in
set_option maxHeartbeats 16000000 in
theorem start_none (d p : Nat) (dec0 img0 mach0 : Value) (st0 t0 : Nat) (s : FlS) (F : SP) (w : World) (h : (blk d (.cells (dvV dec0 (fptr p) st0 img0 mach0 t0) 67 (0, 0)) * (Flash p s * F)).on w) (c : s.Calm) (hV : ∀ (G : SP) X, (Flash p s * G).on X → Calls Tryz.prog 25 #[fptr p] X fun e w' => e = .returned (.tuple #[nilV, .bool false]) ∧ Below X.heap.size X w') (hL : ∀ W, F.on W → Lens W) :
    Calls Tryz.prog 30 #[.pointer (some ⟨d, 0, Option.none⟩), .bool false] w fun e w' => (∃ v, e = .returned v) ∧ ∃ dp m q, (blk d (.cells (dvV (dptr dp) (fptr p) 1 nilV (.pointer (some ⟨m, 0, Option.none⟩)) 0) 67 (0, 0)) * (Dec dp ⟨[], 70, false, false⟩ * (blk m (.cells (mK q) 127 (0, 0)) * (Kp q p s.load.1 * (Flash p s * F))))).on w' ∧ Str w w' := by
  have hud := Tryz.underlying67
  have hul := Tryz.underlying41
  have huc := Tryz.underlying105
  have hzc := ch_hz
  have Hci := hide (ch_info false nilV)
  have Hco : Hid ((chC false nilV).all (·.oneCell') = true) := hide (by simp [Value.oneCell'])
  have hS := hide (stop_any d p dec0 img0 mach0 st0 t0 (Flash p s * F) w h)
  have HC := hide c
  have HL := hide hL
  clear h c hL
  go_enter Tryz.func30, Tryz.ntmps30
  go_wp2_with fail
  refine hS.out.mono ?_
  clear hS
  rintro e w1 ⟨⟨_, rfl⟩, h1, hs1⟩
  have H1 := hide h1
  have S1 := hide hs1
  clear h1 hs1
  go_wp2_with fail
  refine wp_region_store 14 [isV (.pointer (some ⟨d, 0, Option.none⟩)), isV (.pointer (some ⟨d, 0, Option.none⟩)), isV (.pointer (some ⟨d, 1, Option.none⟩)), isV (fptr p), isV (.pointer (some ⟨d, 0, Option.none⟩)), isV (.pointer (some ⟨d, 0, Option.none⟩)), isV (.pointer (some ⟨d, 2, Option.none⟩)), isV (.agg (limC 0 0)), isV (.bool false), isV (.tuple #[.agg (chC false nilV), .int .i64 0]), isV (.tuple #[.agg (chC false nilV), .int .i64 0]), isV (.agg (chC false nilV)), isV (.int .i64 0), (fun v X => ∃ g, v = .pointer (some ⟨g, 0, Option.none⟩) ∧ w1.heap.size ≤ g ∧ (blk g (.cells (chC false nilV) 105 (0, 0)) * (blk d (.cells (dvV pnil (fptr p) 0 nilV pnil 0) 67 (0, 0)) * (Flash p s * F))).on X), (fun _ _ => True), isV (.int .i64 0)]
    [isV (.pointer (some ⟨d, 0, Option.none⟩)), isV (.pointer (some ⟨d, 0, Option.none⟩)), isV (.pointer (some ⟨d, 1, Option.none⟩)), isV (fptr p), isV (.pointer (some ⟨d, 0, Option.none⟩)), isV (.pointer (some ⟨d, 0, Option.none⟩)), isV (.pointer (some ⟨d, 2, Option.none⟩)), isV (.agg (limC 0 0)), isV (.bool false), isV (.tuple #[.agg (chC false nilV), .int .i64 0]), isV (.tuple #[.agg (chC false nilV), .int .i64 0]), isV (.agg (chC false nilV)), isV (.int .i64 0), (fun v X => ∃ g, v = .pointer (some ⟨g, 0, Option.none⟩) ∧ w1.heap.size ≤ g ∧ (blk g (.cells (chC false nilV) 105 (0, 0)) * (blk d (.cells (dvV pnil (fptr p) 0 nilV pnil 0) 67 (0, 0)) * (Flash p s * F))).on X), (fun _ _ => True), isV (.int .i64 0)] _ rfl (by kernel_rfl) (by kernel_rfl) rfl rfl (by decide) (.inr rfl) ?keep ?keep2 ?store ?todo ?rest
  case keep => exact ⟨Keep.isV _, Keep.isV _, Keep.isV _, Keep.isV _, Keep.isV _, Keep.isV _, Keep.isV _, Keep.isV _, Keep.isV _, Keep.isV _, Keep.isV _, Keep.isV _, Keep.isV _, fun _ _ _ ⟨g, h0, h1, h2⟩ k => ⟨g, h0, h1, h2.below k⟩, fun _ _ _ h _ => h, Keep.isV _, trivial⟩
  case keep2 => exact ⟨Keep.isV _, Keep.isV _, Keep.isV _, Keep.isV _, Keep.isV _, Keep.isV _, Keep.isV _, Keep.isV _, Keep.isV _, Keep.isV _, Keep.isV _, Keep.isV _, Keep.isV _, fun _ _ _ ⟨g, h0, h1, h2⟩ k => ⟨g, h0, h1, h2.below k⟩, fun _ _ _ h _ => h, Keep.isV _, trivial⟩
  case store =>
    intro ev X hT0 hb hk hf
    have hT := Stay.undrew hT0
    obtain ⟨g, e0, hge, hg⟩ : ∃ g, ev (.tmp 4) = .pointer (some ⟨g, 0, Option.none⟩) ∧ w1.heap.size ≤ g ∧ (blk g (.cells (chC false nilV) 105 (0, 0)) * (blk d (.cells (dvV pnil (fptr p) 0 nilV pnil 0) 67 (0, 0)) * (Flash p s * F))).on X := hf.1
    have e1 : ev (.tmp 19) = .agg (chC false nilV) := hf.2.1
    refine OpOk.store_row _ _ _ rfl g (chC false nilV) e0 e1 _ (chC false nilV) (on_blk_mul hg) Hci.out rfl Hco.out ⟨below_setRow hT0 (by simpa using hge) _, ?_⟩
    intro i his hv
    match i, his, hv with
    | 0, _, hv => exact hv
    | 1, _, hv => exact hv
    | 2, _, hv => exact hv
    | 3, _, hv => exact hv
    | 4, _, hv => exact hv
    | 5, _, hv => exact hv
    | 6, _, hv => exact hv
    | 7, _, hv => exact hv
    | 8, _, hv => exact hv
    | 9, _, hv => exact hv
    | 10, _, hv => exact hv
    | 11, _, hv => exact hv
    | 12, _, hv => exact hv
    | 13, _, hv =>
      obtain ⟨g', e0', hge', hg'⟩ : ∃ g, ev (.tmp 4) = .pointer (some ⟨g, 0, Option.none⟩) ∧ w1.heap.size ≤ g ∧ (blk g (.cells (chC false nilV) 105 (0, 0)) * (blk d (.cells (dvV pnil (fptr p) 0 nilV pnil 0) 67 (0, 0)) * (Flash p s * F))).on X := hv
      rw [e0] at e0'
      cases e0'
      exact ⟨g, e0, hge, hg.setRow (chC false nilV)⟩
    | 14, h, _ => exact absurd rfl h
    | 15, _, hv => exact hv
    | n + 16, _, _ => exact trivial
  case todo =>
    refine ⟨?_, ?_, ?_, ?_, ?_, ?_, ?_, ?_, ?_, ?_, ?_, ?_, ?_, ?_, ?_, ?_, trivial⟩
    · intro _ ph h1 h2
      obtain rfl : ph = false := h2 (by kernel_rfl)
      intro ev X hT0 hb hk hf
      have hT := Stay.undrew hT0
      have e0 : ev (.tmp 0) = .pointer (some ⟨d, 0, Option.none⟩) := hk.1
      exact OpOk.move rfl e0 ⟨rfl, Stay.refl _⟩
    · intro _ ph h1 h2
      obtain rfl : ph = false := h2 (by kernel_rfl)
      intro ev X hT0 hb hk hf
      have hT := Stay.undrew hT0
      have e0 : ev (.tmp 9) = .pointer (some ⟨d, 0, Option.none⟩) := hf.1
      exact OpOk.run (v := .pointer (some ⟨d, 0, Option.none⟩)) (W' := X) (by simp [execOp, e0, hb.1, go_sem]) ⟨rfl, Stay.refl _⟩
    · intro _ ph h1 h2
      obtain rfl : ph = false := h2 (by kernel_rfl)
      intro ev X hT0 hb hk hf
      have hT := Stay.undrew hT0
      have e0 : ev (.tmp 10) = .pointer (some ⟨d, 0, Option.none⟩) := hf.1
      exact OpOk.run (v := .pointer (some ⟨d, 1, Option.none⟩)) (W' := X) (by simp [execOp, e0, hud, go_sem]) ⟨rfl, Stay.refl _⟩
    · intro _ ph h1 h2
      obtain rfl : ph = false := h2 (by kernel_rfl)
      intro ev X hT0 hb hk hf
      have hT := Stay.undrew hT0
      have e0 : ev (.tmp 11) = .pointer (some ⟨d, 1, Option.none⟩) := hf.1
      have cW : X.cell? ⟨d, 1, Option.none⟩ = some (fptr p) := by rw [cell_of_row _ _ 1 _ _ _ (on_blk_mul (H1.out.below hT))]; exact dvV_get1 _ _ _ _ _ _
      exact OpOk.run (v := fptr p) (W' := X) (by simp [execOp, e0, cW, go_sem]) ⟨rfl, Stay.refl _⟩
    · intro _ ph h1 h2
      obtain rfl : ph = false := h2 (by kernel_rfl)
      intro ev X hT0 hb hk hf
      have hT := Stay.undrew hT0
      have e0 : ev (.tmp 0) = .pointer (some ⟨d, 0, Option.none⟩) := hk.1
      exact OpOk.move rfl e0 ⟨rfl, Stay.refl _⟩
    · intro _ ph h1 h2
      obtain rfl : ph = false := h2 (by kernel_rfl)
      intro ev X hT0 hb hk hf
      have hT := Stay.undrew hT0
      have e0 : ev (.tmp 13) = .pointer (some ⟨d, 0, Option.none⟩) := hf.1
      exact OpOk.run (v := .pointer (some ⟨d, 0, Option.none⟩)) (W' := X) (by simp [execOp, e0, hb.1, go_sem]) ⟨rfl, Stay.refl _⟩
    · intro _ ph h1 h2
      obtain rfl : ph = false := h2 (by kernel_rfl)
      intro ev X hT0 hb hk hf
      have hT := Stay.undrew hT0
      have e0 : ev (.tmp 14) = .pointer (some ⟨d, 0, Option.none⟩) := hf.1
      exact OpOk.run (v := .pointer (some ⟨d, 2, Option.none⟩)) (W' := X) (by simp [execOp, e0, hud, go_sem]) ⟨rfl, Stay.refl _⟩
    · intro _ ph h1 h2
      obtain rfl : ph = false := h2 (by kernel_rfl)
      intro ev X hT0 hb hk hf
      have hT := Stay.undrew hT0
      have e0 : ev (.tmp 15) = .pointer (some ⟨d, 2, Option.none⟩) := hf.1
      exact OpOk.load_part _ _ rfl d 2 e0 (limC 0 0) _ (fun j v hj => by rw [cell_of_row _ _ _ _ _ _ (on_blk_mul (H1.out.below hT))]; exact dvV_lim _ _ _ _ _ _ j v hj) hul rfl (limC_info 0 0) ⟨rfl, Stay.refl _⟩
    · intro _ ph h1 h2
      obtain rfl : ph = false := h2 (by kernel_rfl)
      intro ev X hT0 hb hk hf
      have hT := Stay.undrew hT0
      have e0 : ev (.tmp 1) = .bool false := hk.1
      exact OpOk.move rfl e0 ⟨rfl, Stay.refl _⟩
    · intro _ ph h1 h2
      obtain rfl : ph = false := h2 (by kernel_rfl)
      intro ev X hT0 hb hk hf
      have hT := Stay.undrew hT0
      have e0 : ev (.tmp 12) = fptr p := hf.1
      have e1 : ev (.tmp 16) = .agg (limC 0 0) := hf.2.1
      have e2 : ev (.tmp 17) = .bool false := hf.2.2.1
      refine OpOk.enters (f := 55) (args := #[fptr p, .agg (limC 0 0), .bool false]) (W' := X) (by simp [execOp, resolve, invoke, e0, e1, e2, hb.1, hb.2.1, go_sem]) ((decide_none p s _ X (H1.out.below hT).right HC.out 0 0 (fun X hX => hV _ X hX)).mono ?_)
      rintro e X2 ⟨rfl, h2⟩
      exact ⟨_, rfl, rfl, h2⟩
    · intro _ ph h1 h2
      obtain rfl : ph = false := h2 (by kernel_rfl)
      intro ev X hT0 hb hk hf
      have hT := Stay.undrew hT0
      have e0 : ev (.tmp 18) = .tuple #[.agg (chC false nilV), .int .i64 0] := hf.1
      exact OpOk.move rfl e0 ⟨rfl, Stay.refl _⟩
    · intro _ ph h1 h2
      obtain rfl : ph = false := h2 (by kernel_rfl)
      intro ev X hT0 hb hk hf
      have hT := Stay.undrew hT0
      have e0 : ev (.tmp 8) = .tuple #[.agg (chC false nilV), .int .i64 0] := hf.1
      exact OpOk.run (v := .agg (chC false nilV)) (W' := X) (by simp [execOp, e0, hb.1, go_sem]) ⟨rfl, Stay.refl _⟩
    · intro _ ph h1 h2
      cases ph
      all_goals
        intro ev X hT0 hb hk hf
        have hT := Stay.undrew hT0
        have e0 : ev (.tmp 8) = .tuple #[.agg (chC false nilV), .int .i64 0] := hf.1
        exact OpOk.run (v := .int .i64 0) (W' := X) (by simp [execOp, e0, hb.1, go_sem]) ⟨rfl, Stay.refl _⟩
    · intro _ ph h1 h2
      obtain rfl : ph = false := h2 (by kernel_rfl)
      intro ev X hT0 hb hk hf
      have hT := Stay.undrew hT0
      exact OpOk.run (v := .pointer (some ⟨X.heap.size, 0, Option.none⟩)) (W' := X.alloc (.cells (chC false nilV) 105)) (by simp [execOp, hzc, go_sem]) ⟨⟨_, rfl, hT.size, (H1.out.below hT).alloc _⟩, (Below.refl _ _).alloc (Nat.le_refl _) _⟩
    · exact fun h => absurd rfl h
    · intro _ ph h1 h2
      obtain rfl : ph = true := h1 (by kernel_rfl)
      intro ev X hT0 hb hk hf
      have hT := Stay.undrew hT0
      have e0 : ev (.tmp 20) = .int .i64 0 := hf.1
      exact OpOk.assign rfl e0 ⟨rfl, Stay.refl _⟩
  case rest =>
    intro X hT
    rintro _ rfl _ rfl _ rfl _ rfl _ rfl _ rfl _ rfl _ rfl _ rfl _ rfl _ rfl _ rfl _ rfl v4 ⟨g, rfl, -, hg⟩ _ - _ rfl
    have c0 : X.cell? ⟨g, 0, Option.none⟩ = some (.bool false) := cell_of_row _ _ 0 _ _ _ (on_blk_mul hg)
    have hW := hide (wait_calm d p pnil nilV pnil 0 0 s F X hg.right HC.out HL.out)
    have S2 := hide (S1.out.trans (Str.below hT))
    clear hT hg H1 S1
    go_wp2
    refine Rest.done ?_
    go_wp2_with fail
    refine hW.out.mono ?_
    clear hW c0
    rintro e w3 ⟨⟨_, rfl⟩, dp, m, q, h3, hs3⟩
    have H3 := hide h3
    have S3 := hide (S2.out.trans hs3)
    clear h3 hs3
    go_wp2_with fail
    go_end0
    exact ⟨⟨_, rfl⟩, dp, m, q, H3.out, S3.out⟩

set_option maxRecDepth 100000 in
set_option maxHeartbeats 16000000 in
theorem reset_zero (d p : Nat) (dec0 img0 mach0 : Value) (st0 t0 : Nat) (s : FlS) (F : SP) (w : World) (h : (blk d (.cells (dvV dec0 (fptr p) st0 img0 mach0 t0) 67 (0, 0)) * (Flash p s * F)).on w) (c : s.Calm) (hpw : ({ s with off := false, armed := false } : FlS) = s) (hV : ∀ (G : SP) X, (Flash p s * G).on X → Calls Tryz.prog 25 #[fptr p] X fun e w' => e = .returned (.tuple #[nilV, .bool false]) ∧ Below X.heap.size X w') (hL : ∀ W, F.on W → Lens W) :
    Calls Tryz.prog 15 #[.pointer (some ⟨d, 0, Option.none⟩), .bool false] w fun e w' => (∃ v, e = .returned v) ∧ ∃ dp m q, (blk d (.cells (dvV (dptr dp) (fptr p) 1 nilV (.pointer (some ⟨m, 0, Option.none⟩)) 0) 67 (0, 0)) * (Dec dp ⟨[], 70, false, false⟩ * (blk m (.cells (mK q) 127 (0, 0)) * (Kp q p s.load.1 * (Flash p s * F))))).on w' ∧ Str w w' := by
  have hud := Tryz.underlying67
  have c1 : w.cell? ⟨d, 1, Option.none⟩ = some (fptr p) := by rw [cell_of_row _ _ 1 _ _ _ (on_blk_mul h)]; exact dvV_get1 _ _ _ _ _ _
  have hP := power_any p s (blk d (.cells (dvV dec0 (fptr p) st0 img0 mach0 t0) 67 (0, 0)) * F) w (by rw [SP.mul_left_comm]; exact h)
  rw [hpw] at hP
  have HP := hide hP
  have HSt := hide (fun X hX => start_none d p dec0 img0 mach0 st0 t0 s F X hX c hV hL)
  clear h hP hpw c hL hV
  go_enter Tryz.func15, Tryz.ntmps15
  go_wp2_with fail
  refine HP.out.mono ?_
  clear HP
  rintro e w1 ⟨⟨_, rfl⟩, h1, hs1⟩
  rw [SP.mul_left_comm] at h1
  have hS := hide (HSt.out w1 h1)
  have S1 := hide hs1
  clear h1 hs1 HSt c1
  go_wp2_with fail
  refine hS.out.mono ?_
  clear hS
  rintro e w3 ⟨⟨_, rfl⟩, dp, m, q, h3, hs3⟩
  have H3 := hide h3
  have S3 := hide (S1.out.trans hs3)
  clear h3 hs3
  go_wp2_with fail
  go_end0
  exact ⟨⟨_, rfl⟩, dp, m, q, H3.out, S3.out⟩

end Go.Proofs.YtgmpmlneoiagdaaGreatDoor

/- A block that came into being is joined to what was told of the world before. -/
namespace Go.Proofs.YtgmpmlneoiagdaaGreatDoor
open Go.ChangeShapes Go.WideShapes Go.ChangeAt Go.RowKit

/-- a row that a call made, beside a block that came into being, too; and what was told of the world before -/
theorem own_join {e T : TypeId} {v : Value} {n g : Nat} {xs : List Value} {cs : Array Value} {fr : Nat × Nat} {P : SP} {w X : World} (h : (own e 1 v n xs * all w).on X) (hP : P.on w) (hg : X.heap[g]? = some (.cells cs T fr)) (hge : w.heap.size ≤ g) (hne : T ≠ e) :
    (blk g (.cells cs T fr) * (own e 1 v n xs * P)).on X := by
  obtain ⟨a, b, h1, h2, h3, p, q⟩ := SP.on_mul.1 h
  obtain ⟨y, hy, r⟩ := hP
  have hyl : ∀ k o, y k = some o → k < w.heap.size := fun k o e => (Array.getElem?_eq_some_iff.1 (hy k o e)).1
  have hyb : y.sub b := fun k o ho => by rw [q k (hyl k o ho)]; exact hy k o ho
  have hyg : y g = Option.none := by
    cases e : y g with
    | none => rfl
    | some o => have := hyl _ _ e; omega
  have hag : a g = Option.none ∨ ∃ a' : Hp, a'.sub a ∧ a' g = Option.none ∧ (own e 1 v n xs).on' a' := by
    rcases p.2 with ⟨p1, p2⟩ | ⟨g', cap, cur, e1, e2, e3, e4, e5, e6⟩
    · exact .inr ⟨fun _ => Option.none, fun _ _ h => (nomatch h), rfl, p.1, .inl ⟨p1, p2⟩⟩
    · refine .inr ⟨fun k => if k = g' then a k else Option.none, ?_, ?_, p.1, .inr ⟨g', cap, cur, e1, e2, e3, e4, e5, by simpa using e6⟩⟩
      · intro k o ho
        by_cases hk : k = g'
        · simpa [hk] using ho
        · simp [hk] at ho
      · have : g ≠ g' := by
          rintro rfl
          have h9 := h2 _ _ e6
          simp only [hpOf] at h9
          rw [hg] at h9
          simp only [Option.some.injEq, Obj.cells.injEq] at h9
          exact hne h9.2.1
        simp [this]
  obtain ⟨a', ha, hag, p'⟩ : ∃ a' : Hp, a'.sub a ∧ a' g = Option.none ∧ (own e 1 v n xs).on' a' := by
    rcases hag with h | h
    · exact ⟨a, Hp.sub_refl _, h, p⟩
    · exact h
  have hap : a'.apart y := ((h1.symm.sub_right ha).symm).sub_right hyb
  refine SP.on_mul.2 ⟨fun k => if k = g then some (.cells cs T fr) else Option.none, a'.or y, ?_, ?_, Hp.or_sub (ha.trans h2) (hyb.trans h3), by simp [blk], a', y, hap, Hp.sub_or_left _ _, Hp.sub_or_right hap, p', r⟩
  · intro k
    by_cases hk : k = g
    · right; subst hk; simp [Hp.or, hag, hyg]
    · left; simp [hk]
  · intro k o ho
    by_cases hk : k = g
    · subst hk; simp at ho; subst ho; exact hg
    · simp [hk] at ho
end Go.Proofs.YtgmpmlneoiagdaaGreatDoor

/- device: it starts, and is reset, where there is an image. -/
namespace Go.Proofs.YtgmpmlneoiagdaaGreatDoor
open Go.ChangeShapes Go.WideShapes Go.ChangeAt Go.RowKit
set_option linter.unusedVariables false
set_option linter.unusedSimpArgs false

set_option maxRecDepth 100000 in
set_option maxHeartbeats 16000000 in
theorem start_run (d p : Nat) (dec0 img0 mach0 : Value) (st0 t0 : Nat) (s : FlS) (F : SP) (w : World) (h : (blk d (.cells (dvV dec0 (fptr p) st0 img0 mach0 t0) 67 (0, 0)) * (Flash p s * F)).on w) (c : s.Calm) (img : List UInt8) (hV : ∀ (G : SP) X, (Flash p s * G).on X → Calls Tryz.prog 25 #[fptr p] X fun e w' => ∃ x, e = .returned (.tuple #[x, .bool true]) ∧ (ownBy x img * all X).on w' ∧ Str X w') :
    Calls Tryz.prog 30 #[.pointer (some ⟨d, 0, Option.none⟩), .bool false] w fun e w' => (∃ v, e = .returned v) ∧ ∃ x, (blk d (.cells (dvV pnil (fptr p) 2 x pnil 0) 67 (0, 0)) * (ownBy x img * (Flash p s * F))).on w' ∧ Str w w' := by
  have hud := Tryz.underlying67
  have hul := Tryz.underlying41
  have huc := Tryz.underlying105
  have hzc := ch_hz
  have hS := hide (stop_any d p dec0 img0 mach0 st0 t0 (Flash p s * F) w h)
  have HC := hide c
  have HV := hide hV
  clear h c hV
  go_enter Tryz.func30, Tryz.ntmps30
  go_wp2_with fail
  refine hS.out.mono ?_
  clear hS
  rintro e w1 ⟨⟨_, rfl⟩, h1, hs1⟩
  have H1 := hide h1
  have S1 := hide hs1
  clear h1 hs1
  go_wp2_with fail
  refine wp_region_store 14 [isV (.pointer (some ⟨d, 0, Option.none⟩)), isV (.pointer (some ⟨d, 0, Option.none⟩)), isV (.pointer (some ⟨d, 1, Option.none⟩)), isV (fptr p), isV (.pointer (some ⟨d, 0, Option.none⟩)), isV (.pointer (some ⟨d, 0, Option.none⟩)), isV (.pointer (some ⟨d, 2, Option.none⟩)), isV (.agg (limC 0 0)), isV (.bool false), (fun v X => ∃ x, v = .tuple #[.agg (chC true x), .int .i64 0] ∧ (ownBy x img * all w1).on X), (fun v X => ∃ x, v = .tuple #[.agg (chC true x), .int .i64 0] ∧ (ownBy x img * all w1).on X), (fun v X => ∃ x, v = .agg (chC true x) ∧ (ownBy x img * all w1).on X), isV (.int .i64 0), (fun v X => ∃ g, v = .pointer (some ⟨g, 0, Option.none⟩) ∧ w1.heap.size ≤ g ∧ (blk g (.cells (chC false nilV) 105 (0, 0)) * (blk d (.cells (dvV pnil (fptr p) 0 nilV pnil 0) 67 (0, 0)) * (Flash p s * F))).on X), (fun _ _ => True), isV (.int .i64 0)]
    [isV (.pointer (some ⟨d, 0, Option.none⟩)), isV (.pointer (some ⟨d, 0, Option.none⟩)), isV (.pointer (some ⟨d, 1, Option.none⟩)), isV (fptr p), isV (.pointer (some ⟨d, 0, Option.none⟩)), isV (.pointer (some ⟨d, 0, Option.none⟩)), isV (.pointer (some ⟨d, 2, Option.none⟩)), isV (.agg (limC 0 0)), isV (.bool false), (fun v _ => ∃ x, v = .tuple #[.agg (chC true x), .int .i64 0]), (fun v _ => ∃ x, v = .tuple #[.agg (chC true x), .int .i64 0]), (fun _ _ => True), isV (.int .i64 0), (fun v X => ∃ g oa oc, v = .pointer (some ⟨g, 0, Option.none⟩) ∧ (blk g (.cells (chC true (.slice oa img.length oc)) 105 (0, 0)) * (ownBy (.slice oa img.length oc) img * (blk d (.cells (dvV pnil (fptr p) 0 nilV pnil 0) 67 (0, 0)) * (Flash p s * F)))).on X), (fun _ _ => True), isV (.int .i64 0)] _ rfl (by kernel_rfl) (by kernel_rfl) rfl rfl (by decide) (.inr rfl) ?keep ?keep2 ?store ?todo ?rest
  case keep => exact ⟨Keep.isV _, Keep.isV _, Keep.isV _, Keep.isV _, Keep.isV _, Keep.isV _, Keep.isV _, Keep.isV _, Keep.isV _, fun _ _ _ ⟨x, h1, h2⟩ k => ⟨x, h1, h2.below k⟩, fun _ _ _ ⟨x, h1, h2⟩ k => ⟨x, h1, h2.below k⟩, fun _ _ _ ⟨x, h1, h2⟩ k => ⟨x, h1, h2.below k⟩, Keep.isV _, fun _ _ _ ⟨g, h0, h1, h2⟩ k => ⟨g, h0, h1, h2.below k⟩, fun _ _ _ h _ => h, Keep.isV _, trivial⟩
  case keep2 => exact ⟨Keep.isV _, Keep.isV _, Keep.isV _, Keep.isV _, Keep.isV _, Keep.isV _, Keep.isV _, Keep.isV _, Keep.isV _, fun _ _ _ h _ => h, fun _ _ _ h _ => h, fun _ _ _ h _ => h, Keep.isV _, fun _ _ _ ⟨g, x, y, h0, h2⟩ k => ⟨g, x, y, h0, h2.below k⟩, fun _ _ _ h _ => h, Keep.isV _, trivial⟩
  case store =>
    intro ev X hT0 hb hk hf
    have hT := Stay.undrew hT0
    obtain ⟨g, e0, hge, hg⟩ : ∃ g, ev (.tmp 4) = .pointer (some ⟨g, 0, Option.none⟩) ∧ w1.heap.size ≤ g ∧ (blk g (.cells (chC false nilV) 105 (0, 0)) * (blk d (.cells (dvV pnil (fptr p) 0 nilV pnil 0) 67 (0, 0)) * (Flash p s * F))).on X := hf.1
    obtain ⟨x, e1, hx⟩ : ∃ x, ev (.tmp 19) = .agg (chC true x) ∧ (ownBy x img * all w1).on X := hf.2.1
    obtain ⟨oa, oc, rfl, _, _, _, _⟩ := own_value hx
    have hj := own_join hx H1.out (on_blk_mul hg) hge (by decide)
    refine OpOk.store_row _ _ _ rfl g (chC true (.slice oa img.length oc)) e0 e1 _ (chC false nilV) (on_blk_mul hg) (ch_info true (.slice oa img.length oc)) rfl (ch_info2 true oa img.length oc) ⟨below_setRow hT0 (by simpa using hge) _, ?_⟩
    intro i his hv
    match i, his, hv with
    | 0, _, hv => exact hv
    | 1, _, hv => exact hv
    | 2, _, hv => exact hv
    | 3, _, hv => exact hv
    | 4, _, hv => exact hv
    | 5, _, hv => exact hv
    | 6, _, hv => exact hv
    | 7, _, hv => exact hv
    | 8, _, hv => exact hv
    | 9, _, hv =>
      obtain ⟨x9, h9, -⟩ := hv
      exact ⟨x9, h9⟩
    | 10, _, hv =>
      obtain ⟨x9, h9, -⟩ := hv
      exact ⟨x9, h9⟩
    | 11, _, _ => exact trivial
    | 12, _, hv => exact hv
    | 13, _, hv =>
      obtain ⟨g', e0', hge', hg'⟩ : ∃ g, ev (.tmp 4) = .pointer (some ⟨g, 0, Option.none⟩) ∧ w1.heap.size ≤ g ∧ (blk g (.cells (chC false nilV) 105 (0, 0)) * (blk d (.cells (dvV pnil (fptr p) 0 nilV pnil 0) 67 (0, 0)) * (Flash p s * F))).on X := hv
      rw [e0] at e0'
      cases e0'
      exact ⟨g, oa, oc, e0, hj.setRow _⟩
    | 14, h, _ => exact absurd rfl h
    | 15, _, hv => exact hv
    | n + 16, _, _ => exact trivial
  case todo =>
    refine ⟨?_, ?_, ?_, ?_, ?_, ?_, ?_, ?_, ?_, ?_, ?_, ?_, ?_, ?_, ?_, ?_, trivial⟩
    · intro _ ph h1 h2
      obtain rfl : ph = false := h2 (by kernel_rfl)
      intro ev X hT0 hb hk hf
      have hT := Stay.undrew hT0
      have e0 : ev (.tmp 0) = .pointer (some ⟨d, 0, Option.none⟩) := hk.1
      exact OpOk.move rfl e0 ⟨rfl, Stay.refl _⟩
    · intro _ ph h1 h2
      obtain rfl : ph = false := h2 (by kernel_rfl)
      intro ev X hT0 hb hk hf
      have hT := Stay.undrew hT0
      have e0 : ev (.tmp 9) = .pointer (some ⟨d, 0, Option.none⟩) := hf.1
      exact OpOk.run (v := .pointer (some ⟨d, 0, Option.none⟩)) (W' := X) (by simp [execOp, e0, hb.1, go_sem]) ⟨rfl, Stay.refl _⟩
    · intro _ ph h1 h2
      obtain rfl : ph = false := h2 (by kernel_rfl)
      intro ev X hT0 hb hk hf
      have hT := Stay.undrew hT0
      have e0 : ev (.tmp 10) = .pointer (some ⟨d, 0, Option.none⟩) := hf.1
      exact OpOk.run (v := .pointer (some ⟨d, 1, Option.none⟩)) (W' := X) (by simp [execOp, e0, hud, go_sem]) ⟨rfl, Stay.refl _⟩
    · intro _ ph h1 h2
      obtain rfl : ph = false := h2 (by kernel_rfl)
      intro ev X hT0 hb hk hf
      have hT := Stay.undrew hT0
      have e0 : ev (.tmp 11) = .pointer (some ⟨d, 1, Option.none⟩) := hf.1
      have cW : X.cell? ⟨d, 1, Option.none⟩ = some (fptr p) := by rw [cell_of_row _ _ 1 _ _ _ (on_blk_mul (H1.out.below hT))]; exact dvV_get1 _ _ _ _ _ _
      exact OpOk.run (v := fptr p) (W' := X) (by simp [execOp, e0, cW, go_sem]) ⟨rfl, Stay.refl _⟩
    · intro _ ph h1 h2
      obtain rfl : ph = false := h2 (by kernel_rfl)
      intro ev X hT0 hb hk hf
      have hT := Stay.undrew hT0
      have e0 : ev (.tmp 0) = .pointer (some ⟨d, 0, Option.none⟩) := hk.1
      exact OpOk.move rfl e0 ⟨rfl, Stay.refl _⟩
    · intro _ ph h1 h2
      obtain rfl : ph = false := h2 (by kernel_rfl)
      intro ev X hT0 hb hk hf
      have hT := Stay.undrew hT0
      have e0 : ev (.tmp 13) = .pointer (some ⟨d, 0, Option.none⟩) := hf.1
      exact OpOk.run (v := .pointer (some ⟨d, 0, Option.none⟩)) (W' := X) (by simp [execOp, e0, hb.1, go_sem]) ⟨rfl, Stay.refl _⟩
    · intro _ ph h1 h2
      obtain rfl : ph = false := h2 (by kernel_rfl)
      intro ev X hT0 hb hk hf
      have hT := Stay.undrew hT0
      have e0 : ev (.tmp 14) = .pointer (some ⟨d, 0, Option.none⟩) := hf.1
      exact OpOk.run (v := .pointer (some ⟨d, 2, Option.none⟩)) (W' := X) (by simp [execOp, e0, hud, go_sem]) ⟨rfl, Stay.refl _⟩
    · intro _ ph h1 h2
      obtain rfl : ph = false := h2 (by kernel_rfl)
      intro ev X hT0 hb hk hf
      have hT := Stay.undrew hT0
      have e0 : ev (.tmp 15) = .pointer (some ⟨d, 2, Option.none⟩) := hf.1
      exact OpOk.load_part _ _ rfl d 2 e0 (limC 0 0) _ (fun j v hj => by rw [cell_of_row _ _ _ _ _ _ (on_blk_mul (H1.out.below hT))]; exact dvV_lim _ _ _ _ _ _ j v hj) hul rfl (limC_info 0 0) ⟨rfl, Stay.refl _⟩
    · intro _ ph h1 h2
      obtain rfl : ph = false := h2 (by kernel_rfl)
      intro ev X hT0 hb hk hf
      have hT := Stay.undrew hT0
      have e0 : ev (.tmp 1) = .bool false := hk.1
      exact OpOk.move rfl e0 ⟨rfl, Stay.refl _⟩
    · intro _ ph h1 h2
      obtain rfl : ph = false := h2 (by kernel_rfl)
      intro ev X hT0 hb hk hf
      have hT := Stay.undrew hT0
      have e0 : ev (.tmp 12) = fptr p := hf.1
      have e1 : ev (.tmp 16) = .agg (limC 0 0) := hf.2.1
      have e2 : ev (.tmp 17) = .bool false := hf.2.2.1
      refine OpOk.enters (f := 55) (args := #[fptr p, .agg (limC 0 0), .bool false]) (W' := X) (by simp [execOp, resolve, invoke, e0, e1, e2, hb.1, hb.2.1, go_sem]) ((decide_run p s _ X (H1.out.below hT).right HC.out 0 0 img (fun G X hX => HV.out G X hX)).mono ?_)
      rintro e X2 ⟨x, rfl, h2, h3⟩
      exact ⟨_, rfl, ⟨x, rfl, on_all_to h2 ((on_all w1).below hT)⟩, all_below h2.right h3⟩
    · intro _ ph h1 h2
      obtain rfl : ph = false := h2 (by kernel_rfl)
      intro ev X hT0 hb hk hf
      have hT := Stay.undrew hT0
      have e0 := hf.1
      clear e0
      obtain ⟨x, e0, h9⟩ : ∃ x, ev (.tmp 18) = .tuple #[.agg (chC true x), .int .i64 0] ∧ (ownBy x img * all w1).on X := hf.1
      exact OpOk.move rfl e0 ⟨⟨x, rfl, h9⟩, Stay.refl _⟩
    · intro _ ph h1 h2
      obtain rfl : ph = false := h2 (by kernel_rfl)
      intro ev X hT0 hb hk hf
      have hT := Stay.undrew hT0
      have e0 := hf.1
      clear e0
      obtain ⟨x, e0, h9⟩ : ∃ x, ev (.tmp 8) = .tuple #[.agg (chC true x), .int .i64 0] ∧ (ownBy x img * all w1).on X := hf.1
      exact OpOk.run (v := .agg (chC true x)) (W' := X) (by simp [execOp, e0, hb.1, go_sem]) ⟨⟨x, rfl, h9⟩, Stay.refl _⟩
    · intro _ ph h1 h2
      cases ph
      all_goals
        intro ev X hT0 hb hk hf
        have hT := Stay.undrew hT0
        have e0 := hf.1
        clear e0
        obtain ⟨x, e0⟩ : ∃ x, ev (.tmp 8) = .tuple #[.agg (chC true x), .int .i64 0] := by first | exact hf.1 | (obtain ⟨x, h, _⟩ := hf.1; exact ⟨x, h⟩)
        exact OpOk.run (v := .int .i64 0) (W' := X) (by simp [execOp, e0, hb.1, go_sem]) ⟨rfl, Stay.refl _⟩
    · intro _ ph h1 h2
      obtain rfl : ph = false := h2 (by kernel_rfl)
      intro ev X hT0 hb hk hf
      have hT := Stay.undrew hT0
      exact OpOk.run (v := .pointer (some ⟨X.heap.size, 0, Option.none⟩)) (W' := X.alloc (.cells (chC false nilV) 105)) (by simp [execOp, hzc, go_sem]) ⟨⟨_, rfl, hT.size, (H1.out.below hT).alloc _⟩, (Below.refl _ _).alloc (Nat.le_refl _) _⟩
    · exact fun h => absurd rfl h
    · intro _ ph h1 h2
      obtain rfl : ph = true := h1 (by kernel_rfl)
      intro ev X hT0 hb hk hf
      have hT := Stay.undrew hT0
      have e0 : ev (.tmp 20) = .int .i64 0 := hf.1
      exact OpOk.assign rfl e0 ⟨rfl, Stay.refl _⟩
  case rest =>
    intro X hT
    rintro _ rfl _ rfl _ rfl _ rfl _ rfl _ rfl _ rfl _ rfl _ rfl _ ⟨x8, rfl⟩ _ ⟨x9, rfl⟩ _ - _ rfl v4 ⟨g, oa, oc, rfl, hg⟩ _ - _ rfl
    have c0 : X.cell? ⟨g, 0, Option.none⟩ = some (.bool true) := cell_of_row _ _ 0 _ _ _ (on_blk_mul hg)
    have c1 : X.cell? ⟨g, 1, Option.none⟩ = some (.slice oa img.length oc) := cell_of_row _ _ 1 _ _ _ (on_blk_mul hg)
    have hW := hide (run_any d p pnil nilV pnil 0 0 oa img.length oc (ownBy (.slice oa img.length oc) img * (Flash p s * F)) X (by
      have h9 := hg.right
      rw [SP.mul_left_comm] at h9
      exact h9))
    have S2 := hide (S1.out.trans (Str.below hT))
    clear hT hg H1 S1
    go_wp2
    refine Rest.done ?_
    go_wp2_with fail
    refine hW.out.mono ?_
    clear hW c0 c1
    rintro e w3 ⟨⟨_, rfl⟩, h3, hs3⟩
    have H3 := hide h3
    have S3 := hide (S2.out.trans hs3)
    clear h3 hs3
    go_wp2_with fail
    go_end0
    exact ⟨⟨_, rfl⟩, _, H3.out, S3.out⟩

set_option maxRecDepth 100000 in
set_option maxHeartbeats 16000000 in
theorem reset_run (d p : Nat) (dec0 img0 mach0 : Value) (st0 t0 : Nat) (s : FlS) (F : SP) (w : World) (h : (blk d (.cells (dvV dec0 (fptr p) st0 img0 mach0 t0) 67 (0, 0)) * (Flash p s * F)).on w) (c : s.Calm) (hpw : ({ s with off := false, armed := false } : FlS) = s) (img : List UInt8) (hV : ∀ (G : SP) X, (Flash p s * G).on X → Calls Tryz.prog 25 #[fptr p] X fun e w' => ∃ x, e = .returned (.tuple #[x, .bool true]) ∧ (ownBy x img * all X).on w' ∧ Str X w') :
    Calls Tryz.prog 15 #[.pointer (some ⟨d, 0, Option.none⟩), .bool false] w fun e w' => (∃ v, e = .returned v) ∧ ∃ x, (blk d (.cells (dvV pnil (fptr p) 2 x pnil 0) 67 (0, 0)) * (ownBy x img * (Flash p s * F))).on w' ∧ Str w w' := by
  have hud := Tryz.underlying67
  have c1 : w.cell? ⟨d, 1, Option.none⟩ = some (fptr p) := by rw [cell_of_row _ _ 1 _ _ _ (on_blk_mul h)]; exact dvV_get1 _ _ _ _ _ _
  have hP := power_any p s (blk d (.cells (dvV dec0 (fptr p) st0 img0 mach0 t0) 67 (0, 0)) * F) w (by rw [SP.mul_left_comm]; exact h)
  rw [hpw] at hP
  have HP := hide hP
  have HSt := hide (fun X hX => start_run d p dec0 img0 mach0 st0 t0 s F X hX c img hV)
  clear h hP hpw c hV
  go_enter Tryz.func15, Tryz.ntmps15
  go_wp2_with fail
  refine HP.out.mono ?_
  clear HP
  rintro e w1 ⟨⟨_, rfl⟩, h1, hs1⟩
  rw [SP.mul_left_comm] at h1
  have hS := hide (HSt.out w1 h1)
  have S1 := hide hs1
  clear h1 hs1 HSt c1
  go_wp2_with fail
  refine hS.out.mono ?_
  clear hS
  rintro e w3 ⟨⟨_, rfl⟩, x, h3, hs3⟩
  have H3 := hide h3
  have S3 := hide (S1.out.trans hs3)
  clear h3 hs3
  go_wp2_with fail
  go_end0
  exact ⟨⟨_, rfl⟩, x, H3.out, S3.out⟩
end Go.Proofs.YtgmpmlneoiagdaaGreatDoor
