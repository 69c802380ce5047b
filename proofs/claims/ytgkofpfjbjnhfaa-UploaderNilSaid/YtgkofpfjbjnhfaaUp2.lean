/- uploader: a new one, and what it sends first. -/
import Derived.Test.YtgkofpfjbjnhfaaUp1
import Derived.Test.YtgkofpfjbjnhfaaDeslip
namespace Go.Proofs.Ytgkofpfjbjnhfaa
open Go.ChangeShapes Go.WideShapes Go.ChangeAt Go.RowKit
set_option linter.unusedVariables false
set_option linter.unusedSimpArgs false

/-- an uploader's cells -/
abbrev upC (iv mv dv : Value) (phase : Nat) (sent : Bool) (waited sends from' : Nat) (sum : Nat) : Array Value := #[iv, mv, dv, .int .i64 (phase : Int), .bool sent, .int .i64 (waited : Int), .int .i64 (sends : Int), .int .i64 (from' : Int), .int .u32 (sum : Int)]
def UpNew (w : World) (e : Ending) (w' : World) : Prop := ∃ p iv mv dp, e = .returned (.tuple #[.pointer (some ⟨p, 0, Option.none⟩), .int .i64 0]) ∧ (blk p (.cells (upC iv mv (dptr dp) 0 false 0 0 0 0) 65 (0, 0)) * all w).on w' ∧ Str w w'

set_option maxRecDepth 100000 in
set_option maxHeartbeats 8000000 in
theorem upnew_any (v1 v2 : Value) (l1 l2 : List UInt8) (w : World) (h1 : IsBytes w v1 l1) (h2 : IsBytes w v2 l2) (a1 : 1 ≤ l1.length) (b1 : l1.length ≤ 128) (a2 : 1 ≤ l2.length) (b2 : l2.length ≤ 4096) :
    Calls Try.prog 28 #[v1, v2] w (UpNew w) := by
  have hu := Try.underlying28
  have hE := dnew_any 70 (by decide) (by decide) w
  have H1 := hide h1
  have H2 := hide h2
  obtain ⟨x1, c1, rfl, hc1, hm1, _, _⟩ := h1
  obtain ⟨x2, c2, rfl, hc2, hm2, _, _⟩ := h2
  unfold maxLen at hm1 hm2
  go_enter Try.func28, Try.ntmps28
  go_wp2_with fail
  refine hE.mono ?_
  clear hE
  rintro e w2 ⟨v, rfl, ho, hs⟩
  obtain ⟨dp, rfl, hd⟩ := dnewQ.out ho
  have HD := hide hd
  have HS := hide hs
  clear ho hd hs
  have H0 := hide (own_nil 5 1 HD.out)
  go_wp2_with (first
    | (at_builtin; refine wpList_append_bytes (F := own 5 1 (.slice oa3 l1.length oc3) l1.length (vbs l1) * (Dec dp ⟨[], 70, false, false⟩ * all w)) rfl _ _ 28 rfl 5 hu infoR _ [] l2 rfl H4.out _ rfl (H2.out.below (all_below Ho3.out.right.right Hs3.out)) (by simp; omega) ?_; intro v4 w4 ho4 hs4; rw [List.nil_append] at ho4; obtain ⟨oa4, oc4, rfl, _, _, _, _⟩ := own_value ho4; have Ho4 := hide ho4; have Hs4 := hide (Hs3.out.trans hs4); clear ho4 hs4)
    | (at_builtin; refine wpList_append_bytes (F := Dec dp ⟨[], 70, false, false⟩ * all w) rfl _ _ 28 rfl 5 hu infoR _ [] l1 rfl H0.out _ rfl (H1.out.below (all_below HD.out.right HS.out)) (by simp; omega) ?_; intro v3 w3 ho3 hs3; rw [List.nil_append] at ho3; obtain ⟨oa3, oc3, rfl, _, _, _, _⟩ := own_value ho3; have Ho3 := hide ho3; have Hs3 := hide (HS.out.trans hs3); have H4 := hide (own_nil 5 1 ho3); clear ho3 hs3))
  go_ret2
  exact ⟨w4.heap.size, _, _, dp, rfl, SP.on.alloc (Ho4.out.right.right.right) _, Hs4.out.alloc _⟩

abbrev greetQ : List (Value × ReqS) := [(nilV, ⟨2, 0, 0, []⟩), (nilV, ⟨6, 1, 0, []⟩)]
theorem greet_cells : rqCells greetQ = [.int .u8 2, .int .u8 0, .int .u32 0, .slice Option.none 0 0, .int .u8 6, .int .u8 1, .int .u32 0, .slice Option.none 0 0] := rfl
theorem greet_bytes : frames (greetQ.map fun y => encT y.2) = [2, 0, 0, 192, 6, 1, 192] := by decide +kernel

set_option maxRecDepth 100000 in
set_option maxHeartbeats 8000000 in
theorem upgreet_any (p : Nat) (w : World) (hc : w.cell? ⟨p, 3, Option.none⟩ = some (.int .i64 0)) :
    Calls Try.prog 34 #[.pointer (some ⟨p, 0, Option.none⟩)] w fun e w' => ∃ v, e = .returned v ∧ IsReqs w' v greetQ ∧ Below w.heap.size w w' := by
  have huq := Try.underlying92
  have hsq : (Try.prog.info? 92).map (·.size) = some 4 := by kernel_rfl
  have hzq : ∀ w, (zeroValue 92).run Try.prog w = .ok (.agg zq) w := fun w => by kernel_rfl
  have hr := heap_alloc_new w (.cells zq 92)
  have hone : (#[vb 4, vb 0, u32v 0, nilV] : Array Value).all (·.oneCell') = true := by simp [Value.oneCell', vb]
  have hcp := World.block_lt_of_cell? _ _ hc
  have hc2 : ((w.alloc (.cells zq 92)).setRow w.heap.size #[vb 4, vb 0, u32v 0, nilV]).cell? ⟨p, 3, Option.none⟩ = some (.int .i64 0) := ((below_setRow ((Below.refl w.heap.size w).alloc (Nat.le_refl _) _) (Nat.le_refl _) _).cell (p := ⟨p, 3, Option.none⟩) hcp).trans hc
  have HB := hide (below_setRow ((Below.refl w.heap.size w).alloc (Nat.le_refl _) (.cells zq 92)) (Nat.le_refl _) #[vb 4, vb 0, u32v 0, nilV])
  clear hc hcp
  go_enter Try.func34, Try.ntmps34
  go_wp2_with (refine wpList_store_row rfl _ _ _ rfl w.heap.size #[vb 4, vb 0, u32v 0, nilV] rfl rfl _ _ hr hsq rfl hone ?_)
  go_ret
  refine ⟨_, rfl, ⟨_, _, rfl, by decide, by decide, by rw [greet_cells, show w.heap.size + 1 = ((w.alloc (.cells zq 92)).setRow w.heap.size #[vb 4, vb 0, u32v 0, nilV]).heap.size by simp]; exact Lay.new _ [.int .u8 2, .int .u8 0, .int .u32 0, nilV, .int .u8 6, .int .u8 1, .int .u32 0, nilV] _, ?_⟩, HB.out.alloc HB.out.size _⟩
  intro i u q hi
  match i, hi with
  | 0, hi => simp at hi; obtain ⟨rfl, rfl⟩ := hi; exact ⟨IsBytes.nil _, by decide, by decide⟩
  | 1, hi => simp at hi; obtain ⟨rfl, rfl⟩ := hi; exact ⟨IsBytes.nil _, by decide, by decide⟩
  | i + 2, hi => simp at hi

set_option maxRecDepth 100000 in
set_option maxHeartbeats 8000000 in
theorem upsend_greet (p : Nat) (iv mv dv : Value) (hd : ∃ d, dv = dptr d) (F : SP) (w : World) (h : (blk p (.cells (upC iv mv dv 0 false 0 0 0 0) 65 (0, 0)) * F).on w) :
    Calls Try.prog 17 #[.pointer (some ⟨p, 0, Option.none⟩)] w (Ends w (blk p (.cells (upC iv mv dv 0 true 0 1 0 0) 65 (0, 0)) * F) fun v => ownB v [2, 0, 0, 192, 6, 1, 192]) := by
  have hg := on_blk_mul h
  have f4 := frozen_of_row w p 4 _ _ hg
  have f6 := frozen_of_row w p 6 _ _ hg
  have c4 : w.cell? ⟨p, 4, Option.none⟩ = some (.bool false) := cell_of_row _ _ 4 _ _ _ hg
  have h1 := SP.on.setCell (i := 4) h (.bool true)
  have hg1 := on_blk_mul h1
  have c6 : (w.setCell ⟨p, 4, Option.none⟩ (.bool true)).cell? ⟨p, 6, Option.none⟩ = some (.int .i64 0) := cell_of_row _ _ 6 _ _ _ hg1
  have f61 := frozen_of_row (w.setCell ⟨p, 4, Option.none⟩ (.bool true)) p 6 _ _ hg1
  have h2 := SP.on.setCell (i := 6) h1 (.int .i64 1)
  have H2 : Hid ((blk p (.cells (upC iv mv dv 0 true 0 1 0 0) 65 (0, 0)) * F).on ((w.setCell ⟨p, 4, Option.none⟩ (.bool true)).setCell ⟨p, 6, Option.none⟩ (.int .i64 1))) := hide h2
  have HS2 := hide (((Str.refl w).setCell ⟨p, 4, Option.none⟩ (.bool true)).setCell ⟨p, 6, Option.none⟩ (.int .i64 1))
  have hE := upgreet_any p ((w.setCell ⟨p, 4, Option.none⟩ (.bool true)).setCell ⟨p, 6, Option.none⟩ (.int .i64 1)) (cell_of_row _ _ 3 _ _ _ (on_blk_mul H2.out))
  clear h h1 h2 hg hg1
  go_enter Try.func17, Try.ntmps17
  go_wp2_with fail
  generalize (w.setCell ⟨p, 4, Option.none⟩ (.bool true)).setCell ⟨p, 6, Option.none⟩ (.int .i64 1) = w1 at *
  refine hE.mono ?_
  clear hE
  rintro e w2 ⟨v, rfl, hq, hb⟩
  have hE := upframes_any v greetQ w2 hq (by decide)
  rw [greet_bytes] at hE
  have H3 := hide (H2.out.below hb)
  have HS3 := hide (HS2.out.trans (Str.below hb))
  obtain ⟨va, vc, rfl, _, _, _, _⟩ := hq
  clear hb
  go_wp2_with fail
  refine hE.mono ?_
  clear hE
  rintro e w3 ⟨u, rfl, ho, hs⟩
  have H4 := hide (on_all_to ho H3.out)
  have HS4 := hide (HS3.out.trans hs)
  obtain ⟨ua, uc, rfl, _, _, _, _⟩ := own_value ho
  clear ho hs
  go_wp2_with fail
  go_ret
  exact ⟨_, rfl, H4.out, HS4.out⟩

set_option maxRecDepth 100000 in
set_option maxHeartbeats 8000000 in
theorem upsend_sent (p : Nat) (w : World) (c4 : w.cell? ⟨p, 4, Option.none⟩ = some (.bool true)) :
    Calls Try.prog 17 #[.pointer (some ⟨p, 0, Option.none⟩)] w fun e w' => e = .returned (.slice Option.none 0 0) ∧ w = w' := by
  go_enter Try.func17, Try.ntmps17
  go_wp2_with fail
  go_ret
  exact ⟨rfl, rfl⟩

set_option maxRecDepth 100000 in
set_option maxHeartbeats 8000000 in
theorem upsend_nil (w : World) :
    Calls Try.prog 17 #[.pointer Option.none] w fun e w' => e = .returned (.slice Option.none 0 0) ∧ w = w' := by
  go_enter Try.func17, Try.ntmps17
  go_wp2_with fail
  go_ret
  exact ⟨rfl, rfl⟩
theorem updone_nil (w : World) :
    Calls Try.prog 16 #[.pointer Option.none] w fun e w' => e = .returned (.tuple #[.bool false, .int .i64 0]) ∧ w = w' := by
  go_enter Try.func16, Try.ntmps16
  go_wp2_with fail
  go_ret2
  exact ⟨rfl, rfl⟩
theorem uptick_nil (w : World) :
    Calls Try.prog 15 #[.pointer Option.none] w fun e w' => (∃ v, e = .returned v) ∧ w = w' := by
  go_enter Try.func15, Try.ntmps15
  go_wp2_with fail
  exact bodyPost_ret (v := .tuple #[]) (by simp [results, Try.results15, go_sem]) rfl ⟨⟨_, rfl⟩, rfl⟩
theorem uphear_nil (a : Option Addr) (n c : Nat) (w : World) :
    Calls Try.prog 14 #[.pointer Option.none, .slice a n c] w fun e w' => (∃ v, e = .returned v) ∧ w = w' := by
  go_enter Try.func14, Try.ntmps14
  go_wp2_with fail
  exact bodyPost_ret (v := .tuple #[]) (by simp [results, Try.results14, go_sem]) rfl ⟨⟨_, rfl⟩, rfl⟩
end Go.Proofs.Ytgkofpfjbjnhfaa
