/- settings: a page is written, in three steps; the newest record and its page. -/
import Derived.Test.YtgmpmlneoiagdaaGreatDoorSet1
namespace Go.Proofs.YtgmpmlneoiagdaaGreatDoor
open Go.ChangeShapes Go.WideShapes Go.ChangeAt Go.RowKit
set_option linter.unusedVariables false
set_option linter.unusedSimpArgs false

/-- how Load ends -/
def LoadEnd (R : RecS × Nat × Nat) (w : World) (e : Ending) (w' : World) : Prop := ∃ iv, e = .returned (.tuple #[.agg (recCells R.1 iv), .int .i64 (R.2.1 : Nat), .int .i64 (R.2.2 : Nat)]) ∧ (ownR iv R.1.init * all w).on w' ∧ Str w w'
theorem cell_stay {w X : World} {p : Addr} {v : Value} (h : w.cell? p = some v) (hT : Stay w X) : X.cell? p = some v := (Below.cell hT (World.block_lt_of_cell? w _ h)).trans h
theorem rc_hz (X : World) : (zeroValue 31).run Tryz.prog X = .ok (.agg (recCells zeroS nilV)) X := by kernel_rfl

set_option maxRecDepth 100000 in
set_option maxHeartbeats 4000000 in
theorem write1_any (p : Nat) (s : FlS) (F : SP) (n : Nat) (fit : s.Fit n) (hn : n ≤ 1099510000000) (to gp ga : Nat) (hto : to ≤ 1) (w : World)
    (hg1 : w.cell? ⟨gp, 0, Option.none⟩ = some (fptr p)) (hg2 : w.cell? ⟨ga, 0, Option.none⟩ = some (.int .i64 ((to * 256 : Nat) : Int))) (h : (Flash p s * F).on w) :
    Calls Tryz.prog 38 #[.pointer (some ⟨gp, 0, Option.none⟩), .pointer (some ⟨ga, 0, Option.none⟩)] w fun e w' => e = .returned (.int .i64 ((s.prog (to * 256) [0, 0, 0, 0]).2 : Int)) ∧ (Flash p (s.prog (to * 256) [0, 0, 0, 0]).1 * F).on w' ∧ Str w w' := by
  have H := hide h
  have hmk1 : ∀ X, (Instr.makeSlice 22 (.int .i64 4) (.int .i64 4)).run Tryz.prog X = .ok (.slice (some ⟨X.heap.size, 0, Option.none⟩) 4 4) (X.alloc (.cells (Array.replicate 4 (Value.int .u8 0)) 5)) := fun X => by
    have h9 := run_make_row' (P := Tryz.prog) 22 5 (.int .u8 0) 1 Tryz.underlying22 infoByte rfl .i64 .i64 4 (by omega) (by omega) X
    simp only [madeCells_one] at h9
    exact h9
  have Hc1 := hide (fun X (hT : Stay w X) => cell_stay hg1 hT)
  have Hc2 := hide (fun X (hT : Stay w X) => cell_stay hg2 hT)
  clear h hg1 hg2
  go_enter Tryz.func38, Tryz.ntmps38
  go_wp2_with fail
  refine wp_region_tail 3 [isV (fptr p), isV (.int .i64 ((to * 256 : Nat) : Int)), fun v X => ∃ g, v = .slice (some ⟨g, 0, Option.none⟩) 4 4 ∧ (blk g (.cells (Array.replicate 4 (Value.int .u8 0)) 5 (0, 0)) * (Flash p s * F)).on X]
    (by simp only [List.take_succ_cons, List.take_zero]; rfl) (by simp only [List.drop_succ_cons, List.drop_zero]; rfl) (by kernel_rfl) (by kernel_rfl) (by kernel_rfl) (by decide) rfl ?keep ?todo ?rest
  case keep => exact ⟨Keep.isV _, Keep.isV _, fun _ _ _ h k => by obtain ⟨g, e, h⟩ := h; exact ⟨g, e, h.below k⟩, trivial⟩
  case todo =>
    refine ⟨?_, ?_, ?_, trivial⟩
    · intro ev X hT hb hk hf
      have e0 : ev (.tmp 0) = .pointer (some ⟨gp, 0, Option.none⟩) := hk.1
      have cW := Hc1.out X hT
      exact OpOk.run (v := fptr p) (W' := X) (by simp [execOp, e0, cW, go_sem]) ⟨rfl, Stay.refl _⟩
    · intro ev X hT hb hk hf
      have e0 : ev (.tmp 1) = .pointer (some ⟨ga, 0, Option.none⟩) := hk.1
      have cW := Hc2.out X hT
      exact OpOk.run (v := .int .i64 ((to * 256 : Nat) : Int)) (W' := X) (by simp [execOp, e0, cW, go_sem]) ⟨rfl, Stay.refl _⟩
    · intro ev X hT hb hk hf
      exact OpOk.run (v := .slice (some ⟨X.heap.size, 0, Option.none⟩) 4 4) (W' := X.alloc (.cells (Array.replicate 4 (Value.int .u8 0)) 5)) (by have h9 := hmk1 X; simp [execOp, hb.1, h9, go_sem]) ⟨⟨_, rfl, (H.out.below hT).alloc _⟩, (Below.refl X.heap.size X).alloc (Nat.le_refl _) _⟩
  case rest =>
    intro X hX
    rintro _ rfl _ rfl _ ⟨g, rfl, hg⟩
    have hrd : ∀ Y, (blk g (.cells (vbs [0, 0, 0, 0]).toArray 5 (0, 0)) * F).on Y → IsBytes Y (.slice (some ⟨g, 0, Option.none⟩) 4 4) [0, 0, 0, 0] := fun Y hY => IsBytes.blk (l := [0, 0, 0, 0]) hY (by decide)
    have h9 : (Flash p s * (blk g (.cells (vbs [0, 0, 0, 0]).toArray 5 (0, 0)) * F)).on X := by rw [SP.mul_left_comm]; exact hg
    have HE := hide (prog_any p s _ X h9 n fit (by omega) (to * 256) _ [0, 0, 0, 0] (by omega) rfl (by omega) (by decide) hrd)
    have HS := hide (Str.below hX)
    have hcc : ((to * 256 : Nat) : Int) = (to : Int) * 256 := by omega
    rw [hcc] at HE
    clear hg hrd h9 hX hcc H fit Hc1 Hc2 hmk1
    go_wp2
    refine Rest.done ?_
    go_wp2_with fail
    refine HE.out.mono ?_
    rintro e w1 ⟨rfl, h1, h2⟩
    have H1 := hide (show (Flash p (s.prog (to * 256) [0, 0, 0, 0]).1 * F).on w1 by rw [SP.mul_left_comm] at h1; exact h1.right)
    have H2 := hide (HS.out.trans h2)
    clear h1 h2 HE HS
    go_wp2_with fail
    go_ret
    exact ⟨rfl, H1.out, H2.out⟩
set_option maxRecDepth 100000 in
set_option maxHeartbeats 4000000 in
theorem write2_any (p : Nat) (s : FlS) (F : SP) (n : Nat) (fit : s.Fit n) (hn : n ≤ 1099510000000) (to gp ga : Nat) (hto : to ≤ 1) (w : World)
    (hg1 : w.cell? ⟨gp, 0, Option.none⟩ = some (fptr p)) (hg2 : w.cell? ⟨ga, 0, Option.none⟩ = some (.int .i64 (to : Int))) (h : (Flash p s * F).on w) :
    Calls Tryz.prog 39 #[.pointer (some ⟨gp, 0, Option.none⟩), .pointer (some ⟨ga, 0, Option.none⟩)] w fun e w' => e = .returned (.int .i64 ((s.era to).2 : Int)) ∧ (Flash p (s.era to).1 * F).on w' ∧ Str w w' := by
  have HE := hide (era_any p s F w h n fit (by omega) to (by omega))
  clear h fit
  go_enter Tryz.func39, Tryz.ntmps39
  go_wp2_with fail
  refine HE.out.mono ?_
  rintro e w1 ⟨rfl, h1, h2⟩
  have H1 := hide h1
  have H2 := hide h2
  clear h1 h2
  go_wp2_with fail
  go_ret
  exact ⟨rfl, H1.out, H2.out⟩
set_option maxRecDepth 100000 in
set_option maxHeartbeats 4000000 in
theorem write3_any (p : Nat) (s : FlS) (F : SP) (n : Nat) (fit : s.Fit n) (hn : n ≤ 1099510000000) (to gp ga gb : Nat) (hto : to ≤ 1) (w : World) (v : Value) (b : List UInt8) (hb4 : b.length % 4 = 0) (hbl : b.length ≤ 1000000) (hrd : ∀ w, F.on w → IsBytes w v b)
    (hg1 : w.cell? ⟨gp, 0, Option.none⟩ = some (fptr p)) (hg2 : w.cell? ⟨ga, 0, Option.none⟩ = some (.int .i64 ((to * 256 : Nat) : Int))) (hg3 : w.cell? ⟨gb, 0, Option.none⟩ = some v) (h : (Flash p s * F).on w) :
    Calls Tryz.prog 41 #[.pointer (some ⟨gp, 0, Option.none⟩), .pointer (some ⟨ga, 0, Option.none⟩), .pointer (some ⟨gb, 0, Option.none⟩)] w fun e w' => e = .returned (.int .i64 ((s.prog (to * 256) b).2 : Int)) ∧ (Flash p (s.prog (to * 256) b).1 * F).on w' ∧ Str w w' := by
  have HE := hide (prog_any p s F w h n fit (by omega) (to * 256) v b (by omega) hb4 (by omega) hbl hrd)
  obtain ⟨av, cv, rfl, _, _, _, _⟩ := hrd w h.right
  have hcc : ((to * 256 : Nat) : Int) = (to : Int) * 256 := by omega
  rw [hcc] at hg2 HE
  clear h fit hrd hcc
  go_enter Tryz.func41, Tryz.ntmps41
  go_wp2_with fail
  refine HE.out.mono ?_
  rintro e w1 ⟨rfl, h1, h2⟩
  have H1 := hide h1
  have H2 := hide h2
  clear h1 h2
  go_wp2_with fail
  go_ret
  exact ⟨rfl, H1.out, H2.out⟩
end Go.Proofs.YtgmpmlneoiagdaaGreatDoor
