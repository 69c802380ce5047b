/- LAID TOGETHER: RSet1, RSet2, SAct1. -/
import Derived.Test.YtjmgnfpcieofkaaGRfl
import Derived.Test.YtjmgnfpcieofkaaSetMath
import Derived.Test.YtjmgnfpcieofkaaRecLives
import Derived.Test.YtjmgnfpcieofkaaGTorn
import Derived.Test.YtjmgnfpcieofkaaAllOn
import Derived.Test.YtjmgnfpcieofkaaSet5
import Derived.Test.YtjmgnfpcieofkaaRowsOpen
/- The document's settings: Same, Load. -/
namespace Go.Proofs.Ytjmgnfpcieofkaa
open Go.ChangeShapes Go.WideShapes Go.ChangeAt Go.RowKit
set_option linter.unusedVariables false
set_option linter.unusedSimpArgs false

set_option maxRecDepth 100000 in
set_option maxHeartbeats 4000000 in
theorem rsame_any (s : RecS) (v1 v2 : Value) (w : World) (h1 : IsBytes w v1 s.init) (h2 : IsBytes w v2 s.init) :
    Calls Try.prog 31 #[.agg (refCells s v1), .agg (refCells s v2)] w fun e w' => e = .returned (.bool true) ∧ Below w.heap.size w w' := by
  have hb2 : Below w.heap.size w ((w.alloc (.cells (refCells s v1) 60)).alloc (.cells (refCells s v2) 60)) := alloc1.alloc (by simp) _
  have g1 := h1.below hb2
  have g2 := h2.below hb2
  obtain ⟨a1, c1, rfl, _, _, hl1, _⟩ := g1
  obtain ⟨a2, c2, rfl, _, _, hl2, _⟩ := g2
  have hsu := Try.underlying33
  have hsb := Try.underlying5
  have hst := Try.underlying9
  have k1 := run_string_of (P := Try.prog) (c := c1) hsu hsb hl1 _ hst
  have k2 := run_string_of (P := Try.prog) (c := c2) hsu hsb hl2 _ hst
  have Hb2 := hide hb2
  clear hb2 h1 h2 hl1 hl2
  generalize strOf s.init = sx at *
  generalize s.init.length = n1 at *
  obtain ⟨seq, floor, bytes, sum, phase, done, init⟩ := s
  generalize phase.toNat = ph at *
  go_enter Try.func31, Try.ntmps31
  go_wp2_with fail
  go_ret
  exact ⟨rfl, Hb2.out⟩
abbrev rrC (y : RecS) (iv : Value) : Array Value := refCells y iv
theorem rr_info (s : RecS) (iv : Value) : (Try.prog.info? 60).map (·.size) = some (refCells s iv).size := by rw [show (refCells s iv).size = 7 from rfl]; kernel_rfl
theorem rr_one {s : RecS} {iv : Value} (h : ∃ a n c, iv = .slice a n c) : (refCells s iv).all (·.oneCell') = true := by
  obtain ⟨x, n, c, rfl⟩ := h
  simp [refCells, Value.oneCell']
theorem rr_hz : ∀ X, (zeroValue 60).run Try.prog X = .ok (.agg (refCells zeroS nilV)) X := fun X => by kernel_rfl
theorem rr_build0 (w : World) : (Instr.build 60 #[]).run Try.prog w = .ok (.agg (refCells zeroS nilV)) w := by kernel_rfl
theorem wpList_build_rr0 {ops : Array Oper} {rest : List Oper} {o : Oper} {a : Act} {w : World} {Q : Exit → Act → World → Prop} (hgd : o.guard = Option.none) (ho : o.op = .build 60 #[])
    (hk : wpList Try.prog ops Q rest (a.put o.dst (.agg (refCells zeroS nilV))) w) : wpList Try.prog ops Q (o :: rest) a w := by
  have hr : (execOp a.eval o).run Try.prog w = .ok (.value (.agg (refCells zeroS nilV))) w := by
    unfold execOp
    rw [ho]
    simp only [List.map_toArray, List.map_nil]
    rw [Sem.run_bind, rr_build0]
    rfl
  exact wpList_plain hgd fun _ hK => by
    unfold Oper.wp
    simp only [hr]
    exact hK _ _ hk
theorem rload_pure (s : FlS) (hpg : s.B.length = 256 * s.worn.length) : s.load = if s.worn.length < 2 then (zeroS, 0, 1) else if s.off = true then (zeroS, 0, 5) else if recErr (s.pg 0) ≠ 0 ∧ recErr (s.pg 1) ≠ 0 then (zeroS, 0, 15)
    else if recErr (s.pg 0) ≠ 0 ∨ recErr (s.pg 1) = 0 ∧ (recGot (s.pg 0)).seq < (recGot (s.pg 1)).seq then (recGot (s.pg 1), 1, 0) else (recGot (s.pg 0), 0, 0) := by
  unfold FlS.load
  by_cases c1 : s.worn.length < 2
  · rw [if_pos c1, if_pos (by omega)]
  · rw [if_neg c1, if_neg (by omega)]
    by_cases c2 : s.off = true
    · rw [if_pos c2, if_pos c2]
    · rw [if_neg c2, if_neg c2, best_two]
      unfold recGot
      by_cases e0 : recErr (s.pg 0) = 0
      · by_cases e1 : recErr (s.pg 1) = 0
        · simp [e0, e1]
        · simp [e0, e1]
      · by_cases e1 : recErr (s.pg 1) = 0
        · simp [e0, e1]
        · simp [e0, e1]
theorem sp_r0 (A B C D E F : SP) : A * (B * (C * (D * (E * F)))) = E * (B * (D * (F * (A * C)))) := by ac_rfl
theorem sp_rb (B D F G : SP) : B * (D * (F * G)) = (B * F) * (D * G) := by ac_rfl
theorem pg_len' {s : FlS} (k : Nat) (h : 256 * k + 160 ≤ s.B.length) : (s.pg k).length = 160 := by
  unfold FlS.pg
  rw [List.length_take, List.length_drop]
  omega
def RLoadEnd (X : RecS × Nat × Nat) (w : World) (e : Ending) (w' : World) : Prop := ∃ iv, e = .returned (.tuple #[.agg (refCells X.1 iv), .int .i64 (X.2.1 : Nat), .int .i64 (X.2.2 : Nat)]) ∧ (ownR iv X.1.init * all w).on w' ∧ Str w w'

set_option maxRecDepth 100000 in
set_option maxHeartbeats 16000000 in
theorem rload_any (p : Nat) (s : FlS) (F : SP) (w : World) (h : (RFlash p s * F).on w) (ok : s.Ok) :
    Calls Try.prog 29 #[fptr p] w (RLoadEnd s.load w) := by
  have hur := Try.underlying60
  have hz := rr_hz
  have hpg := ok.pages
  have hmo := ok.most
  have hLd := hide (rload_pure s hpg)
  obtain ⟨g, cap, vw, hc1, hc2, h2⟩ := RFlash.parts h ok
  obtain ⟨aw, cw, rfl, hcw, hcw2, _, _⟩ := own_value h2.right.right
  have hS0 := hide ((Str.refl w).alloc (.cells (refCells zeroS nilV) 60))
  have hA0 := ((on_all w).alloc (.cells (refCells zeroS nilV) 60))
  have gA := hide (on_blk_mul hA0)
  have h3 := h2.alloc' (.cells (refCells zeroS nilV) 60)
  have c0 := cell_of_row _ p 0 _ _ _ (on_blk_mul h3)
  have c6 := cell_of_row _ p 6 _ _ _ (on_blk_mul h3)
  have c7 := cell_of_row _ p 7 _ _ _ (on_blk_mul h3)
  simp only [rfCells] at c0 c6 c7
  have hb := own_bytes h3.right
  have Hb := hide hb
  have Hbw := hide (own_bytes h2.right)
  have C0w := hide (show w.cell? ⟨p, 0, Option.none⟩ = some (.slice (some ⟨g, 0, Option.none⟩) s.B.length cap) from cell_of_row w p 0 _ _ _ (on_blk_mul h2))
  have HsZ := hide (rr_info zeroS nilV)
  have HoZ := hide (rr_one (s := zeroS) (iv := nilV) ⟨_, _, _, rfl⟩)
  have HA0 := hide hA0
  unfold maxLen at hc2 hcw2
  clear h h2 h3 hb hA0
  by_cases w2 : s.worn.length < 2
  · have HL := hide (show s.load = (zeroS, 0, 1) by rw [hLd.out, if_pos w2])
    clear hLd
    go_enter Try.func29, Try.ntmps29
    go_wp2_with (first | (refine wpList_build_rr0 rfl rfl ?_) | (refine wpList_store_row rfl _ _ _ rfl w.heap.size (refCells zeroS nilV) rfl rfl _ _ gA.out HsZ.out rfl HoZ.out ?_))
    rw [HL.out]
    refine bodyPost_ret (v := .tuple #[.agg (refCells zeroS nilV), .int .i64 0, .int .i64 1]) (results_cell_row_two Try.results29 _ _ w.heap.size _ (refCells zeroS nilV) (0, 0) _ rfl (setRow_heap_same _ _ _ _ _ _ gA.out) hur rfl HsZ.out (.int .i64 0) (.int .i64 1) rfl rfl) rfl ?_
    exact ⟨nilV, rfl, own_nil _ _ (HA0.out.setRow _).right, hS0.out.setRow _ _⟩
  cases ho : s.off with
  | true =>
    rw [ho] at c6
    have HL := hide (show s.load = (zeroS, 0, 5) by rw [hLd.out, if_neg w2, if_pos ho])
    clear hLd ho
    go_enter Try.func29, Try.ntmps29
    go_wp2_with (first | (refine wpList_build_rr0 rfl rfl ?_) | (refine wpList_store_row rfl _ _ _ rfl w.heap.size (refCells zeroS nilV) rfl rfl _ _ gA.out HsZ.out rfl HoZ.out ?_))
    rw [HL.out]
    refine bodyPost_ret (v := .tuple #[.agg (refCells zeroS nilV), .int .i64 0, .int .i64 5]) (results_cell_row_two Try.results29 _ _ w.heap.size _ (refCells zeroS nilV) (0, 0) _ rfl (setRow_heap_same _ _ _ _ _ _ gA.out) hur rfl HsZ.out (.int .i64 0) (.int .i64 5) rfl rfl) rfl ?_
    exact ⟨nilV, rfl, own_nil _ _ (HA0.out.setRow _).right, hS0.out.setRow _ _⟩
  | false =>
    rw [ho] at c6
    have hLd2 := hLd.out
    rw [if_neg w2, if_neg (by simp [ho])] at hLd2
    have HLd := hide hLd2
    have hBl : 512 ≤ s.B.length := by omega
    clear hLd ho hLd2
    have hl0 : (s.pg 0).length = 160 := pg_len' 0 (by omega)
    have hl1 : (s.pg 1).length = 160 := pg_len' 1 (by omega)
    have p0 : IsBytes w (.slice (some ⟨g, 0, Option.none⟩) 160 cap) (s.pg 0) := by
      have := Hbw.out.part' 0 160 (by omega)
      simpa [FlS.pg] using this
    have p1 : IsBytes w (.slice (some ⟨g, 256, Option.none⟩) 160 (cap - 256)) (s.pg 1) := by
      have := Hbw.out.part' 256 160 (by omega)
      simpa [FlS.pg] using this
    have hP0 := hide (rrecparse_any _ _ (w.alloc (.cells (refCells zeroS nilV) 60)) (p0.all HA0.out.right) (by omega))
    have P1 := hide (show IsBytes w (.slice (some ⟨g, 256, Option.none⟩) 160 (cap - 256)) (s.pg 1) ∧ (s.pg 1).length ≤ 1000000 from ⟨p1, by omega⟩)
    clear p0 p1 hl0 hl1 Hbw Hb
    generalize s.pg 0 = d0 at *
    generalize s.pg 1 = d1 at *
    go_enter Try.func29, Try.ntmps29
    go_wp2_with fail
    refine hP0.out.mono ?_
    clear hP0
    rintro e W2 ⟨iv0, rfl, ho0, hs0⟩
    have HoA := hide (rr_one (s := recGot d0) (iv := iv0) (own_slice ho0))
    have HsA := hide (rr_info (recGot d0) iv0)
    have h1 := (on_all_to ho0 HA0.out).alloc (.cells (refCells zeroS nilV) 60)
    have gB := hide (on_blk_mul h1)
    have H3 := hide (h1.setRow (refCells (recGot d0) iv0))
    have S3 := hide (((hS0.out.trans hs0).alloc (.cells (refCells zeroS nilV) 60)).setRow W2.heap.size (refCells (recGot d0) iv0))
    have hstop : ∀ p : Prop, Hid p → p := fun _ h => h.out
    clear ho0 hs0 h1 HA0 hS0 gA c0 c6 c7
    go_wp2_with (first | (refine wpList_store_row rfl _ _ _ rfl W2.heap.size (refCells (recGot d0) iv0) rfl rfl _ _ gB.out HsA.out rfl HoA.out ?_; refine hstop _ ?_))
    refine hide ?_
    clear hstop gB
    generalize (W2.alloc (.cells (refCells zeroS nilV) 60)).setRow W2.heap.size (refCells (recGot d0) iv0) = W3 at *
    generalize W2.heap.size = g5 at *
    have c0 := all_cell H3.out.right.right.right C0w.out
    have hP1 := hide (rrecparse_any _ _ W3 (P1.out.1.all H3.out.right.right.right) P1.out.2)
    go_wp2_with fail
    refine hP1.out.mono ?_
    clear hP1
    rintro e W4 ⟨iv1, rfl, ho1, hs1⟩
    have HoB := hide (rr_one (s := recGot d1) (iv := iv1) (own_slice ho1))
    have HsB := hide (rr_info (recGot d1) iv1)
    have h1 := (on_all_to ho1 H3.out).alloc (.cells (refCells zeroS nilV) 60)
    have gB := hide (on_blk_mul h1)
    have H5 := hide (h1.setRow (refCells (recGot d1) iv1))
    have S5 := hide (((S3.out.trans hs1).alloc (.cells (refCells zeroS nilV) 60)).setRow W4.heap.size (refCells (recGot d1) iv1))
    have hstop : ∀ p : Prop, Hid p → p := fun _ h => h.out
    clear ho1 hs1 h1 H3 S3 c0 P1
    go_wp2_with (first | (refine wpList_store_row rfl _ _ _ rfl W4.heap.size (refCells (recGot d1) iv1) rfl rfl _ _ gB.out HsB.out rfl HoB.out ?_; refine hstop _ ?_))
    refine hide ?_
    clear hstop gB
    generalize (W4.alloc (.cells (refCells zeroS nilV) 60)).setRow W4.heap.size (refCells (recGot d1) iv1) = W5 at *
    generalize W4.heap.size = g7 at *
    have g7r := on_blk_mul H5.out
    have g5r := on_blk_mul H5.out.right.right
    have g2r := on_blk_mul H5.out.right.right.right.right
    have q7 : W5.cell? ⟨g7, 0, Option.none⟩ = some (u32v (recGot d1).seq) := cell_of_row W5 g7 0 _ _ _ g7r
    have q5 : W5.cell? ⟨g5, 0, Option.none⟩ = some (u32v (recGot d0).seq) := cell_of_row W5 g5 0 _ _ _ g5r
    generalize recGot d0 = Ra at *
    generalize recGot d1 = Rb at *
    generalize recErr d0 = ea at *
    generalize recErr d1 = eb at *
    generalize w.heap.size = g2 at *
    have HC : (ea ≠ 0 ∧ eb ≠ 0) ∨ (ea ≠ 0 ∧ eb = 0) ∨ (ea = 0 ∧ eb = 0 ∧ Ra.seq < Rb.seq) ∨ (ea = 0 ∧ eb = 0 ∧ Rb.seq ≤ Ra.seq) ∨ (ea = 0 ∧ eb ≠ 0) := by omega
    clear C0w
    rcases HC with ⟨k1, k2⟩ | ⟨k1, k2⟩ | ⟨k1, k2, k3⟩ | ⟨k1, k2, k3⟩ | ⟨k1, k2⟩
    · have HL := hide (show s.load = (zeroS, 0, 15) by rw [HLd.out]; simp [k1, k2])
      clear HLd
      have j1 : ((ea : Int) != 0) = true := by simp; omega
      have j2 : ((eb : Int) != 0) = true := by simp; omega
      have j3 : ((eb : Int) == 0) = false := by simp; omega
      clear k1 k2
      go_wp2_with (first
        | (refine wpList_build_rr0 rfl rfl ?_)
        | (refine wpList_store_row rfl _ _ _ rfl g2 (refCells zeroS nilV) rfl rfl _ _ g2r HsZ.out rfl HoZ.out ?_))
      rw [HL.out]
      have h9 := H5.out
      rw [sp_r0] at h9
      have h10 := (h9.setRow (refCells zeroS nilV)).right
      refine bodyPost_ret (v := .tuple #[.agg (refCells zeroS nilV), .int .i64 0, .int .i64 15]) (results_cell_row_two Try.results29 _ _ g2 _ (refCells zeroS nilV) (0, 0) _ rfl (setRow_heap_same _ _ _ _ _ _ g2r) hur rfl HsZ.out (.int .i64 0) (.int .i64 15) rfl rfl) rfl ?_
      exact ⟨nilV, rfl, own_nil _ _ h10.right.right.left, S5.out.setRow _ _⟩
    · have HL := hide (show s.load = (Rb, 1, 0) by rw [HLd.out]; simp [k1, k2])
      clear HLd
      have j1 : ((ea : Int) != 0) = true := by simp; omega
      have j2 : ((eb : Int) != 0) = false := by simp; omega
      have j3 : ((eb : Int) == 0) = true := by simp; omega
      clear k1 k2
      go_wp2_with (first
        | (refine wpList_load_row rfl _ _ rfl g7 rfl _ (refCells Rb iv1) _ _ g7r hur rfl HsB.out ?_)
        | (refine wpList_store_row rfl _ _ _ rfl g2 (refCells Rb iv1) rfl rfl _ _ g2r HsB.out rfl HoB.out ?_))
      rw [HL.out]
      have h9 := H5.out
      rw [sp_r0] at h9
      have h10 := (h9.setRow (refCells Rb iv1)).right
      refine bodyPost_ret (v := .tuple #[.agg (refCells Rb iv1), .int .i64 1, .int .i64 0]) (results_cell_row_two Try.results29 _ _ g2 _ (refCells Rb iv1) (0, 0) _ rfl (setRow_heap_same _ _ _ _ _ _ g2r) hur rfl HsB.out (.int .i64 1) (.int .i64 0) rfl rfl) rfl ?_
      rw [sp_rb] at h10
      exact ⟨iv1, rfl, h10.left, S5.out.setRow _ _⟩
    · have HL := hide (show s.load = (Rb, 1, 0) by rw [HLd.out]; simp [k1, k2, k3])
      clear HLd
      have j1 : ((ea : Int) != 0) = false := by simp; omega
      have j2 : ((eb : Int) != 0) = false := by simp; omega
      have j3 : ((eb : Int) == 0) = true := by simp; omega
      clear k1 k2
      have k4 : (Ra.seq : Int) < (Rb.seq : Int) := by omega
      go_wp2_with (first
        | (refine wpList_load_row rfl _ _ rfl g7 rfl _ (refCells Rb iv1) _ _ g7r hur rfl HsB.out ?_)
        | (refine wpList_store_row rfl _ _ _ rfl g2 (refCells Rb iv1) rfl rfl _ _ g2r HsB.out rfl HoB.out ?_))
      rw [HL.out]
      have h9 := H5.out
      rw [sp_r0] at h9
      have h10 := (h9.setRow (refCells Rb iv1)).right
      refine bodyPost_ret (v := .tuple #[.agg (refCells Rb iv1), .int .i64 1, .int .i64 0]) (results_cell_row_two Try.results29 _ _ g2 _ (refCells Rb iv1) (0, 0) _ rfl (setRow_heap_same _ _ _ _ _ _ g2r) hur rfl HsB.out (.int .i64 1) (.int .i64 0) rfl rfl) rfl ?_
      rw [sp_rb] at h10
      exact ⟨iv1, rfl, h10.left, S5.out.setRow _ _⟩
    · have HL := hide (show s.load = (Ra, 0, 0) by
          rw [HLd.out]
          have k5 : ¬ Ra.seq < Rb.seq := by omega
          simp [k1, k2, k5])
      clear HLd
      have j1 : ((ea : Int) != 0) = false := by simp; omega
      have j2 : ((eb : Int) != 0) = false := by simp; omega
      have j3 : ((eb : Int) == 0) = true := by simp; omega
      clear k1 k2
      have k4 : (Rb.seq : Int) ≤ (Ra.seq : Int) := by omega
      go_wp2_with (first
        | (refine wpList_load_row rfl _ _ rfl g5 rfl _ (refCells Ra iv0) _ _ g5r hur rfl HsA.out ?_)
        | (refine wpList_store_row rfl _ _ _ rfl g2 (refCells Ra iv0) rfl rfl _ _ g2r HsA.out rfl HoA.out ?_))
      rw [HL.out]
      have h9 := H5.out
      rw [sp_r0] at h9
      have h10 := (h9.setRow (refCells Ra iv0)).right
      refine bodyPost_ret (v := .tuple #[.agg (refCells Ra iv0), .int .i64 0, .int .i64 0]) (results_cell_row_two Try.results29 _ _ g2 _ (refCells Ra iv0) (0, 0) _ rfl (setRow_heap_same _ _ _ _ _ _ g2r) hur rfl HsA.out (.int .i64 0) (.int .i64 0) rfl rfl) rfl ?_
      have h11 := h10.right
      rw [← SP.mul_assoc] at h11
      exact ⟨iv0, rfl, h11.left, S5.out.setRow _ _⟩
    · have HL := hide (show s.load = (Ra, 0, 0) by rw [HLd.out]; simp [k1, k2])
      clear HLd
      have j1 : ((ea : Int) != 0) = false := by simp; omega
      have j2 : ((eb : Int) != 0) = true := by simp; omega
      have j3 : ((eb : Int) == 0) = false := by simp; omega
      clear k1 k2
      go_wp2_with (first
        | (refine wpList_load_row rfl _ _ rfl g5 rfl _ (refCells Ra iv0) _ _ g5r hur rfl HsA.out ?_)
        | (refine wpList_store_row rfl _ _ _ rfl g2 (refCells Ra iv0) rfl rfl _ _ g2r HsA.out rfl HoA.out ?_))
      rw [HL.out]
      have h9 := H5.out
      rw [sp_r0] at h9
      have h10 := (h9.setRow (refCells Ra iv0)).right
      refine bodyPost_ret (v := .tuple #[.agg (refCells Ra iv0), .int .i64 0, .int .i64 0]) (results_cell_row_two Try.results29 _ _ g2 _ (refCells Ra iv0) (0, 0) _ rfl (setRow_heap_same _ _ _ _ _ _ g2r) hur rfl HsA.out (.int .i64 0) (.int .i64 0) rfl rfl) rfl ?_
      have h11 := h10.right
      rw [← SP.mul_assoc] at h11
      exact ⟨iv0, rfl, h11.left, S5.out.setRow _ _⟩
end Go.Proofs.Ytjmgnfpcieofkaa

/- The document's settings: Save. -/
namespace Go.Proofs.Ytjmgnfpcieofkaa
open Go.ChangeShapes Go.WideShapes Go.ChangeAt Go.RowKit
set_option linter.unusedVariables false
set_option linter.unusedSimpArgs false

def RSaveEnd (p : Nat) (F : SP) (X : FlS × RecS × Nat) (w : World) (e : Ending) (w' : World) : Prop := ∃ iv, e = .returned (.tuple #[.agg (refCells X.2.1 iv), .int .i64 (X.2.2 : Nat)]) ∧ IsBytes w' iv X.2.1.init ∧ (RFlash p X.1 * F).on w' ∧ Str w w'
/-- the same, and whose bytes the record's are -/
def RSaveIv (p : Nat) (F : SP) (X : FlS × RecS × Nat) (iv0 : Value) (w : World) (e : Ending) (w' : World) : Prop := ∃ iv, e = .returned (.tuple #[.agg (refCells X.2.1 iv), .int .i64 (X.2.2 : Nat)]) ∧ iv = (if X.2.2 = 0 then iv0 else nilV) ∧ IsBytes w' iv X.2.1.init ∧ (RFlash p X.1 * F).on w' ∧ Str w w'
theorem sp_s1 (Z A B C D E : SP) : Z * (A * (B * (C * (D * E)))) = D * (Z * (A * (B * (C * E)))) := by ac_rfl
theorem sp_s2 (A Z B C D E : SP) : A * (Z * (B * (C * (D * E)))) = D * ((A * E) * (Z * (B * C))) := by ac_rfl
theorem rprog_anyZ (p : Nat) (s : FlS) (F : SP) (w : World) (h : (RFlash p s * F).on w) (n : Nat) (fit : s.Fit n) (hn : n ≤ 1099511000000) (a : Nat) (v : Value) (lb : List UInt8) (ha4 : a % 4 = 0) (hlb : lb.length % 4 = 0) (ha : a ≤ 1000000) (hl : lb.length ≤ 1000000) (hrd : ∀ w, F.on w → IsBytes w v lb) (z : Int) (hz : z = ((a : Nat) : Int)) :
    Calls Try.prog 50 #[fptr p, .int .i64 z, v] w fun e w' => e = .returned (.int .i64 ((s.prog a lb).2 : Int)) ∧ (RFlash p (s.prog a lb).1 * F).on w' ∧ Str w w' := by
  subst hz
  exact rprog_any p s F w h n fit hn a v lb ha4 hlb ha hl hrd
theorem rera_anyZ (p : Nat) (s : FlS) (F : SP) (w : World) (h : (RFlash p s * F).on w) (n : Nat) (fit : s.Fit n) (hn : n ≤ 1099511000000) (page : Nat) (hp : page ≤ 1000000) (z : Int) (hz : z = ((page : Nat) : Int)) :
    Calls Try.prog 48 #[fptr p, .int .i64 z] w fun e w' => e = .returned (.int .i64 ((s.era page).2 : Int)) ∧ (RFlash p (s.era page).1 * F).on w' ∧ Str w w' := by
  subst hz
  exact rera_any p s F w h n fit hn page hp
theorem rr_seq (r : RecS) (v : Value) (q : Nat) : (refCells r v).setIfInBounds 0 (.int .u32 ((q : Int) + 1)) = refCells { r with seq := q + 1 } v := by
  have h : ((q + 1 : Nat) : Int) = (q : Int) + 1 := by omega
  unfold refCells u32v
  simp only [h]
  rfl
theorem zeros_blk {w : World} {g : Nat} {F : SP} (h : (blk g (.cells #[.int .u8 0, .int .u8 0, .int .u8 0, .int .u8 0] 5 (0, 0)) * F).on w) : IsBytes w (.slice (some ⟨g, 0, Option.none⟩) 4 4) [0, 0, 0, 0] :=
  ⟨_, _, rfl, Nat.le_refl _, by decide, fun i v hv => ⟨_, _, rfl, by
    rw [Nat.zero_add, cell_of_row _ _ _ _ _ _ (on_blk_mul h)]
    have : (vbs ([0, 0, 0, 0] : List UInt8)) = [.int .u8 0, .int .u8 0, .int .u8 0, .int .u8 0] := rfl
    rw [this] at hv
    simpa using hv⟩, fun h => (nomatch h)⟩
theorem write_e1 {s : FlS} {to : Nat} {b : List UInt8} (h : (s.prog (256 * to) [0, 0, 0, 0]).2 ≠ 0) : s.write to b = s.prog (256 * to) [0, 0, 0, 0] := by unfold FlS.write; rw [Nat.mul_comm to 256, if_pos h]
theorem write_e2 {s : FlS} {to : Nat} {b : List UInt8} (h : (s.prog (256 * to) [0, 0, 0, 0]).2 = 0) (h2 : ((s.prog (256 * to) [0, 0, 0, 0]).1.era to).2 ≠ 0) : s.write to b = (s.prog (256 * to) [0, 0, 0, 0]).1.era to := by unfold FlS.write; rw [Nat.mul_comm to 256, if_neg (by simp [h]), if_pos h2]
theorem write_e3 {s : FlS} {to : Nat} {b : List UInt8} (h : (s.prog (256 * to) [0, 0, 0, 0]).2 = 0) (h2 : ((s.prog (256 * to) [0, 0, 0, 0]).1.era to).2 = 0) : s.write to b = ((s.prog (256 * to) [0, 0, 0, 0]).1.era to).1.prog (256 * to) b := by unfold FlS.write; rw [Nat.mul_comm to 256, if_neg (by simp [h]), if_neg (by simp [h2])]

set_option maxRecDepth 100000 in
set_option maxHeartbeats 32000000 in
theorem rsave_iv (p : Nat) (s : FlS) (F : SP) (n : Nat) (fit : s.Fit n) (hn : n ≤ 1099500000000) (r : RecS) (iv : Value) (hr : r.Ok) (hrd : ∀ W, F.on W → IsBytes W iv r.init) (w : World) (h : (RFlash p s * F).on w) :
    Calls Try.prog 45 #[fptr p, .agg (refCells r iv)] w (RSaveIv p F (s.save r) iv w) := by
  have hur := Try.underlying60
  have hz := rr_hz
  obtain ⟨ai, ci, rfl, _, _, _, _⟩ := hrd w h.right
  have h0 := (h.alloc (.cells (refCells r (.slice ai r.init.length ci)) 60)).alloc (.cells (refCells zeroS nilV) 60)
  have s0 := ((Str.refl w).alloc (.cells (refCells r (.slice ai r.init.length ci)) 60)).alloc (.cells (refCells zeroS nilV) 60)
  simp only [World.size_alloc] at h0
  have hN := rload_any p s _ _ (show (RFlash p s * (blk (w.heap.size + 1) (.cells (refCells zeroS nilV) 60 (0, 0)) * (blk w.heap.size (.cells (refCells r (.slice ai r.init.length ci)) 60 (0, 0)) * F))).on _ by
    rw [SP.mul_left_comm, SP.mul_left_comm (RFlash p s)]; exact h0) fit.ok
  have H0 : Hid ((blk w.heap.size (.cells (refCells r (.slice ai r.init.length ci)) 60 (0, 0)) * (blk (w.heap.size + 1) (.cells (refCells zeroS nilV) 60 (0, 0)) * (RFlash p s * F))).on _) := hide (by rw [SP.mul_left_comm] at h0; exact h0)
  have S0 := hide s0
  have HB1 := hide (fun h1 h2 => save_bad (s := s) (r := r) h1 h2)
  have HB2 := hide (fun h1 h2 => save_last (s := s) (r := r) h1 h2)
  have HB3 := hide (fun h1 h2 h3 => save_wrong (s := s) (r := r) h1 h2 h3)
  have HB4 := hide (fun h1 h2 h3 h4 => save_torn (s := s) (r := r) h1 h2 h3 h4)
  have HB5 := hide (fun h1 h2 h3 h4 => save_done (s := s) (r := r) h1 h2 h3 h4)
  have hto : s.to = if s.load.2.2 = 0 then 1 - s.load.2.1 else 0 := rfl
  have hto1 := to_le s
  have hle := load_err s
  have hlp := load_page s
  have Hlo := hide (load_ok s)
  have Hfit := hide fit
  have Hrd := hide hrd
  have Hr := hide hr
  have hHN := hide hN
  clear h h0 s0 fit hrd hr hN
  generalize s.save r = SV at *
  generalize s.to = to at *
  obtain ⟨⟨R, pg, er⟩, hR⟩ : ∃ x, x = s.load := ⟨_, rfl⟩
  rw [← hR] at hHN HB1 HB2 HB3 HB4 HB5 hto hle hlp Hlo
  clear hR
  simp only at HB1 HB2 HB3 HB4 HB5 hto hle hlp Hlo
  have Hto := hide hto
  clear hto
  go_enter Try.func45, Try.ntmps45
  go_wp2_with fail
  generalize (w.alloc (.cells (refCells r (.slice ai r.init.length ci)) 60)).alloc (.cells (refCells zeroS nilV) 60) = w0 at *
  refine hHN.out.mono ?_
  clear hHN
  rintro e w1 ⟨iv1, rfl, ho, hs⟩
  simp only at ho
  have HoS := hide (rr_one (s := R) (own_slice ho))
  have HsS := hide (rr_info R iv1)
  have h1 := ((on_all_to ho H0.out).alloc (.cells (refCells zeroS nilV) 60))
  have gN := on_blk_mul h1
  have H2 := hide (h1.setRow (refCells R iv1))
  have S2 := hide (((S0.out.trans hs).alloc (.cells (refCells zeroS nilV) 60)).setRow w1.heap.size (refCells R iv1))
  have HoZ := hide (rr_one (s := zeroS) (iv := nilV) ⟨_, _, _, rfl⟩)
  have HsZ := hide (rr_info zeroS nilV)
  clear ho hs h1 H0 S0
  have hstop : ∀ p : Prop, Hid p → p := fun _ h => h.out
  go_wp2_with (first
    | (refine wpList_store_row rfl _ _ _ rfl w1.heap.size (refCells R iv1) rfl rfl _ _ gN HsS.out rfl HoS.out ?_; refine hstop _ ?_))
  refine hide ?_
  clear hstop gN
  generalize (w1.alloc (.cells (refCells zeroS nilV) 60)).setRow w1.heap.size (refCells R iv1) = w2 at *
  generalize w1.heap.size = gS at *
  have c0 : w2.cell? ⟨gS, 0, Option.none⟩ = some (u32v R.seq) := cell_of_row w2 gS 0 _ _ _ (on_blk_mul H2.out)
  have gZ := on_blk_mul H2.out.right.right.right
  have hpgI : (pg : Int) ≤ 1 := by omega
  by_cases hbad : er ≠ 0 ∧ er ≠ 15
  · have hv := HB1.out hbad.1 hbad.2
    have HV := hide hv
    have e1 : (((er : Nat) : Int) != 0) = true := by simp only [bne_iff_ne, ne_eq]; omega
    have e2 : (((er : Nat) : Int) == 15) = false := by simp only [beq_eq_false_iff_ne, ne_eq]; omega
    have HNe := hide hbad.1
    clear hbad hv c0 HB1 HB2 HB3 HB4 HB5
    have h9 := H2.out.right.right
    rw [SP.mul_left_comm] at h9
    have H9 := hide (h9.setRow (refCells zeroS nilV)).right.right
    have S9 := hide (S2.out.setRow (w.heap.size + 1) (refCells zeroS nilV))
    clear h9
    go_wp2_with (first
      | (refine wpList_build_rr0 rfl rfl ?_)
      | (refine wpList_store_row rfl _ _ _ rfl (w.heap.size + 1) (refCells zeroS nilV) rfl rfl _ _ gZ HsZ.out rfl HoZ.out ?_))
    refine bodyPost_ret (v := .tuple #[.agg (refCells zeroS nilV), .int .i64 (er : Nat)]) (results_cell_row_tmp Try.results45 _ _ (w.heap.size + 1) _ (refCells zeroS nilV) (0, 0) _ rfl (setRow_heap_same _ _ _ _ _ _ gZ) hur rfl HsZ.out (.int .i64 (er : Nat)) rfl) rfl ?_
    exact ⟨nilV, by rw [HV.out]; first | done | rfl, by rw [HV.out]; exact (if_neg HNe.out).symm, by rw [HV.out]; exact IsBytes.nil _, by rw [HV.out]; exact H9.out, S9.out⟩
  · have hor : er = 0 ∨ er = 15 := by omega
    have Hor := hide hor
    have HT : (er = 0 ∧ (1 : Int) - (pg : Int) = to) ∨ (er = 15 ∧ (0 : Int) = to) := by
      have h := Hto.out
      rcases hor with rfl | rfl
      · left
        simp at h
        omega
      · right
        simp at h
        omega
    clear hbad HB1 hor
    rcases HT with ⟨rfl, ht⟩ | ⟨rfl, ht⟩
    all_goals
      first | rw [show ((0 : Nat) : Int) = 0 from rfl] | rw [show ((15 : Nat) : Int) = 15 from rfl]
      have Ht := hide ht
      clear ht
      by_cases hq : R.seq = 4294967295
      · have hv := HB2.out Hor.out hq
        have HV := hide hv
        have e2 : (((R.seq : Nat) : Int) == 4294967295) = true := by rw [hq]; rfl
        clear hv hq HB2 HB3 HB4 HB5
        have h9 := H2.out.right.right
        rw [SP.mul_left_comm] at h9
        have H9 := hide (h9.setRow (refCells zeroS nilV)).right.right
        have S9 := hide (S2.out.setRow (w.heap.size + 1) (refCells zeroS nilV))
        clear h9
        go_wp2_with (first
          | (refine wpList_build_rr0 rfl rfl ?_)
          | (refine wpList_store_row rfl _ _ _ rfl (w.heap.size + 1) (refCells zeroS nilV) rfl rfl _ _ gZ HsZ.out rfl HoZ.out ?_))
        refine bodyPost_ret (v := .tuple #[.agg (refCells zeroS nilV), .int .i64 16]) (results_cell_row_tmp Try.results45 _ _ (w.heap.size + 1) _ (refCells zeroS nilV) (0, 0) _ rfl (setRow_heap_same _ _ _ _ _ _ gZ) hur rfl HsZ.out (.int .i64 16) rfl) rfl ?_
        exact ⟨nilV, by rw [HV.out]; first | done | rfl, by rw [HV.out]; exact (if_neg (show ¬ (16 : Nat) = 0 by decide)).symm, by rw [HV.out]; exact IsBytes.nil _, by rw [HV.out]; exact H9.out, S9.out⟩
      · have hq2 : R.seq < 4294967295 := by have := Hlo.out.seq; omega
        have HC3 := hide (HB3.out Hor.out hq)
        have HC4 := hide (HB4.out Hor.out hq)
        have HC5 := hide (HB5.out Hor.out hq)
        have e2 : (((R.seq : Nat) : Int) == 4294967295) = false := by simp only [beq_eq_false_iff_ne, ne_eq]; omega
        have c1 := cell_of_row w2 w.heap.size 0 _ _ _ (on_blk_mul H2.out.right.right)
        have fr := frozen_of_row w2 w.heap.size 0 _ _ (on_blk_mul H2.out.right.right)
        clear hq HB2 HB3 HB4 HB5
        obtain ⟨r1, hr1⟩ : ∃ x : RecS, x = { r with seq := R.seq + 1 } := ⟨_, rfl⟩
        have hi1 : r1.init = r.init := by rw [hr1]
        have ok1 : r1.Ok := by rw [hr1]; exact ⟨by show R.seq + 1 < 4294967296; omega, Hr.out.floor, Hr.out.bytes, Hr.out.sum, Hr.out.done, Hr.out.init⟩
        have h9 := H2.out.right.right
        have h3 := h9.setCell (i := 0) (.int .u32 ((R.seq : Int) + 1))
        rw [rr_seq, ← hr1] at h3
        rw [← hr1] at HC3 HC4 HC5
        have g3 := on_blk_mul h3
        have H3 := hide h3
        have S3 := hide (S2.out.setCell ⟨w.heap.size, 0, Option.none⟩ (.int .u32 ((R.seq : Int) + 1)))
        have HsR1 := hide (rr_info r1 (.slice ai r.init.length ci))
        have HoR1 := hide (rr_one (s := r1) (iv := .slice ai r.init.length ci) ⟨_, _, _, rfl⟩)
        have hE := hide (rrencode_any r1 (.slice ai r.init.length ci) _ ok1 (by rw [hi1]; exact Hrd.out _ h3.right.right.right))
        have Hi1 := hide hi1
        clear h9 h3 hr1 hi1
        go_wp2_with (first
          | (refine wpList_load_row rfl _ _ rfl w.heap.size rfl _ (refCells r1 (.slice ai r.init.length ci)) _ _ g3 hur rfl HsR1.out ?_))
        generalize w2.setCell ⟨w.heap.size, 0, Option.none⟩ (.int .u32 ((R.seq : Int) + 1)) = w3 at *
        clear H2 S2 gZ g3 c0 c1 fr
        refine hE.out.mono ?_
        clear hE
        rintro e w4 hEnd
        obtain ⟨out, rfl, ho, hs⟩ := hEnd.both
        have H4 := hide (on_all_to ho H3.out)
        have S4 := hide (S3.out.trans hs)
        have gZ := on_blk_mul H4.out.right.right
        clear ho hs H3 S3 hEnd
        by_cases hright : r1.right = true
        case neg =>
          have hv := HC3.out (by simp [hright])
          have HV := hide hv
          have hee : encErr r1 = 1 := by unfold encErr; rw [if_neg hright]
          rw [hee, show ((1 : Nat) : Int) = 1 from rfl]
          have h9 := H4.out.right
          rw [SP.mul_left_comm] at h9
          have H9 := hide (h9.setRow (refCells zeroS nilV)).right.right
          have S9 := hide (S4.out.setRow (w.heap.size + 1) (refCells zeroS nilV))
          obtain ⟨oa, oc, rfl, _, _, _, _⟩ := own_value H4.out
          clear h9 hright hv HC3 HC4 HC5 hee
          go_wp2_with (first
            | (refine wpList_build_rr0 rfl rfl ?_)
            | (refine wpList_store_row rfl _ _ _ rfl (w.heap.size + 1) (refCells zeroS nilV) rfl rfl _ _ gZ HsZ.out rfl HoZ.out ?_))
          refine bodyPost_ret (v := .tuple #[.agg (refCells zeroS nilV), .int .i64 1]) (results_cell_row_tmp Try.results45 _ _ (w.heap.size + 1) _ (refCells zeroS nilV) (0, 0) _ rfl (setRow_heap_same _ _ _ _ _ _ gZ) hur rfl HsZ.out (.int .i64 1) rfl) rfl ?_
          exact ⟨nilV, by rw [HV.out]; first | done | rfl, by rw [HV.out]; exact (if_neg (show ¬ (1 : Nat) = 0 by decide)).symm, by rw [HV.out]; exact IsBytes.nil _, by rw [HV.out]; exact H9.out, S9.out⟩
        case pos =>
          have HD4 := hide (HC4.out hright)
          have HD5 := hide (HC5.out hright)
          have hee : encErr r1 = 0 := by unfold encErr; rw [if_pos hright]
          have heg : encGot r1 = recBytes r1 := by unfold encGot; rw [if_pos hright]
          rw [hee, show ((0 : Nat) : Int) = 0 from rfl]
          rw [heg] at H4
          obtain ⟨oa, oc, rfl, _, _, _, _⟩ := own_value H4.out
          have hlen : (recBytes r1).length = 160 := recBytes_len r1 (by
            have hh := hright
            simp only [RecS.right, decide_eq_true_eq] at hh
            exact hh.2.2.2.1)
          rw [hlen] at H4
          have h9 := H4.out.alloc (.cells #[.int .u8 0, .int .u8 0, .int .u8 0, .int .u8 0] 5)
          rw [sp_s1] at h9
          have S5 := hide (S4.out.alloc (.cells #[.int .u8 0, .int .u8 0, .int .u8 0, .int .u8 0] 5))
          have H5 := hide h9
          have fit1 := hide (Hfit.out.prog (256 * to) [0, 0, 0, 0])
          have hW1 := hide (fun h => write_e1 (s := s) (to := to) (b := recBytes r1) h)
          have hW2 := hide (fun h h2 => write_e2 (s := s) (to := to) (b := recBytes r1) h h2)
          have hW3 := hide (fun h h2 => write_e3 (s := s) (to := to) (b := recBytes r1) h h2)
          have hl160 := hide hlen
          clear h9 hright hee heg HC3 HC4 HC5 gZ
          rw [hlen]
          clear hlen
          go_wp2_with fail
          refine (rprog_anyZ p s _ _ H5.out n Hfit.out (by omega) (256 * to) (.slice (some ⟨w4.heap.size, 0, Option.none⟩) 4 4) [0, 0, 0, 0] (by omega) rfl (by omega) (by decide) (fun W hW => zeros_blk hW) _ (by have := Ht.out; omega)).mono ?_
          rintro e w6 ⟨rfl, h6, hs6⟩
          have H6 := hide h6
          have S6 := hide (S5.out.trans hs6)
          clear h6 hs6 H5 S5 H4 S4
          generalize s.prog (256 * to) [0, 0, 0, 0] = X1 at *
          obtain ⟨s1, x1⟩ := X1
          simp only at fit1 hW1 hW2 hW3 H6
          by_cases hx1 : x1 = 0
          case neg =>
            have hw := hW1.out hx1
            have hv := HD4.out (by rw [hw]; exact hx1)
            rw [hw] at hv
            have HV := hide hv
            have e1 : (((x1 : Nat) : Int) == 0) = false := by simp only [beq_eq_false_iff_ne, ne_eq]; omega
            have e3 : (((x1 : Nat) : Int) != 0) = true := by simp only [bne_iff_ne, ne_eq]; omega
            have gZ := on_blk_mul H6.out.right.right.right.right
            have h9 := H6.out
            rw [sp_s2] at h9
            have H9 := hide (h9.setRow (refCells zeroS nilV)).right.left
            have S9 := hide (S6.out.setRow (w.heap.size + 1) (refCells zeroS nilV))
            have HNe := hide hx1
            clear hx1 hw hv h9 hW1 hW2 hW3 HD4 HD5 H6 S6
            go_wp2_with (first
              | (refine wpList_build_rr0 rfl rfl ?_)
              | (refine wpList_store_row rfl _ _ _ rfl (w.heap.size + 1) (refCells zeroS nilV) rfl rfl _ _ gZ HsZ.out rfl HoZ.out ?_))
            refine bodyPost_ret (v := .tuple #[.agg (refCells zeroS nilV), .int .i64 (x1 : Nat)]) (results_cell_row_tmp Try.results45 _ _ (w.heap.size + 1) _ (refCells zeroS nilV) (0, 0) _ rfl (setRow_heap_same _ _ _ _ _ _ gZ) hur rfl HsZ.out (.int .i64 (x1 : Nat)) rfl) rfl ?_
            exact ⟨nilV, by rw [HV.out]; first | done | rfl, by rw [HV.out]; exact (if_neg HNe.out).symm, by rw [HV.out]; exact IsBytes.nil _, by rw [HV.out]; exact H9.out, S9.out⟩
          case pos =>
            have HX1 := hide hx1
            rw [hx1, show ((0 : Nat) : Int) = 0 from rfl]
            clear hx1 hW1
            go_wp2_with fail
            refine (rera_anyZ p s1 _ _ H6.out (n + 1) (fit1.out.mono (Nat.le_refl _)) (by omega) to (by omega) _ (by have := Ht.out; omega)).mono ?_
            rintro e w7 ⟨rfl, h7, hs7⟩
            have H7 := hide h7
            have S7 := hide (S6.out.trans hs7)
            have fit2 := hide ((fit1.out.mono (show n + [0, 0, 0, 0].length / 4 ≤ n + 1 from Nat.le_refl _)).era to)
            clear h7 hs7 H6 S6 fit1
            generalize s1.era to = X2 at *
            obtain ⟨s2, x2⟩ := X2
            simp only at hW2 hW3 H7 fit2
            by_cases hx2 : x2 = 0
            case neg =>
              have hw := hW2.out HX1.out hx2
              have hv := HD4.out (by rw [hw]; exact hx2)
              rw [hw] at hv
              have HV := hide hv
              have e1 : (((x2 : Nat) : Int) == 0) = false := by simp only [beq_eq_false_iff_ne, ne_eq]; omega
              have e3 : (((x2 : Nat) : Int) != 0) = true := by simp only [bne_iff_ne, ne_eq]; omega
              have gZ := on_blk_mul H7.out.right.right.right.right
              have h9 := H7.out
              rw [sp_s2] at h9
              have H9 := hide (h9.setRow (refCells zeroS nilV)).right.left
              have S9 := hide (S7.out.setRow (w.heap.size + 1) (refCells zeroS nilV))
              have HNe := hide hx2
              clear hx2 hw hv h9 hW2 hW3 HD4 HD5 H7 S7
              go_wp2_with (first
                | (refine wpList_build_rr0 rfl rfl ?_)
                | (refine wpList_store_row rfl _ _ _ rfl (w.heap.size + 1) (refCells zeroS nilV) rfl rfl _ _ gZ HsZ.out rfl HoZ.out ?_))
              refine bodyPost_ret (v := .tuple #[.agg (refCells zeroS nilV), .int .i64 (x2 : Nat)]) (results_cell_row_tmp Try.results45 _ _ (w.heap.size + 1) _ (refCells zeroS nilV) (0, 0) _ rfl (setRow_heap_same _ _ _ _ _ _ gZ) hur rfl HsZ.out (.int .i64 (x2 : Nat)) rfl) rfl ?_
              exact ⟨nilV, by rw [HV.out]; first | done | rfl, by rw [HV.out]; exact (if_neg HNe.out).symm, by rw [HV.out]; exact IsBytes.nil _, by rw [HV.out]; exact H9.out, S9.out⟩
            case pos =>
              have HX2 := hide hx2
              rw [hx2, show ((0 : Nat) : Int) = 0 from rfl]
              clear hx2 hW2
              go_wp2_with fail
              refine (rprog_anyZ p s2 _ _ H7.out (n + 1 + 1) fit2.out (by omega) (256 * to) (.slice oa 160 oc) (recBytes r1) (by omega) (by rw [hl160.out]) (by omega) (by rw [hl160.out]; decide) (fun W hW => own_bytes hW.right) _ (by have := Ht.out; omega)).mono ?_
              rintro e w8 ⟨rfl, h8, hs8⟩
              have H8 := hide h8
              have S8 := hide (S7.out.trans hs8)
              have hw3 := hW3.out HX1.out HX2.out
              rw [hw3] at HD4 HD5
              clear h8 hs8 H7 S7 fit2 hW3 hw3
              generalize s2.prog (256 * to) (recBytes r1) = X3 at *
              obtain ⟨s3, x3⟩ := X3
              simp only at H8 HD4 HD5
              by_cases hx3 : x3 = 0
              case neg =>
                have hv := HD4.out hx3
                have HV := hide hv
                have e3 : (((x3 : Nat) : Int) != 0) = true := by simp only [bne_iff_ne, ne_eq]; omega
                have gZ := on_blk_mul H8.out.right.right.right.right
                have h9 := H8.out
                rw [sp_s2] at h9
                have H9 := hide (h9.setRow (refCells zeroS nilV)).right.left
                have S9 := hide (S8.out.setRow (w.heap.size + 1) (refCells zeroS nilV))
                have HNe := hide hx3
                clear hx3 hv h9 HD4 HD5 H8 S8
                go_wp2_with (first
                  | (refine wpList_build_rr0 rfl rfl ?_)
                  | (refine wpList_store_row rfl _ _ _ rfl (w.heap.size + 1) (refCells zeroS nilV) rfl rfl _ _ gZ HsZ.out rfl HoZ.out ?_))
                refine bodyPost_ret (v := .tuple #[.agg (refCells zeroS nilV), .int .i64 (x3 : Nat)]) (results_cell_row_tmp Try.results45 _ _ (w.heap.size + 1) _ (refCells zeroS nilV) (0, 0) _ rfl (setRow_heap_same _ _ _ _ _ _ gZ) hur rfl HsZ.out (.int .i64 (x3 : Nat)) rfl) rfl ?_
                exact ⟨nilV, by rw [HV.out]; first | done | rfl, by rw [HV.out]; exact (if_neg HNe.out).symm, by rw [HV.out]; exact IsBytes.nil _, by rw [HV.out]; exact H9.out, S9.out⟩
              case pos =>
                have hv := HD5.out hx3
                have HV := hide hv
                rw [hx3, show ((0 : Nat) : Int) = 0 from rfl]
                have gR := on_blk_mul H8.out.right.right.right
                have gZ := on_blk_mul H8.out.right.right.right.right
                have h9 := H8.out
                rw [sp_s2] at h9
                have H9 := hide (h9.setRow (refCells r1 (.slice ai r.init.length ci))).right.left
                have S9 := hide (S8.out.setRow (w.heap.size + 1) (refCells r1 (.slice ai r.init.length ci)))
                clear hx3 hv h9 HD4 HD5 H8 S8
                go_wp2_with (first
                  | (refine wpList_load_row rfl _ _ rfl w.heap.size rfl _ (refCells r1 (.slice ai r.init.length ci)) _ _ gR hur rfl HsR1.out ?_)
                  | (refine wpList_store_row rfl _ _ _ rfl (w.heap.size + 1) (refCells r1 (.slice ai r.init.length ci)) rfl rfl _ _ gZ HsR1.out rfl HoR1.out ?_))
                refine bodyPost_ret (v := .tuple #[.agg (refCells r1 (.slice ai r.init.length ci)), .int .i64 0]) (results_cell_row_tmp Try.results45 _ _ (w.heap.size + 1) _ (refCells r1 (.slice ai r.init.length ci)) (0, 0) _ rfl (setRow_heap_same _ _ _ _ _ _ gZ) hur rfl HsR1.out (.int .i64 0) rfl) rfl ?_
                exact ⟨.slice ai r.init.length ci, by rw [HV.out]; first | done | rfl, by rw [HV.out]; exact (if_pos rfl).symm, by rw [HV.out]; show IsBytes _ _ r1.init; rw [Hi1.out]; exact Hrd.out _ H9.out.right, by rw [HV.out]; exact H9.out, S9.out⟩
theorem rsave_any (p : Nat) (s : FlS) (F : SP) (n : Nat) (fit : s.Fit n) (hn : n ≤ 1099500000000) (r : RecS) (iv : Value) (hr : r.Ok) (hrd : ∀ W, F.on W → IsBytes W iv r.init) (w : World) (h : (RFlash p s * F).on w) :
    Calls Try.prog 45 #[fptr p, .agg (refCells r iv)] w (RSaveEnd p F (s.save r) w) := by
  refine (rsave_iv p s F n fit hn r iv hr hrd w h).mono ?_
  rintro e w' ⟨iv, h1, _, h2, h3, h4⟩
  exact ⟨iv, h1, h2, h3, h4⟩
end Go.Proofs.Ytjmgnfpcieofkaa

/- The law SettingsActs: 'of', and its acts as arguments. -/
namespace Go.Proofs.Ytjmgnfpcieofkaa
open Go.ChangeShapes Go.WideShapes Go.ChangeAt Go.RowKit
set_option linter.unusedVariables false
set_option linter.unusedSimpArgs false

set_option maxRecDepth 100000 in
set_option maxHeartbeats 4000000 in
theorem of14_any (s : RecS) (a : Option Addr) (n c : Nat) (w : World) :
    Calls Try.prog 46 #[.agg (recCells s (.slice a n c))] w fun e w' => e = .returned (.agg (refCells s (.slice a n c))) ∧ Below w.heap.size w w' := by
  have hur := Try.underlying60
  have hsr : (Try.prog.info? 60).map (·.size) = some 7 := by kernel_rfl
  obtain ⟨b0, b1, b2, b3, b4, b5, b6⟩ := boxCells (heap_alloc2_old w (.cells (recCells s (.slice a n c)) 35) (.cells zcr 60))
  have hr := heap_alloc2_new w (.cells (recCells s (.slice a n c)) 35) (.cells zcr 60)
  have hB : Below w.heap.size w ((w.alloc (.cells (recCells s (.slice a n c)) 35)).alloc (.cells zcr 60)) := alloc1.alloc (by simp) _
  have HB := hide hB
  clear hB
  obtain ⟨seq, floor, bytes, sum, phase, done, init⟩ := s
  simp only at *
  go_enter Try.func46, Try.ntmps46
  go_wp2_with (refine wpList_store_row rfl _ _ _ rfl (w.heap.size + 1) (refCells ⟨seq, floor, bytes, sum, phase, done, init⟩ (.slice a n c)) rfl rfl _ _ hr hsr (zcr_size _ _) (refCells_one _ _ _ _) ?_)
  refine bodyPost_ret (v := .agg (refCells _ _)) (results_cell_row Try.results46 _ _ (w.heap.size + 1) _ (refCells _ _) (0, 0) _ rfl (setRow_heap_same _ _ _ _ _ _ hr) hur rfl hsr) rfl ⟨rfl, below_setRow HB.out (by omega) _⟩

structure ActS where
  kind : UInt8
  n : Int
  tear : Nat
  r : RecS
  iv : Value
def actC (y : ActS) : Array Value := #[vb y.kind, .int .i64 y.n, u32v y.tear, u32v y.r.seq, u32v y.r.floor, u32v y.r.bytes, u32v y.r.sum, vb y.r.phase, u32v y.r.done, y.iv]
structure ActS.Good (w : World) (y : ActS) : Prop where
  n1 : -9223372036854775808 ≤ y.n
  n2 : y.n ≤ 9223372036854775807
  tear : y.tear < 4294967296
  nums : y.r.Nums
  init : IsBytes w y.iv y.r.init
section
variable {H : Type} {enc : TypeId × Value → H} {w : World} {base : Nat} {spare : Nat → Bool} {held : Bool}
set_option maxRecDepth 100000 in
theorem each_act (fuel : Nat) (cs : List Value) (x : DataW H × List MemPlace) (h : DataW.trod enc Try.prog w base spare held fuel 37 cs = some x) : ∃ y : ActS, cs = (actC y).toList ∧ y.Good w ∧ 0 < (actC y).size := by
  have hu := Try.underlying37
  have h32 := Try.underlying32
  have h8 := Try.underlying5
  have hi := Try.underlying3
  have c32 : Try.prog.cellsOf 32 = 1 := by kernel_rfl
  have c8 : Try.prog.cellsOf 5 = 1 := by kernel_rfl
  have ci : Try.prog.cellsOf 3 = 1 := by kernel_rfl
  have c7 : Try.prog.cellsOf 35 = 7 := by kernel_rfl
  have c10 : Try.prog.cellsOf 37 = 10 := by kernel_rfl
  obtain ⟨xs, n, rfl, _, hl, hxl, hfs⟩ := DataW.trod_struct hu h
  rw [c10] at hl
  match xs, hxl with
  | [x0, x1, x2, x3], _ =>
    have g0 := hfs 0 _ rfl
    have g1 := hfs 1 _ rfl
    have g2 := hfs 2 _ rfl
    have g3 := hfs 3 _ rfl
    obtain ⟨n0, e0⟩ := trod_b8 h8 g0
    obtain ⟨n1, b1, b1', e1⟩ := trod_i64 hi g1
    obtain ⟨n2, b2, e2⟩ := trod_u32 h32 g2
    obtain ⟨⟨iv, s⟩, e3, ⟨hn, hb⟩, _⟩ := each_rec _ _ _ g3
    refine ⟨⟨n0, n1, n2, s, iv⟩, ?_, ⟨b1, b1', b2, hn, hb⟩, by show 0 < 10; omega⟩
    clear g0 g1 g2 g3 hfs h
    match cs, hl with
    | [y0, y1, y2, y3, y4, y5, y6, y7, y8, y9], _ =>
      change List.take (Try.prog.cellsOf 5) ([y0, y1, y2, y3, y4, y5, y6, y7, y8, y9].drop 0) = _ at e0
      rw [c8] at e0
      change List.take (Try.prog.cellsOf 3) ([y0, y1, y2, y3, y4, y5, y6, y7, y8, y9].drop 1) = _ at e1
      rw [ci] at e1
      change List.take (Try.prog.cellsOf 32) ([y0, y1, y2, y3, y4, y5, y6, y7, y8, y9].drop 2) = _ at e2
      rw [c32] at e2
      change List.take (Try.prog.cellsOf 35) ([y0, y1, y2, y3, y4, y5, y6, y7, y8, y9].drop 3) = _ at e3
      rw [c7] at e3
      simp [recCells] at e0 e1 e2 e3
      obtain ⟨e30, e31, e32, e33, e34, e35, e36⟩ := e3
      subst e0 e1 e2 e30 e31 e32 e33 e34 e35 e36
      rfl
end
end Go.Proofs.Ytjmgnfpcieofkaa
