/- LAID TOGETHER: Tr1, Tr2, Tr3. -/
import Derived.Test.YtjmgnfpcieofkaaSet6
import Derived.Test.YtjmgnfpcieofkaaBank3
/- transfer: keepers in memory; New. -/
namespace Go.Proofs.Ytjmgnfpcieofkaa
open Go.ChangeShapes Go.WideShapes Go.ChangeAt Go.RowKit
set_option linter.unusedVariables false
set_option linter.unusedSimpArgs false

def kpCells (p : Nat) (s : RecS) (iv : Value) : Array Value := #[fptr p, .int .i64 18, u32v s.seq, u32v s.floor, u32v s.bytes, u32v s.sum, vb s.phase, u32v s.done, iv]
/-- a keeper in memory -/
def Kp (q p : Nat) (s : RecS) : SP := ex fun iv : Value => blk q (.cells (kpCells p s iv) 115 (0, 0)) * ownR iv s.init
theorem Kp.open {q p : Nat} {s : RecS} {F : SP} {w : World} (h : (Kp q p s * F).on w) : ∃ iv, (blk q (.cells (kpCells p s iv) 115 (0, 0)) * (ownR iv s.init * F)).on w := by
  obtain ⟨iv, h⟩ := on_ex_mul.1 h
  exact ⟨iv, by rw [← SP.mul_assoc]; exact h⟩
theorem Kp.shut {q p : Nat} {s : RecS} {F : SP} {w : World} {iv : Value} (h : (blk q (.cells (kpCells p s iv) 115 (0, 0)) * (ownR iv s.init * F)).on w) : (Kp q p s * F).on w :=
  on_ex_mul.2 ⟨iv, by rw [SP.mul_assoc]; exact h⟩
theorem kp_one {p : Nat} {s : RecS} {iv : Value} (h : ∃ a n c, iv = .slice a n c) : (kpCells p s iv).all (·.oneCell') = true := by
  obtain ⟨x, n, c, rfl⟩ := h
  simp [kpCells, Value.oneCell']
theorem kp_info (p : Nat) (s : RecS) (iv : Value) : (Try.prog.info? 115).map (·.size) = some (kpCells p s iv).size := by rw [show (kpCells p s iv).size = 9 from rfl]; kernel_rfl
theorem bk_build (p : Nat) (w : World) : (Instr.build 113 #[(0, fptr p), (1, .int .i64 18)]).run Try.prog w = .ok (bankV (fptr p) 18) w := by kernel_rfl
theorem kp_build (p : Nat) (s : RecS) (iv : Value) (w : World) : (Instr.build 115 #[(0, bankV (fptr p) 18), (1, .agg (recCells s iv))]).run Try.prog w = .ok (.agg (kpCells p s iv)) w := by kernel_rfl
theorem wpList_build_bk {ops : Array Oper} {rest : List Oper} {o : Oper} {a : Act} {w : World} {Q : Exit → Act → World → Prop} (hgd : o.guard = Option.none) (x0 x1 : Operand) (ho : o.op = .build 113 #[(0, x0), (1, x1)]) (p : Nat)
    (h0 : a.eval x0 = fptr p) (h1 : a.eval x1 = .int .i64 18) (hk : wpList Try.prog ops Q rest (a.put o.dst (bankV (fptr p) 18)) w) : wpList Try.prog ops Q (o :: rest) a w := by
  have hr : (execOp a.eval o).run Try.prog w = .ok (.value (bankV (fptr p) 18)) w := by
    unfold execOp
    rw [ho]
    simp only [List.map_toArray, List.map_cons, List.map_nil, h0, h1]
    rw [Sem.run_bind, bk_build]
    rfl
  exact wpList_plain hgd fun _ hK => by
    unfold Oper.wp
    simp only [hr]
    exact hK _ _ hk
theorem wpList_build_kp {ops : Array Oper} {rest : List Oper} {o : Oper} {a : Act} {w : World} {Q : Exit → Act → World → Prop} (hgd : o.guard = Option.none) (x0 x1 : Operand) (ho : o.op = .build 115 #[(0, x0), (1, x1)]) (p : Nat) (s : RecS) (iv : Value)
    (h0 : a.eval x0 = bankV (fptr p) 18) (h1 : a.eval x1 = .agg (recCells s iv)) (hk : wpList Try.prog ops Q rest (a.put o.dst (.agg (kpCells p s iv))) w) : wpList Try.prog ops Q (o :: rest) a w := by
  have hr : (execOp a.eval o).run Try.prog w = .ok (.value (.agg (kpCells p s iv))) w := by
    unfold execOp
    rw [ho]
    simp only [List.map_toArray, List.map_cons, List.map_nil, h0, h1]
    rw [Sem.run_bind, kp_build]
    rfl
  exact wpList_plain hgd fun _ hK => by
    unfold Oper.wp
    simp only [hr]
    exact hK _ _ hk
/-- what New's error is -/
def FlS.kErr (s : FlS) : Nat := if s.B.length < 8704 then 1 else if s.load.2.2 ≠ 0 ∧ s.load.2.2 ≠ 15 then s.load.2.2 else 0
/-- how New ends -/
def KNew (p : Nat) (s : FlS) (F : SP) (w : World) (e : Ending) (w' : World) : Prop :=
  (s.kErr ≠ 0 ∧ e = .returned (.tuple #[.pointer Option.none, .int .i64 (s.kErr : Nat)]) ∧ (Flash p s * F).on w' ∧ Str w w') ∨
  (s.kErr = 0 ∧ ∃ q, e = .returned (.tuple #[.pointer (some ⟨q, 0, Option.none⟩), .int .i64 0]) ∧ (Kp q p s.load.1 * (Flash p s * F)).on w' ∧ Str w w')

set_option maxRecDepth 100000 in
set_option maxHeartbeats 16000000 in
theorem tnew_any (p : Nat) (s : FlS) (F : SP) (w : World) (h : (Flash p s * F).on w) (ok : s.Ok) :
    Calls Try.prog 21 #[fptr p] w (KNew p s F w) := by
  have hur := Try.underlying35
  have hz := rc_hz
  have hS := size_any p s F w h ok
  have hL := load_any p s F w h ok
  have H := hide h
  have hm := ok.most
  have hpg := ok.pages
  have hle := load_err s
  have hke : s.kErr = if s.B.length < 8704 then 1 else if s.load.2.2 ≠ 0 ∧ s.load.2.2 ≠ 15 then s.load.2.2 else 0 := rfl
  clear h ok
  by_cases hB : s.B.length < 8704
  · have hk : s.kErr = 1 := by rw [hke, if_pos hB]
    have Hk := hide hk
    have hBI : (s.B.length : Int) < 8704 := by omega
    clear hke hk hL hB
    go_enter Try.func21, Try.ntmps21
    go_wp2_with fail
    refine hS.mono ?_
    clear hS
    rintro e w1 ⟨rfl, rfl⟩
    go_wp2_with fail
    go_ret2
    exact .inl ⟨by rw [Hk.out]; decide, by rw [Hk.out]; rfl, H.out, Str.refl _⟩
  · rw [if_neg hB] at hke
    have hBI : ¬ (s.B.length : Int) < 8704 := by omega
    have hB2 : s.B.length ≤ 16384 := by omega
    obtain ⟨⟨R, pg, er⟩, hX⟩ : ∃ x, x = s.load := ⟨_, rfl⟩
    unfold KNew
    rw [← hX] at hL hke hle ⊢
    clear hX hB
    simp only at hke hle ⊢
    have Hke := hide hke
    clear hke hm hpg
    go_enter Try.func21, Try.ntmps21
    go_wp2_with fail
    refine hS.mono ?_
    clear hS
    rintro e w1 ⟨rfl, rfl⟩
    go_wp2_with fail
    refine hL.mono ?_
    clear hL
    rintro e w1 ⟨iv, rfl, ho, hs⟩
    have HoR := hide (rc_one (s := R) (iv := iv) (own_slice ho))
    have HsR := hide (rc_info R iv)
    have h1 := (on_all_to ho H.out).alloc (.cells (recCells zeroS nilV) 35)
    have gA := on_blk_mul h1
    have h2 := h1.setRow (recCells R iv)
    have g2 := on_blk_mul h2
    have H2 := hide h2
    have S2 := hide ((hs.alloc (.cells (recCells zeroS nilV) 35)).setRow w1.heap.size (recCells R iv))
    have hsl := own_slice ho
    have Hsl := hide hsl
    clear ho hs h1 h2 hsl
    dsimp only
    by_cases hbad : er ≠ 0 ∧ er ≠ 15
    · have hk : s.kErr = er := by rw [Hke.out, if_pos hbad]
      have Hk := hide hk
      have e1 : (((er : Nat) : Int) != 0) = true := by simp only [bne_iff_ne, ne_eq]; omega
      have e2 : (((er : Nat) : Int) != 15) = true := by simp only [bne_iff_ne, ne_eq]; omega
      have Hn := hide hbad.1
      clear hk hbad Hke
      go_wp2_with (refine wpList_store_row rfl _ _ _ rfl w1.heap.size (recCells R iv) rfl rfl _ _ gA HsR.out rfl HoR.out ?_; clear gA)
      go_ret2
      exact .inl ⟨by rw [Hk.out]; exact Hn.out, by rw [Hk.out]; rfl, H2.out.right.right, S2.out⟩
    · have hk : s.kErr = 0 := by rw [Hke.out, if_neg hbad]
      have Hk := hide hk
      have hor : er = 0 ∨ er = 15 := by omega
      clear hk hbad Hke hle
      have hK := (H2.out.right.alloc (.cells (kpCells p R iv) 115))
      have HK := hide (Kp.shut hK)
      have SK := hide (S2.out.alloc (.cells (kpCells p R iv) 115))
      clear hK
      rcases hor with rfl | rfl
      · rw [show ((0 : Nat) : Int) = 0 from rfl]
        have hstop : ∀ p : Prop, Hid p → p := fun _ h => h.out
        go_wp2_with (refine wpList_store_row rfl _ _ _ rfl w1.heap.size (recCells R iv) rfl rfl _ _ gA HsR.out rfl HoR.out ?_; refine hstop _ ?_)
        refine hide ?_
        clear hstop gA
        generalize (w1.alloc (.cells (recCells zeroS nilV) 35)).setRow w1.heap.size (recCells R iv) = w2 at *
        generalize w1.heap.size = gR at *
        go_wp2_with (first
          | (refine wpList_build_bk rfl _ _ rfl p rfl rfl ?_)
          | (refine wpList_load_row rfl _ _ rfl gR rfl _ (recCells R iv) _ _ g2 hur rfl HsR.out ?_)
          | (refine wpList_build_kp rfl _ _ rfl p R iv rfl rfl ?_))
        go_ret2
        exact .inr ⟨Hk.out, _, rfl, HK.out, SK.out⟩
      · rw [show ((15 : Nat) : Int) = 15 from rfl]
        have hstop : ∀ p : Prop, Hid p → p := fun _ h => h.out
        go_wp2_with (refine wpList_store_row rfl _ _ _ rfl w1.heap.size (recCells R iv) rfl rfl _ _ gA HsR.out rfl HoR.out ?_; refine hstop _ ?_)
        refine hide ?_
        clear hstop gA
        generalize (w1.alloc (.cells (recCells zeroS nilV) 35)).setRow w1.heap.size (recCells R iv) = w2 at *
        generalize w1.heap.size = gR at *
        go_wp2_with (first
          | (refine wpList_build_bk rfl _ _ rfl p rfl rfl ?_)
          | (refine wpList_load_row rfl _ _ rfl gR rfl _ (recCells R iv) _ _ g2 hur rfl HsR.out ?_)
          | (refine wpList_build_kp rfl _ _ rfl p R iv rfl rfl ?_))
        go_ret2
        exact .inr ⟨Hk.out, _, rfl, HK.out, SK.out⟩
end Go.Proofs.Ytjmgnfpcieofkaa

/- transfer: what a keeper remembers. -/
namespace Go.Proofs.Ytjmgnfpcieofkaa
open Go.ChangeShapes Go.WideShapes Go.ChangeAt Go.RowKit
set_option linter.unusedVariables false
set_option linter.unusedSimpArgs false

theorem kp_part (p : Nat) (s : RecS) (iv : Value) (X : World) (g : Nat) (t : TypeId) (hX : X.heap[g]? = some (.cells (kpCells p s iv) t (0, 0))) : ∀ j v, (recCells s iv)[j]? = some v → X.cell? ⟨g, 2 + j, Option.none⟩ = some v := by
  intro j v hv
  rw [cell_of_row _ _ _ _ _ _ hX]
  unfold recCells at hv
  unfold kpCells
  match j, hv with
  | 0, hv => exact hv
  | 1, hv => exact hv
  | 2, hv => exact hv
  | 3, hv => exact hv
  | 4, hv => exact hv
  | 5, hv => exact hv
  | 6, hv => exact hv
  | n + 7, hv => simp at hv
/-- a record that a call makes -/
def RecQ (s : RecS) (w : World) (e : Ending) (w' : World) : Prop := ∃ iv, e = .returned (.agg (recCells s iv)) ∧ (ownR iv s.init * all w).on w' ∧ Str w w'

set_option maxRecDepth 100000 in
set_option maxHeartbeats 16000000 in
theorem krecord_any (q p : Nat) (s : RecS) (F : SP) (w : World) (h : (Kp q p s * F).on w) (ok : s.Ok) :
    Calls Try.prog 30 #[.pointer (some ⟨q, 0, Option.none⟩)] w (RecQ s w) := by
  have hur := Try.underlying35
  have hu8 := Try.underlying33
  have hz := rc_hz
  obtain ⟨iv, h⟩ := Kp.open h
  obtain ⟨ai, ci, rfl, _, _, _, _⟩ := own_value h.right
  have hq := on_blk_mul h
  have hib := own_bytes h.right
  have h1 := ((on_all w).alloc (.cells (recCells zeroS nilV) 35)).alloc (.cells (recCells zeroS nilV) 35)
  have s1 := (((Str.refl w).alloc (.cells (recCells zeroS nilV) 35)).alloc (.cells (recCells zeroS nilV) 35))
  simp only [World.size_alloc] at h1
  have gN := on_blk_mul h1
  have h2 := h1.setRow (recCells s (.slice ai s.init.length ci))
  have H2 := hide h2
  have S2 := hide (s1.setRow (w.heap.size + 1) (recCells s (.slice ai s.init.length ci)))
  have HB2 := hide (all_below h2.right.right S2.out)
  have Hib := hide hib
  have hpart := kp_part p s (.slice ai s.init.length ci) (((w.alloc (.cells (recCells zeroS nilV) 35)).alloc (.cells (recCells zeroS nilV) 35))) q _ (by
    have hb : Below w.heap.size w ((w.alloc (.cells (recCells zeroS nilV) 35)).alloc (.cells (recCells zeroS nilV) 35)) := all_below h1.right.right s1
    exact (hb.block q (Array.getElem?_eq_some_iff.1 hq).1).trans hq)
  have hpart0 := kp_part p s (.slice ai s.init.length ci) ((w.alloc (.cells (recCells zeroS nilV) 35))) q _ (by
    have hb : Below w.heap.size w (w.alloc (.cells (recCells zeroS nilV) 35)) := all_below ((on_all w).alloc _).right ((Str.refl w).alloc _)
    exact (hb.block q (Array.getElem?_eq_some_iff.1 hq).1).trans hq)
  have HsR := hide (rc_info s (.slice ai s.init.length ci))
  have HoR := hide (rc_one (s := s) (iv := .slice ai s.init.length ci) ⟨_, _, _, rfl⟩)
  have Hok := hide ok
  have hlt := (Array.getElem?_eq_some_iff.1 hq).1
  clear h h1 s1 h2 hib hq ok
  go_enter Try.func30, Try.ntmps30
  have hstop : ∀ p : Prop, Hid p → p := fun _ h => h.out
  go_wp2_with (first
    | (refine wpList_load_part rfl _ _ rfl q 2 rfl (recCells s (.slice ai s.init.length ci)) _ hpart0 hur rfl HsR.out ?_)
    | (refine wpList_load_part rfl _ _ rfl q 2 rfl (recCells s (.slice ai s.init.length ci)) _ hpart hur rfl HsR.out ?_)
    | (refine wpList_store_row rfl _ _ _ rfl (w.heap.size + 1) (recCells s (.slice ai s.init.length ci)) rfl rfl _ _ gN HsR.out rfl HoR.out ?_; refine hstop _ ?_))
  refine hide ?_
  clear hstop hpart hpart0 gN
  generalize ((w.alloc (.cells (recCells zeroS nilV) 35)).alloc (.cells (recCells zeroS nilV) 35)).setRow (w.heap.size + 1) (recCells s (.slice ai s.init.length ci)) = w2 at *
  have c6 := cell_of_row w2 (w.heap.size + 1) 6 _ _ _ (on_blk_mul H2.out)
  have Hib2 := hide (Hib.out.below HB2.out)
  have hstop : ∀ p : Prop, Hid p → p := fun _ h => h.out
  go_wp2_with (at_builtin; refine wpList_append_bytes (F := all w2) rfl _ _ 33 rfl 5 hu8 infoByte _ [] s.init rfl (own_nil _ _ (on_all w2)) _ rfl Hib2.out (by have := Hok.out.init; simp; omega) ?_; intro v2 w3 ho2 hs2; rw [List.nil_append] at ho2; obtain ⟨oa2, oc2, rfl, _, _, _, _⟩ := own_value ho2; have h3 := on_all_to ho2 H2.out; rw [SP.mul_left_comm] at h3; have H3 := hide h3; have S3 := hide (S2.out.trans hs2); have c6b := cell_of_row w3 (w.heap.size + 1) 6 _ _ _ (on_blk_mul h3); have fr := frozen_of_row w3 (w.heap.size + 1) 6 _ _ (on_blk_mul h3); have h7 := h3.setCell (i := 6) (.slice oa2 s.init.length oc2); rw [rc_init] at h7; have H7 := hide h7; have S7 := hide (S3.out.setCell ⟨w.heap.size + 1, 6, Option.none⟩ (.slice oa2 s.init.length oc2)); have g7 := on_blk_mul h7; have gZ := on_blk_mul h7.right.right; have HsR2 := hide (rc_info s (.slice oa2 s.init.length oc2)); have HoR2 := hide (rc_one (s := s) (iv := .slice oa2 s.init.length oc2) ⟨_, _, _, rfl⟩); clear h3 h7 ho2 hs2; refine hstop _ ?_)
  refine hide ?_
  have H8 := hide (show (ownR (.slice oa2 s.init.length oc2) s.init * all w).on _ from by
    have h9 := H7.out.right
    rw [SP.mul_left_comm] at h9
    exact (h9.setRow (recCells s (.slice oa2 s.init.length oc2))).right)
  have S8 := hide (S7.out.setRow w.heap.size (recCells s (.slice oa2 s.init.length oc2)))
  clear hstop H3 S3 H7 S7 c6 H2 S2
  go_wp2_with (first
    | (refine wpList_load_row rfl _ _ rfl (w.heap.size + 1) rfl _ (recCells s (.slice oa2 s.init.length oc2)) _ _ g7 hur rfl HsR2.out ?_)
    | (refine wpList_store_row rfl _ _ _ rfl w.heap.size (recCells s (.slice oa2 s.init.length oc2)) rfl rfl _ _ gZ HsR2.out rfl HoR2.out ?_))
  refine bodyPost_ret (v := .agg (recCells s (.slice oa2 s.init.length oc2))) (results_cell_row Try.results30 _ _ w.heap.size _ (recCells s (.slice oa2 s.init.length oc2)) (0, 0) _ rfl (setRow_heap_same _ _ _ _ _ _ gZ) hur rfl HsR2.out) rfl ?_
  exact ⟨_, rfl, H8.out, S8.out⟩
end Go.Proofs.Ytjmgnfpcieofkaa

/- transfer: what a keeper keeps. -/
namespace Go.Proofs.Ytjmgnfpcieofkaa
open Go.ChangeShapes Go.WideShapes Go.ChangeAt Go.RowKit
set_option linter.unusedVariables false
set_option linter.unusedSimpArgs false

/-- the packet, and how much, that a record tells of -/
def RecS.got (s : RecS) : List UInt8 × Nat := if s.phase = 1 then (s.init, s.done) else ([], 0)
def KLoad (s : RecS) (w : World) (e : Ending) (w' : World) : Prop := ∃ v, e = .returned (.tuple #[v, .int .i64 (s.got.2 : Nat)]) ∧ (ownR v s.got.1 * all w).on w' ∧ Str w w'

set_option maxRecDepth 100000 in
set_option maxHeartbeats 16000000 in
theorem kload_any (q p : Nat) (s : RecS) (F : SP) (w : World) (h : (Kp q p s * F).on w) (ok : s.Ok) :
    Calls Try.prog 32 #[.pointer (some ⟨q, 0, Option.none⟩)] w (KLoad s w) := by
  have hur := Try.underlying35
  have hu32 := Try.underlying32
  have hui := Try.underlying3
  have hz := rc_hz
  have hR := krecord_any q p s F w h ok
  have hgot : s.got = if s.phase = 1 then (s.init, s.done) else ([], 0) := rfl
  have Hgot := hide hgot
  have Hok := hide ok
  have hdn := ok.done
  clear h ok hgot
  go_enter Try.func32, Try.ntmps32
  go_wp2_with fail
  refine hR.mono ?_
  clear hR
  rintro e w1 ⟨iv, rfl, ho, hs⟩
  have HoR := hide (rc_one (s := s) (iv := iv) (own_slice ho))
  have HsR := hide (rc_info s iv)
  obtain ⟨oa, oc, rfl, _, _, _, _⟩ := own_value ho
  have h1 := ho.alloc (.cells (recCells zeroS nilV) 35)
  have gN := on_blk_mul h1
  have h2 := h1.setRow (recCells s (.slice oa s.init.length oc))
  have H2 := hide h2
  have S2 := hide ((hs.alloc (.cells (recCells zeroS nilV) 35)).setRow w1.heap.size (recCells s (.slice oa s.init.length oc)))
  clear ho hs h1 h2
  have hstop : ∀ p : Prop, Hid p → p := fun _ h => h.out
  go_wp2_with (refine wpList_store_row rfl _ _ _ rfl w1.heap.size (recCells s (.slice oa s.init.length oc)) rfl rfl _ _ gN HsR.out rfl HoR.out ?_; refine hstop _ ?_)
  refine hide ?_
  clear hstop gN
  generalize (w1.alloc (.cells (recCells zeroS nilV) 35)).setRow w1.heap.size (recCells s (.slice oa s.init.length oc)) = w2 at *
  generalize w1.heap.size = g at *
  have c4 : w2.cell? ⟨g, 4, Option.none⟩ = some (vb s.phase) := cell_of_row w2 g 4 _ _ _ (on_blk_mul H2.out)
  by_cases hp : s.phase = 1
  · have hg : s.got = (s.init, s.done) := by rw [Hgot.out, if_pos hp]
    have Hg := hide hg
    have e1 : (((s.phase.toNat : Nat) : Int) != 1) = false := by rw [hp]; rfl
    clear hg hp
    go_wp2_with fail
    refine wp_region_vs [isV (.pointer (some ⟨g, 6, Option.none⟩)), isV (.slice oa s.init.length oc), isV (.pointer (some ⟨g, 5, Option.none⟩)), isV (u32v s.done), isV (.int .i64 (s.done : Int)), isV (.slice oa s.init.length oc), isV (.int .i64 (s.done : Int))]
      (by kernel_rfl) (by kernel_rfl) rfl ?keep ?todo ?rest
    case keep => exact ⟨Keep.isV _, Keep.isV _, Keep.isV _, Keep.isV _, Keep.isV _, Keep.isV _, Keep.isV _, trivial⟩
    case todo =>
      refine ⟨?_, ?_, ?_, ?_, ?_, ?_, ?_, trivial⟩
      · intro ev X hT hb hk hf
        have e0 : ev (.tmp 4) = .pointer (some ⟨g, 0, Option.none⟩) := hk.1
        exact OpOk.run (v := .pointer (some ⟨g, 6, Option.none⟩)) (W' := X) (by simp [execOp, e0, hur, go_sem]) ⟨rfl, Stay.refl _⟩
      · intro ev X hT hb hk hf
        have e0 : ev (.tmp 10) = .pointer (some ⟨g, 6, Option.none⟩) := hf.1
        have cW : X.cell? ⟨g, 6, Option.none⟩ = some (.slice oa s.init.length oc) := cell_of_row X g 6 _ _ _ (on_blk_mul (H2.out.below hT))
        exact OpOk.run (v := .slice oa s.init.length oc) (W' := X) (by simp [execOp, e0, cW, go_sem]) ⟨rfl, Stay.refl _⟩
      · intro ev X hT hb hk hf
        have e0 : ev (.tmp 4) = .pointer (some ⟨g, 0, Option.none⟩) := hk.1
        exact OpOk.run (v := .pointer (some ⟨g, 5, Option.none⟩)) (W' := X) (by simp [execOp, e0, hur, go_sem]) ⟨rfl, Stay.refl _⟩
      · intro ev X hT hb hk hf
        have e0 : ev (.tmp 12) = .pointer (some ⟨g, 5, Option.none⟩) := hf.1
        have cW : X.cell? ⟨g, 5, Option.none⟩ = some (u32v s.done) := cell_of_row X g 5 _ _ _ (on_blk_mul (H2.out.below hT))
        exact OpOk.run (v := u32v s.done) (W' := X) (by simp [execOp, e0, cW, go_sem]) ⟨rfl, Stay.refl _⟩
      · intro ev X hT hb hk hf
        have e0 : ev (.tmp 13) = u32v s.done := hf.1
        have s9 : IntKind.i64.wrap (s.done : Int) = (s.done : Int) := IntWalk.i64_in _ (by omega)
        exact OpOk.run (v := .int .i64 (s.done : Int)) (W' := X) (by simp [execOp, e0, hb.1, hui, hu32, s9, go_sem]) ⟨rfl, Stay.refl _⟩
      · intro ev X hT hb hk hf
        have e0 : ev (.tmp 11) = .slice oa s.init.length oc := hf.1
        exact OpOk.assign rfl e0 ⟨rfl, Stay.refl _⟩
      · intro ev X hT hb hk hf
        have e0 : ev (.tmp 14) = .int .i64 (s.done : Int) := hf.1
        exact OpOk.assign rfl e0 ⟨rfl, Stay.refl _⟩
    case rest =>
      intro X hX
      rintro _ - _ - _ - _ - _ - _ rfl _ rfl
      have HX := hide (H2.out.below hX)
      have SX := hide (S2.out.trans (Str.below hX))
      clear hX H2 S2 c4
      go_wp2
      refine Rest.done ?_
      go_wp2_with fail
      go_ret2
      unfold KLoad
      rw [Hg.out]
      exact ⟨_, rfl, HX.out.right, SX.out⟩
  · have hg : s.got = ([], 0) := by rw [Hgot.out, if_neg hp]
    have Hg := hide hg
    have e1 : (((s.phase.toNat : Nat) : Int) != 1) = true := by
      have : s.phase.toNat ≠ 1 := fun h => hp (UInt8.toNat_inj.1 h)
      simp; omega
    clear hg hp
    go_wp2_with fail
    go_ret2
    unfold KLoad
    rw [Hg.out]
    exact ⟨nilV, rfl, own_nil _ _ H2.out.right.right, S2.out⟩
end Go.Proofs.Ytjmgnfpcieofkaa
