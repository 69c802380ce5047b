/- opcode: the document's own Parse. -/
import Derived.Test.YtdieaegajahdpaaOpcOpen
namespace Go.Proofs.Ytdieaegajahdpaa
open Go.ChangeShapes Go.WideShapes Go.ChangeAt Go.RowKit
set_option linter.unusedVariables false
set_option linter.unusedSimpArgs false

def RReqEnd (b : List UInt8) (w : World) (e : Ending) (w' : World) : Prop := ∃ dv, e = .returned (.tuple #[.agg (reqCells (reqGot b) dv), .int .i64 (reqErr b : Nat)]) ∧ (ownR dv (reqGot b).data * all w).on w' ∧ Str w w'
theorem RReqEnd.err {b : List UInt8} {w w' : World} {z : Nat} (he : reqErr b = z) (hg : reqGot b = zeroQ) (hb : Below w.heap.size w w') (z' : Int) (hz' : z' = (z : Nat)) : RReqEnd b w (.returned (.tuple #[.agg zq, .int .i64 z'])) w' := ReqEnd.err he hg hb z' hz'
abbrev row0 (c : UInt8) : Array Value := #[vb c, .int .u8 0, .int .u32 0, nilV]
theorem reqGot_err {b : List UInt8} (h : reqErr b ≠ 0) : reqGot b = zeroQ := by
  cases b with
  | nil => rfl
  | cons c t =>
    simp only [reqErr, reqGot] at h ⊢
    cases hf : formOf c with
    | none => rfl
    | some f => rw [hf] at h; exact if_neg h
theorem formOf_none {c : UInt8} (h : ¬(c = 0 ∨ c = 3 ∨ c = 4 ∨ c = 7 ∨ c = 12 ∨ c = 1 ∨ c = 2 ∨ c = 6 ∨ c = 9 ∨ c = 8)) : formOf c = Option.none := by
  unfold formOf
  rw [Option.map_eq_none_iff, List.find?_eq_none]
  intro p hp he
  rw [beq_iff_eq] at he
  apply h
  have ht : ∀ n : Nat, n = c.toNat → n < 256 → c = UInt8.ofNat n := fun n e _ => by rw [e]; simp
  simp only [formsL, List.mem_cons, List.not_mem_nil, or_false] at hp
  rcases hp with rfl | rfl | rfl | rfl | rfl | rfl | rfl | rfl | rfl | rfl
  all_goals
    have := ht _ he (by decide)
    subst this
    decide
theorem ne8 (c : UInt8) (n : Nat) (hn : n < 256) (h : c ≠ UInt8.ofNat n) : (((c.toNat : Nat) : Int) == (n : Int)) = false := by
  rw [beq_eq_false_iff_ne]
  intro e
  apply h
  have : c.toNat = n := by omega
  rw [← this]; simp
theorem row0_size (c : UInt8) (_ : Unit) : zq.size = (row0 c).size := (show zq.size = 4 from rfl).trans (show (row0 c).size = 4 from rfl).symm
theorem row0_one (c : UInt8) : (row0 c).all (·.oneCell') = true := by simp [Value.oneCell', vb]
abbrev rowN (c x : UInt8) (n : Nat) : Array Value := reqCells ⟨c, x, n, []⟩ nilV
theorem rowN_size (c x : UInt8) (n : Nat) : zq.size = (rowN c x n).size := zq_size _ _
theorem rowN_one (c x : UInt8) (n : Nat) : (rowN c x n).all (·.oneCell') = true := req_one _ _ _ _
abbrev rowT (c x : UInt8) : Array Value := #[vb c, vb x, .int .u32 0, nilV]
theorem rowT_size (c x : UInt8) : zq.size = (rowT c x).size := (show zq.size = 4 from rfl).trans (show (rowT c x).size = 4 from rfl).symm
theorem rowT_one (c x : UInt8) : (rowT c x).all (·.oneCell') = true := by simp [Value.oneCell', vb]
theorem rowT_eq (c x : UInt8) : rowT c x = reqCells ⟨c, x, 0, []⟩ nilV := by simp [rowT, reqCells]
theorem row0_eq (c : UInt8) : row0 c = reqCells ⟨c, 0, 0, []⟩ nilV := by simp [row0, reqCells, vb]
theorem row0_rowN (c : UInt8) : row0 c = rowN c 0 0 := by simp [row0, rowN, reqCells, vb]
/-- what a request with no bytes behind it gives -/
theorem RReqEnd.plain {b : List UInt8} {w w' : World} {c ty : UInt8} {n : Nat} (he : reqErr b = 0) (hg : reqGot b = ⟨c, ty, n, []⟩) (hb : (all w).on w') (hs : Str w w') : RReqEnd b w (.returned (.tuple #[.agg (reqCells ⟨c, ty, n, []⟩ nilV), .int .i64 0])) w' := by
  refine ⟨nilV, ?_, ?_, hs⟩
  · rw [he, hg]; rfl
  · rw [hg]
    exact own_nil _ _ hb

set_option maxRecDepth 100000 in
set_option maxHeartbeats 16000000 in
theorem rrparse_any (v : Value) (b : List UInt8) (w : World) (h : IsBytes w v b) (hlen : b.length ≤ 1000000) :
    Calls Try.prog 20 #[v] w (RReqEnd b w) := by
  have huq := Try.underlying49
  have hsq : (Try.prog.info? 49).map (·.size) = some 4 := by kernel_rfl
  have hr0 := heap_alloc_new w (.cells zq 49)
  have hu := Try.underlying23
  cases b with
  | nil =>
    have HE := hide (show reqErr [] = 18 from rfl)
    obtain ⟨a, cap, rfl, hc, hm, hla, hn⟩ := h
    clear hla hn hu
    go_enter Try.func20, Try.ntmps20
    go_wp2_with (refine wpList_store_row rfl _ _ _ rfl w.heap.size zq rfl rfl _ _ hr0 hsq rfl zq_one ?_)
    refine bodyPost_ret (v := .tuple #[.agg zq, .int .i64 18]) (results_cell_row_tmp Try.results20 _ _ w.heap.size _ zq (0, 0) _ rfl (setRow_heap_same _ _ _ _ _ _ hr0) huq rfl hsq (.int .i64 18) rfl) rfl ?_
    exact RReqEnd.err HE.out rfl (below_setRow alloc1 (Nat.le_refl _) _) 18 rfl
  | cons c t =>
    have Hb := hide h
    obtain ⟨a, cap, rfl, hc, hm, hla, hn⟩ := h
    obtain ⟨bg, bo, rfl⟩ := Lay.isAddr hla 0 (by simp)
    have c0 := Lay.cell hla 0 (vbs_get _ 0 (by simp))
    simp only [List.getElem_cons_zero, Nat.add_zero] at c0
    have elen : (c :: t).length = t.length + 1 := rfl
    rw [elen] at Hb hc hlen ⊢
    have hr1 := heap_alloc2_new w (.cells zq 49) (.cells zq 49)
    have h3 := (((on_all w).alloc (.cells zq 49)).alloc (.cells zq 49))
    rw [World.size_alloc] at h3
    have h3 := h3.setRow (row0 c)
    have hs3 := (((Str.refl w).alloc (.cells zq 49)).alloc (.cells zq 49)).setRow (w.heap.size + 1) (row0 c)
    have c0' : ((w.alloc (.cells zq 49)).alloc (.cells zq 49)).cell? ⟨bg, bo, Option.none⟩ = some (vb c) := ((Below.trans alloc1 ((alloc1 (o := .cells zq 49)).mono (by simp))).cell (p := ⟨bg, bo, Option.none⟩) (World.block_lt_of_cell? w _ c0)).trans c0
    have c0'' : (w.alloc (.cells zq 49)).cell? ⟨bg, bo, Option.none⟩ = some (vb c) := (alloc1.cell (p := ⟨bg, bo, Option.none⟩) (World.block_lt_of_cell? w _ c0)).trans c0
    generalize hW3 : ((w.alloc (.cells zq 49)).alloc (.cells zq 49)).setRow (w.heap.size + 1) (row0 c) = w3 at *
    have HW3 := hide hW3
    have H3 := hide h3
    have Hs3 := hide hs3
    have hb3 := all_below h3.right.right hs3
    have HB3 := hide hb3
    have c03 : w3.cell? ⟨bg, bo, Option.none⟩ = some (vb c) := (hb3.cell (p := ⟨bg, bo, Option.none⟩) (World.block_lt_of_cell? w _ c0)).trans c0
    have hz2 := on_blk_mul h3.right
    have Hla := hide hla
    unfold maxLen at hm
    clear hla hn hW3 h3 hs3 hb3 c0 elen
    by_cases hin : c = 0 ∨ c = 3 ∨ c = 4 ∨ c = 7 ∨ c = 12 ∨ c = 1 ∨ c = 2 ∨ c = 6 ∨ c = 9 ∨ c = 8
    · rcases hin with rfl | rfl | rfl | rfl | rfl | rfl | rfl | rfl | rfl | rfl
      · have hf : formOf 0 = some ⟨0, 0, 0, 0⟩ := rfl
        have c0n : ((w.alloc (.cells zq 49)).alloc (.cells zq 49)).cell? ⟨bg, bo, Option.none⟩ = some (Value.int .u8 0) := c0'
        have c0m : (w.alloc (.cells zq 49)).cell? ⟨bg, bo, Option.none⟩ = some (Value.int .u8 0) := c0''
        have c0k : w3.cell? ⟨bg, bo, Option.none⟩ = some (Value.int .u8 0) := c03
        clear c0' c0'' c03 c0n
        have hne : (((t.length + 1 : Nat) : Int) == 0) = false := by rw [beq_eq_false_iff_ne]; omega
        rcases (show 0 < t.length ∨ t.length ≤ 0 by omega) with hl | hl
        · have HE := hide (show reqErr (0 :: t) = 17 by simp only [reqErr, hf, lenErr]; rw [if_neg (by omega), if_pos (by omega)])
          have HG := hide (reqGot_err (b := 0 :: t) (by rw [HE.out]; decide))
          clear hf
          go_enter Try.func20, Try.ntmps20
          go_wp2_with (first
            | (refine wpList_store_row rfl _ _ _ rfl (w.heap.size + 1) (row0 0) rfl rfl _ _ hr1 hsq (row0_size _ ()) (row0_one _) ?_; rw [HW3.out])
            | (refine wpList_store_row rfl _ _ _ rfl w.heap.size zq rfl rfl _ _ hz2 hsq rfl zq_one ?_))
          refine bodyPost_ret (v := .tuple #[.agg zq, .int .i64 17]) (results_cell_row_tmp Try.results20 _ _ w.heap.size _ zq (0, 0) _ rfl (setRow_heap_same _ _ _ _ _ _ hz2) huq rfl hsq (.int .i64 17) rfl) rfl ?_
          exact RReqEnd.err HE.out HG.out (below_setRow HB3.out (Nat.le_refl _) _) 17 rfl
        · obtain rfl : t = [] := List.length_eq_zero_iff.1 (by omega)
          have HE := hide (show reqErr [0] = 0 by simp [reqErr, hf, lenErr])
          have HG := hide (show reqGot [0] = ⟨0, 0, 0, []⟩ by simp [reqGot, hf, lenErr, parsed, numS])
          have h4 := on_blk_mul H3.out
          clear hf
          go_enter Try.func20, Try.ntmps20
          go_wp2_with (first
            | (refine wpList_store_row rfl _ _ _ rfl (w.heap.size + 1) (row0 0) rfl rfl _ _ hr1 hsq (row0_size _ ()) (row0_one _) ?_; rw [HW3.out])
            | (refine wpList_load_row rfl _ _ rfl (w.heap.size + 1) rfl _ (row0 0) _ _ h4 huq rfl hsq ?_)
            | (refine wpList_store_row rfl _ _ _ rfl w.heap.size (row0 0) rfl rfl _ _ hz2 hsq (row0_size _ ()) (row0_one _) ?_))
          refine bodyPost_ret (v := .tuple #[.agg (row0 0), .int .i64 0]) (results_cell_row_tmp Try.results20 _ _ w.heap.size _ (row0 0) (0, 0) _ rfl (setRow_heap_same _ _ _ _ _ _ hz2) huq rfl hsq (.int .i64 0) rfl) rfl ?_
          rw [row0_eq]
          exact RReqEnd.plain HE.out HG.out (H3.out.right.setRow _).right (Hs3.out.setRow _ _)
      · have hf : formOf 3 = some ⟨0, 0, 0, 0⟩ := rfl
        have c0n : ((w.alloc (.cells zq 49)).alloc (.cells zq 49)).cell? ⟨bg, bo, Option.none⟩ = some (Value.int .u8 3) := c0'
        have c0m : (w.alloc (.cells zq 49)).cell? ⟨bg, bo, Option.none⟩ = some (Value.int .u8 3) := c0''
        have c0k : w3.cell? ⟨bg, bo, Option.none⟩ = some (Value.int .u8 3) := c03
        clear c0' c0'' c03 c0n
        have hne : (((t.length + 1 : Nat) : Int) == 0) = false := by rw [beq_eq_false_iff_ne]; omega
        rcases (show 0 < t.length ∨ t.length ≤ 0 by omega) with hl | hl
        · have HE := hide (show reqErr (3 :: t) = 17 by simp only [reqErr, hf, lenErr]; rw [if_neg (by omega), if_pos (by omega)])
          have HG := hide (reqGot_err (b := 3 :: t) (by rw [HE.out]; decide))
          clear hf
          go_enter Try.func20, Try.ntmps20
          go_wp2_with (first
            | (refine wpList_store_row rfl _ _ _ rfl (w.heap.size + 1) (row0 3) rfl rfl _ _ hr1 hsq (row0_size _ ()) (row0_one _) ?_; rw [HW3.out])
            | (refine wpList_store_row rfl _ _ _ rfl w.heap.size zq rfl rfl _ _ hz2 hsq rfl zq_one ?_))
          refine bodyPost_ret (v := .tuple #[.agg zq, .int .i64 17]) (results_cell_row_tmp Try.results20 _ _ w.heap.size _ zq (0, 0) _ rfl (setRow_heap_same _ _ _ _ _ _ hz2) huq rfl hsq (.int .i64 17) rfl) rfl ?_
          exact RReqEnd.err HE.out HG.out (below_setRow HB3.out (Nat.le_refl _) _) 17 rfl
        · obtain rfl : t = [] := List.length_eq_zero_iff.1 (by omega)
          have HE := hide (show reqErr [3] = 0 by simp [reqErr, hf, lenErr])
          have HG := hide (show reqGot [3] = ⟨3, 0, 0, []⟩ by simp [reqGot, hf, lenErr, parsed, numS])
          have h4 := on_blk_mul H3.out
          clear hf
          go_enter Try.func20, Try.ntmps20
          go_wp2_with (first
            | (refine wpList_store_row rfl _ _ _ rfl (w.heap.size + 1) (row0 3) rfl rfl _ _ hr1 hsq (row0_size _ ()) (row0_one _) ?_; rw [HW3.out])
            | (refine wpList_load_row rfl _ _ rfl (w.heap.size + 1) rfl _ (row0 3) _ _ h4 huq rfl hsq ?_)
            | (refine wpList_store_row rfl _ _ _ rfl w.heap.size (row0 3) rfl rfl _ _ hz2 hsq (row0_size _ ()) (row0_one _) ?_))
          refine bodyPost_ret (v := .tuple #[.agg (row0 3), .int .i64 0]) (results_cell_row_tmp Try.results20 _ _ w.heap.size _ (row0 3) (0, 0) _ rfl (setRow_heap_same _ _ _ _ _ _ hz2) huq rfl hsq (.int .i64 0) rfl) rfl ?_
          rw [row0_eq]
          exact RReqEnd.plain HE.out HG.out (H3.out.right.setRow _).right (Hs3.out.setRow _ _)
      · have hf : formOf 4 = some ⟨0, 0, 0, 0⟩ := rfl
        have c0n : ((w.alloc (.cells zq 49)).alloc (.cells zq 49)).cell? ⟨bg, bo, Option.none⟩ = some (Value.int .u8 4) := c0'
        have c0m : (w.alloc (.cells zq 49)).cell? ⟨bg, bo, Option.none⟩ = some (Value.int .u8 4) := c0''
        have c0k : w3.cell? ⟨bg, bo, Option.none⟩ = some (Value.int .u8 4) := c03
        clear c0' c0'' c03 c0n
        have hne : (((t.length + 1 : Nat) : Int) == 0) = false := by rw [beq_eq_false_iff_ne]; omega
        rcases (show 0 < t.length ∨ t.length ≤ 0 by omega) with hl | hl
        · have HE := hide (show reqErr (4 :: t) = 17 by simp only [reqErr, hf, lenErr]; rw [if_neg (by omega), if_pos (by omega)])
          have HG := hide (reqGot_err (b := 4 :: t) (by rw [HE.out]; decide))
          clear hf
          go_enter Try.func20, Try.ntmps20
          go_wp2_with (first
            | (refine wpList_store_row rfl _ _ _ rfl (w.heap.size + 1) (row0 4) rfl rfl _ _ hr1 hsq (row0_size _ ()) (row0_one _) ?_; rw [HW3.out])
            | (refine wpList_store_row rfl _ _ _ rfl w.heap.size zq rfl rfl _ _ hz2 hsq rfl zq_one ?_))
          refine bodyPost_ret (v := .tuple #[.agg zq, .int .i64 17]) (results_cell_row_tmp Try.results20 _ _ w.heap.size _ zq (0, 0) _ rfl (setRow_heap_same _ _ _ _ _ _ hz2) huq rfl hsq (.int .i64 17) rfl) rfl ?_
          exact RReqEnd.err HE.out HG.out (below_setRow HB3.out (Nat.le_refl _) _) 17 rfl
        · obtain rfl : t = [] := List.length_eq_zero_iff.1 (by omega)
          have HE := hide (show reqErr [4] = 0 by simp [reqErr, hf, lenErr])
          have HG := hide (show reqGot [4] = ⟨4, 0, 0, []⟩ by simp [reqGot, hf, lenErr, parsed, numS])
          have h4 := on_blk_mul H3.out
          clear hf
          go_enter Try.func20, Try.ntmps20
          go_wp2_with (first
            | (refine wpList_store_row rfl _ _ _ rfl (w.heap.size + 1) (row0 4) rfl rfl _ _ hr1 hsq (row0_size _ ()) (row0_one _) ?_; rw [HW3.out])
            | (refine wpList_load_row rfl _ _ rfl (w.heap.size + 1) rfl _ (row0 4) _ _ h4 huq rfl hsq ?_)
            | (refine wpList_store_row rfl _ _ _ rfl w.heap.size (row0 4) rfl rfl _ _ hz2 hsq (row0_size _ ()) (row0_one _) ?_))
          refine bodyPost_ret (v := .tuple #[.agg (row0 4), .int .i64 0]) (results_cell_row_tmp Try.results20 _ _ w.heap.size _ (row0 4) (0, 0) _ rfl (setRow_heap_same _ _ _ _ _ _ hz2) huq rfl hsq (.int .i64 0) rfl) rfl ?_
          rw [row0_eq]
          exact RReqEnd.plain HE.out HG.out (H3.out.right.setRow _).right (Hs3.out.setRow _ _)
      · have hf : formOf 7 = some ⟨0, 0, 0, 0⟩ := rfl
        have c0n : ((w.alloc (.cells zq 49)).alloc (.cells zq 49)).cell? ⟨bg, bo, Option.none⟩ = some (Value.int .u8 7) := c0'
        have c0m : (w.alloc (.cells zq 49)).cell? ⟨bg, bo, Option.none⟩ = some (Value.int .u8 7) := c0''
        have c0k : w3.cell? ⟨bg, bo, Option.none⟩ = some (Value.int .u8 7) := c03
        clear c0' c0'' c03 c0n
        have hne : (((t.length + 1 : Nat) : Int) == 0) = false := by rw [beq_eq_false_iff_ne]; omega
        rcases (show 0 < t.length ∨ t.length ≤ 0 by omega) with hl | hl
        · have HE := hide (show reqErr (7 :: t) = 17 by simp only [reqErr, hf, lenErr]; rw [if_neg (by omega), if_pos (by omega)])
          have HG := hide (reqGot_err (b := 7 :: t) (by rw [HE.out]; decide))
          clear hf
          go_enter Try.func20, Try.ntmps20
          go_wp2_with (first
            | (refine wpList_store_row rfl _ _ _ rfl (w.heap.size + 1) (row0 7) rfl rfl _ _ hr1 hsq (row0_size _ ()) (row0_one _) ?_; rw [HW3.out])
            | (refine wpList_store_row rfl _ _ _ rfl w.heap.size zq rfl rfl _ _ hz2 hsq rfl zq_one ?_))
          refine bodyPost_ret (v := .tuple #[.agg zq, .int .i64 17]) (results_cell_row_tmp Try.results20 _ _ w.heap.size _ zq (0, 0) _ rfl (setRow_heap_same _ _ _ _ _ _ hz2) huq rfl hsq (.int .i64 17) rfl) rfl ?_
          exact RReqEnd.err HE.out HG.out (below_setRow HB3.out (Nat.le_refl _) _) 17 rfl
        · obtain rfl : t = [] := List.length_eq_zero_iff.1 (by omega)
          have HE := hide (show reqErr [7] = 0 by simp [reqErr, hf, lenErr])
          have HG := hide (show reqGot [7] = ⟨7, 0, 0, []⟩ by simp [reqGot, hf, lenErr, parsed, numS])
          have h4 := on_blk_mul H3.out
          clear hf
          go_enter Try.func20, Try.ntmps20
          go_wp2_with (first
            | (refine wpList_store_row rfl _ _ _ rfl (w.heap.size + 1) (row0 7) rfl rfl _ _ hr1 hsq (row0_size _ ()) (row0_one _) ?_; rw [HW3.out])
            | (refine wpList_load_row rfl _ _ rfl (w.heap.size + 1) rfl _ (row0 7) _ _ h4 huq rfl hsq ?_)
            | (refine wpList_store_row rfl _ _ _ rfl w.heap.size (row0 7) rfl rfl _ _ hz2 hsq (row0_size _ ()) (row0_one _) ?_))
          refine bodyPost_ret (v := .tuple #[.agg (row0 7), .int .i64 0]) (results_cell_row_tmp Try.results20 _ _ w.heap.size _ (row0 7) (0, 0) _ rfl (setRow_heap_same _ _ _ _ _ _ hz2) huq rfl hsq (.int .i64 0) rfl) rfl ?_
          rw [row0_eq]
          exact RReqEnd.plain HE.out HG.out (H3.out.right.setRow _).right (Hs3.out.setRow _ _)
      · have hf : formOf 12 = some ⟨0, 0, 0, 0⟩ := rfl
        have c0n : ((w.alloc (.cells zq 49)).alloc (.cells zq 49)).cell? ⟨bg, bo, Option.none⟩ = some (Value.int .u8 12) := c0'
        have c0m : (w.alloc (.cells zq 49)).cell? ⟨bg, bo, Option.none⟩ = some (Value.int .u8 12) := c0''
        have c0k : w3.cell? ⟨bg, bo, Option.none⟩ = some (Value.int .u8 12) := c03
        clear c0' c0'' c03 c0n
        have hne : (((t.length + 1 : Nat) : Int) == 0) = false := by rw [beq_eq_false_iff_ne]; omega
        rcases (show 0 < t.length ∨ t.length ≤ 0 by omega) with hl | hl
        · have HE := hide (show reqErr (12 :: t) = 17 by simp only [reqErr, hf, lenErr]; rw [if_neg (by omega), if_pos (by omega)])
          have HG := hide (reqGot_err (b := 12 :: t) (by rw [HE.out]; decide))
          clear hf
          go_enter Try.func20, Try.ntmps20
          go_wp2_with (first
            | (refine wpList_store_row rfl _ _ _ rfl (w.heap.size + 1) (row0 12) rfl rfl _ _ hr1 hsq (row0_size _ ()) (row0_one _) ?_; rw [HW3.out])
            | (refine wpList_store_row rfl _ _ _ rfl w.heap.size zq rfl rfl _ _ hz2 hsq rfl zq_one ?_))
          refine bodyPost_ret (v := .tuple #[.agg zq, .int .i64 17]) (results_cell_row_tmp Try.results20 _ _ w.heap.size _ zq (0, 0) _ rfl (setRow_heap_same _ _ _ _ _ _ hz2) huq rfl hsq (.int .i64 17) rfl) rfl ?_
          exact RReqEnd.err HE.out HG.out (below_setRow HB3.out (Nat.le_refl _) _) 17 rfl
        · obtain rfl : t = [] := List.length_eq_zero_iff.1 (by omega)
          have HE := hide (show reqErr [12] = 0 by simp [reqErr, hf, lenErr])
          have HG := hide (show reqGot [12] = ⟨12, 0, 0, []⟩ by simp [reqGot, hf, lenErr, parsed, numS])
          have h4 := on_blk_mul H3.out
          clear hf
          go_enter Try.func20, Try.ntmps20
          go_wp2_with (first
            | (refine wpList_store_row rfl _ _ _ rfl (w.heap.size + 1) (row0 12) rfl rfl _ _ hr1 hsq (row0_size _ ()) (row0_one _) ?_; rw [HW3.out])
            | (refine wpList_load_row rfl _ _ rfl (w.heap.size + 1) rfl _ (row0 12) _ _ h4 huq rfl hsq ?_)
            | (refine wpList_store_row rfl _ _ _ rfl w.heap.size (row0 12) rfl rfl _ _ hz2 hsq (row0_size _ ()) (row0_one _) ?_))
          refine bodyPost_ret (v := .tuple #[.agg (row0 12), .int .i64 0]) (results_cell_row_tmp Try.results20 _ _ w.heap.size _ (row0 12) (0, 0) _ rfl (setRow_heap_same _ _ _ _ _ _ hz2) huq rfl hsq (.int .i64 0) rfl) rfl ?_
          rw [row0_eq]
          exact RReqEnd.plain HE.out HG.out (H3.out.right.setRow _).right (Hs3.out.setRow _ _)
      · have hf : formOf 1 = some ⟨1, 4, 0, 0⟩ := rfl
        have c0n : ((w.alloc (.cells zq 49)).alloc (.cells zq 49)).cell? ⟨bg, bo, Option.none⟩ = some (Value.int .u8 1) := c0'
        have c0m : (w.alloc (.cells zq 49)).cell? ⟨bg, bo, Option.none⟩ = some (Value.int .u8 1) := c0''
        have c0k : w3.cell? ⟨bg, bo, Option.none⟩ = some (Value.int .u8 1) := c03
        clear c0' c0'' c03 c0n
        have hne : (((t.length + 1 : Nat) : Int) == 0) = false := by rw [beq_eq_false_iff_ne]; omega
        rcases (show t.length < 5 ∨ (5 ≤ t.length ∧ 5 < t.length) ∨ (5 ≤ t.length ∧ t.length ≤ 5) by omega) with hl | ⟨hl, hl2⟩ | ⟨hl, hl2⟩
        · have HE := hide (show reqErr (1 :: t) = 18 by simp only [reqErr, hf, lenErr]; rw [if_pos (by omega)])
          have HG := hide (reqGot_err (b := 1 :: t) (by rw [HE.out]; decide))
          clear hf
          go_enter Try.func20, Try.ntmps20
          go_wp2_with (first
            | (refine wpList_store_row rfl _ _ _ rfl (w.heap.size + 1) (row0 1) rfl rfl _ _ hr1 hsq (row0_size _ ()) (row0_one _) ?_; rw [HW3.out])
            | (refine wpList_store_row rfl _ _ _ rfl w.heap.size zq rfl rfl _ _ hz2 hsq rfl zq_one ?_))
          refine bodyPost_ret (v := .tuple #[.agg zq, .int .i64 18]) (results_cell_row_tmp Try.results20 _ _ w.heap.size _ zq (0, 0) _ rfl (setRow_heap_same _ _ _ _ _ _ hz2) huq rfl hsq (.int .i64 18) rfl) rfl ?_
          exact RReqEnd.err HE.out HG.out (below_setRow HB3.out (Nat.le_refl _) _) 18 rfl
        · have HE := hide (show reqErr (1 :: t) = 17 by simp only [reqErr, hf, lenErr]; rw [if_neg (by omega), if_pos (by omega)])
          have HG := hide (reqGot_err (b := 1 :: t) (by rw [HE.out]; decide))
          clear hf
          go_enter Try.func20, Try.ntmps20
          go_wp2_with (first
            | (refine wpList_store_row rfl _ _ _ rfl (w.heap.size + 1) (row0 1) rfl rfl _ _ hr1 hsq (row0_size _ ()) (row0_one _) ?_; rw [HW3.out])
            | (refine wpList_store_row rfl _ _ _ rfl w.heap.size zq rfl rfl _ _ hz2 hsq rfl zq_one ?_))
          refine bodyPost_ret (v := .tuple #[.agg zq, .int .i64 17]) (results_cell_row_tmp Try.results20 _ _ w.heap.size _ zq (0, 0) _ rfl (setRow_heap_same _ _ _ _ _ _ hz2) huq rfl hsq (.int .i64 17) rfl) rfl ?_
          exact RReqEnd.err HE.out HG.out (below_setRow HB3.out (Nat.le_refl _) _) 17 rfl
        · obtain ⟨x0, x1, x2, x3, x4, rfl⟩ : ∃ x0 x1 x2 x3 x4, t = [x0, x1, x2, x3, x4] := by
            match t, hl, hl2 with
            | [x0, x1, x2, x3, x4], _, _ => exact ⟨_, _, _, _, _, rfl⟩
          have HE := hide (show reqErr (1 :: [x0, x1, x2, x3, x4]) = 0 by simp [reqErr, hf, lenErr])
          have HG := hide (show reqGot (1 :: [x0, x1, x2, x3, x4]) = ⟨1, x0, x1.toNat + 256 * x2.toNat + 65536 * x3.toNat + 16777216 * x4.toNat, []⟩ by simp [reqGot, hf, lenErr, parsed, numS]; omega)
          have h5 := SP.on.setCell (i := 1) H3.out (vb x0)
          have H5 : Hid ((blk (w.heap.size + 1) (.cells (rowN 1 x0 0) 49 (0, 0)) * (blk w.heap.size (.cells zq 49 (0, 0)) * all w)).on (w3.setCell ⟨w.heap.size + 1, 1, Option.none⟩ (vb x0))) := hide h5
          have Hs5 := hide (Hs3.out.setCell ⟨w.heap.size + 1, 1, Option.none⟩ (vb x0))
          have fr := frozen_of_row _ _ 1 _ _ (on_blk_mul H3.out)
          have cc : w3.cell? ⟨w.heap.size + 1, 1, Option.none⟩ = some (Value.int .u8 0) := cell_of_row _ _ 1 _ _ _ (on_blk_mul H3.out)
          have c1 : w3.cell? ⟨bg, bo + 1, Option.none⟩ = some (vb x0) := Lay.cell (Hla.out.below HB3.out) 1 (by simp [vbs])
          clear h5
          have HBW := hide (all_below H5.out.right.right Hs5.out)
          have C2 : Hid (∀ X, Stay (w3.setCell ⟨w.heap.size + 1, 1, Option.none⟩ (vb x0)) X → X.cell? ⟨bg, bo + 2, Option.none⟩ = some (vb x1)) := hide fun X hT => Lay.cell ((Hla.out.below HBW.out).below hT) 2 (by simp [vbs])
          have C3 : Hid (∀ X, Stay (w3.setCell ⟨w.heap.size + 1, 1, Option.none⟩ (vb x0)) X → X.cell? ⟨bg, bo + 3, Option.none⟩ = some (vb x2)) := hide fun X hT => Lay.cell ((Hla.out.below HBW.out).below hT) 3 (by simp [vbs])
          have C4 : Hid (∀ X, Stay (w3.setCell ⟨w.heap.size + 1, 1, Option.none⟩ (vb x0)) X → X.cell? ⟨bg, bo + 4, Option.none⟩ = some (vb x3)) := hide fun X hT => Lay.cell ((Hla.out.below HBW.out).below hT) 4 (by simp [vbs])
          have C5 : Hid (∀ X, Stay (w3.setCell ⟨w.heap.size + 1, 1, Option.none⟩ (vb x0)) X → X.cell? ⟨bg, bo + 5, Option.none⟩ = some (vb x4)) := hide fun X hT => Lay.cell ((Hla.out.below HBW.out).below hT) 5 (by simp [vbs])
          have w0 : IntKind.u32.wrap (x1.toNat : Int) = (x1.toNat : Int) := IntWalk.u32_in _ (by have := UInt8.toNat_lt x1; omega)
          have w1 : IntKind.u32.wrap (x2.toNat : Int) = (x2.toNat : Int) := IntWalk.u32_in _ (by have := UInt8.toNat_lt x2; omega)
          have w2 : IntKind.u32.wrap (x3.toNat : Int) = (x3.toNat : Int) := IntWalk.u32_in _ (by have := UInt8.toNat_lt x3; omega)
          have w3 : IntKind.u32.wrap (x4.toNat : Int) = (x4.toNat : Int) := IntWalk.u32_in _ (by have := UInt8.toNat_lt x4; omega)
          have m1 : IntKind.u32.wrap (256 * (x2.toNat : Int)) = 256 * (x2.toNat : Int) := IntWalk.u32_in _ (by have := UInt8.toNat_lt x1; have := UInt8.toNat_lt x2; have := UInt8.toNat_lt x3; have := UInt8.toNat_lt x4; omega)
          have s1 : IntKind.u32.wrap ((x1.toNat : Int) + 256 * (x2.toNat : Int)) = (x1.toNat : Int) + 256 * (x2.toNat : Int) := IntWalk.u32_in _ (by have := UInt8.toNat_lt x1; have := UInt8.toNat_lt x2; have := UInt8.toNat_lt x3; have := UInt8.toNat_lt x4; omega)
          have m2 : IntKind.u32.wrap (65536 * (x3.toNat : Int)) = 65536 * (x3.toNat : Int) := IntWalk.u32_in _ (by have := UInt8.toNat_lt x1; have := UInt8.toNat_lt x2; have := UInt8.toNat_lt x3; have := UInt8.toNat_lt x4; omega)
          have s2 : IntKind.u32.wrap ((x1.toNat : Int) + 256 * (x2.toNat : Int) + 65536 * (x3.toNat : Int)) = (x1.toNat : Int) + 256 * (x2.toNat : Int) + 65536 * (x3.toNat : Int) := IntWalk.u32_in _ (by have := UInt8.toNat_lt x1; have := UInt8.toNat_lt x2; have := UInt8.toNat_lt x3; have := UInt8.toNat_lt x4; omega)
          have m3 : IntKind.u32.wrap (16777216 * (x4.toNat : Int)) = 16777216 * (x4.toNat : Int) := IntWalk.u32_in _ (by have := UInt8.toNat_lt x1; have := UInt8.toNat_lt x2; have := UInt8.toNat_lt x3; have := UInt8.toNat_lt x4; omega)
          have s3 : IntKind.u32.wrap ((x1.toNat : Int) + 256 * (x2.toNat : Int) + 65536 * (x3.toNat : Int) + 16777216 * (x4.toNat : Int)) = (x1.toNat : Int) + 256 * (x2.toNat : Int) + 65536 * (x3.toNat : Int) + 16777216 * (x4.toNat : Int) := IntWalk.u32_in _ (by have := UInt8.toNat_lt x1; have := UInt8.toNat_lt x2; have := UInt8.toNat_lt x3; have := UInt8.toNat_lt x4; omega)
          have ell : ([x0, x1, x2, x3, x4] : List UInt8).length + 1 = 6 := rfl
          rw [ell]
          clear hf ell
          go_enter Try.func20, Try.ntmps20
          go_wp2_with (first
            | (refine wpList_store_row rfl _ _ _ rfl (w.heap.size + 1) (row0 1) rfl rfl _ _ hr1 hsq (row0_size _ ()) (row0_one _) ?_; rw [HW3.out]))
          refine wp_region_tail 22 [isV (.slice (some ⟨bg, bo, Option.none⟩) 6 cap), isV (.pointer (some ⟨bg, bo + 2, Option.none⟩)), isV (vb x1), isV (u32v x1.toNat), isV (.slice (some ⟨bg, bo, Option.none⟩) 6 cap), isV (.pointer (some ⟨bg, bo + 3, Option.none⟩)), isV (vb x2), isV (u32v x2.toNat), isV (u32v (256 * x2.toNat)), isV (u32v (x1.toNat + 256 * x2.toNat)), isV (.slice (some ⟨bg, bo, Option.none⟩) 6 cap), isV (.pointer (some ⟨bg, bo + 4, Option.none⟩)), isV (vb x3), isV (u32v x3.toNat), isV (u32v (65536 * x3.toNat)), isV (u32v (x1.toNat + 256 * x2.toNat + 65536 * x3.toNat)), isV (.slice (some ⟨bg, bo, Option.none⟩) 6 cap), isV (.pointer (some ⟨bg, bo + 5, Option.none⟩)), isV (vb x4), isV (u32v x4.toNat), isV (u32v (16777216 * x4.toNat)), isV (u32v (x1.toNat + 256 * x2.toNat + 65536 * x3.toNat + 16777216 * x4.toNat))]
            (by simp only [List.take_succ_cons, List.take_zero]; rfl) (by simp only [List.drop_succ_cons, List.drop_zero]; rfl) (by kernel_rfl) (by kernel_rfl) (by kernel_rfl) (by decide) rfl ?keep ?todo ?rest
          case keep => exact ⟨Keep.isV _, Keep.isV _, Keep.isV _, Keep.isV _, Keep.isV _, Keep.isV _, Keep.isV _, Keep.isV _, Keep.isV _, Keep.isV _, Keep.isV _, Keep.isV _, Keep.isV _, Keep.isV _, Keep.isV _, Keep.isV _, Keep.isV _, Keep.isV _, Keep.isV _, Keep.isV _, Keep.isV _, Keep.isV _, trivial⟩
          case todo =>
            refine ⟨?_, ?_, ?_, ?_, ?_, ?_, ?_, ?_, ?_, ?_, ?_, ?_, ?_, ?_, ?_, ?_, ?_, ?_, ?_, ?_, ?_, ?_, trivial⟩
            · intro ev X hT hb hk hf
              have e0 : ev (.tmp 0) = .slice (some ⟨bg, bo, Option.none⟩) 6 cap := hk.1
              exact OpOk.move rfl e0 ⟨rfl, Stay.refl _⟩
            · intro ev X hT hb hk hf
              have e0 : ev (.tmp 53) = .slice (some ⟨bg, bo, Option.none⟩) 6 cap := hf.1
              exact OpOk.run (v := .pointer (some ⟨bg, bo + 2, Option.none⟩)) (W' := X) (by simp [execOp, e0, hb.1, w0, w1, w2, w3, m1, s1, m2, s2, m3, s3, go_sem]) ⟨rfl, Stay.refl _⟩
            · intro ev X hT hb hk hf
              have e0 : ev (.tmp 54) = .pointer (some ⟨bg, bo + 2, Option.none⟩) := hf.1
              have cW := C2.out X hT
              exact OpOk.run (v := vb x1) (W' := X) (by simp [execOp, e0, cW, go_sem]) ⟨rfl, Stay.refl _⟩
            · intro ev X hT hb hk hf
              have e0 : ev (.tmp 55) = vb x1 := hf.1
              exact OpOk.run (v := u32v x1.toNat) (W' := X) (by simp [execOp, e0, hb.1, w0, w1, w2, w3, m1, s1, m2, s2, m3, s3, go_sem]) ⟨rfl, Stay.refl _⟩
            · intro ev X hT hb hk hf
              have e0 : ev (.tmp 0) = .slice (some ⟨bg, bo, Option.none⟩) 6 cap := hk.1
              exact OpOk.move rfl e0 ⟨rfl, Stay.refl _⟩
            · intro ev X hT hb hk hf
              have e0 : ev (.tmp 57) = .slice (some ⟨bg, bo, Option.none⟩) 6 cap := hf.1
              exact OpOk.run (v := .pointer (some ⟨bg, bo + 3, Option.none⟩)) (W' := X) (by simp [execOp, e0, hb.1, w0, w1, w2, w3, m1, s1, m2, s2, m3, s3, go_sem]) ⟨rfl, Stay.refl _⟩
            · intro ev X hT hb hk hf
              have e0 : ev (.tmp 58) = .pointer (some ⟨bg, bo + 3, Option.none⟩) := hf.1
              have cW := C3.out X hT
              exact OpOk.run (v := vb x2) (W' := X) (by simp [execOp, e0, cW, go_sem]) ⟨rfl, Stay.refl _⟩
            · intro ev X hT hb hk hf
              have e0 : ev (.tmp 59) = vb x2 := hf.1
              exact OpOk.run (v := u32v x2.toNat) (W' := X) (by simp [execOp, e0, hb.1, w0, w1, w2, w3, m1, s1, m2, s2, m3, s3, go_sem]) ⟨rfl, Stay.refl _⟩
            · intro ev X hT hb hk hf
              have e0 : ev (.tmp 60) = u32v x2.toNat := hf.1
              exact OpOk.run (v := u32v (256 * x2.toNat)) (W' := X) (by simp [execOp, e0, hb.1, w0, w1, w2, w3, m1, s1, m2, s2, m3, s3, go_sem]) ⟨rfl, Stay.refl _⟩
            · intro ev X hT hb hk hf
              have e0 : ev (.tmp 56) = u32v x1.toNat := hf.1
              have e1 : ev (.tmp 61) = u32v (256 * x2.toNat) := hf.2.1
              exact OpOk.run (v := u32v (x1.toNat + 256 * x2.toNat)) (W' := X) (by simp [execOp, e0, e1, hb.1, w0, w1, w2, w3, m1, s1, m2, s2, m3, s3, go_sem]) ⟨rfl, Stay.refl _⟩
            · intro ev X hT hb hk hf
              have e0 : ev (.tmp 0) = .slice (some ⟨bg, bo, Option.none⟩) 6 cap := hk.1
              exact OpOk.move rfl e0 ⟨rfl, Stay.refl _⟩
            · intro ev X hT hb hk hf
              have e0 : ev (.tmp 63) = .slice (some ⟨bg, bo, Option.none⟩) 6 cap := hf.1
              exact OpOk.run (v := .pointer (some ⟨bg, bo + 4, Option.none⟩)) (W' := X) (by simp [execOp, e0, hb.1, w0, w1, w2, w3, m1, s1, m2, s2, m3, s3, go_sem]) ⟨rfl, Stay.refl _⟩
            · intro ev X hT hb hk hf
              have e0 : ev (.tmp 64) = .pointer (some ⟨bg, bo + 4, Option.none⟩) := hf.1
              have cW := C4.out X hT
              exact OpOk.run (v := vb x3) (W' := X) (by simp [execOp, e0, cW, go_sem]) ⟨rfl, Stay.refl _⟩
            · intro ev X hT hb hk hf
              have e0 : ev (.tmp 65) = vb x3 := hf.1
              exact OpOk.run (v := u32v x3.toNat) (W' := X) (by simp [execOp, e0, hb.1, w0, w1, w2, w3, m1, s1, m2, s2, m3, s3, go_sem]) ⟨rfl, Stay.refl _⟩
            · intro ev X hT hb hk hf
              have e0 : ev (.tmp 66) = u32v x3.toNat := hf.1
              exact OpOk.run (v := u32v (65536 * x3.toNat)) (W' := X) (by simp [execOp, e0, hb.1, w0, w1, w2, w3, m1, s1, m2, s2, m3, s3, go_sem]) ⟨rfl, Stay.refl _⟩
            · intro ev X hT hb hk hf
              have e0 : ev (.tmp 62) = u32v (x1.toNat + 256 * x2.toNat) := hf.1
              have e1 : ev (.tmp 67) = u32v (65536 * x3.toNat) := hf.2.1
              exact OpOk.run (v := u32v (x1.toNat + 256 * x2.toNat + 65536 * x3.toNat)) (W' := X) (by simp [execOp, e0, e1, hb.1, w0, w1, w2, w3, m1, s1, m2, s2, m3, s3, go_sem]) ⟨rfl, Stay.refl _⟩
            · intro ev X hT hb hk hf
              have e0 : ev (.tmp 0) = .slice (some ⟨bg, bo, Option.none⟩) 6 cap := hk.1
              exact OpOk.move rfl e0 ⟨rfl, Stay.refl _⟩
            · intro ev X hT hb hk hf
              have e0 : ev (.tmp 69) = .slice (some ⟨bg, bo, Option.none⟩) 6 cap := hf.1
              exact OpOk.run (v := .pointer (some ⟨bg, bo + 5, Option.none⟩)) (W' := X) (by simp [execOp, e0, hb.1, w0, w1, w2, w3, m1, s1, m2, s2, m3, s3, go_sem]) ⟨rfl, Stay.refl _⟩
            · intro ev X hT hb hk hf
              have e0 : ev (.tmp 70) = .pointer (some ⟨bg, bo + 5, Option.none⟩) := hf.1
              have cW := C5.out X hT
              exact OpOk.run (v := vb x4) (W' := X) (by simp [execOp, e0, cW, go_sem]) ⟨rfl, Stay.refl _⟩
            · intro ev X hT hb hk hf
              have e0 : ev (.tmp 71) = vb x4 := hf.1
              exact OpOk.run (v := u32v x4.toNat) (W' := X) (by simp [execOp, e0, hb.1, w0, w1, w2, w3, m1, s1, m2, s2, m3, s3, go_sem]) ⟨rfl, Stay.refl _⟩
            · intro ev X hT hb hk hf
              have e0 : ev (.tmp 72) = u32v x4.toNat := hf.1
              exact OpOk.run (v := u32v (16777216 * x4.toNat)) (W' := X) (by simp [execOp, e0, hb.1, w0, w1, w2, w3, m1, s1, m2, s2, m3, s3, go_sem]) ⟨rfl, Stay.refl _⟩
            · intro ev X hT hb hk hf
              have e0 : ev (.tmp 68) = u32v (x1.toNat + 256 * x2.toNat + 65536 * x3.toNat) := hf.1
              have e1 : ev (.tmp 73) = u32v (16777216 * x4.toNat) := hf.2.1
              exact OpOk.run (v := u32v (x1.toNat + 256 * x2.toNat + 65536 * x3.toNat + 16777216 * x4.toNat)) (W' := X) (by simp [execOp, e0, e1, hb.1, w0, w1, w2, w3, m1, s1, m2, s2, m3, s3, go_sem]) ⟨rfl, Stay.refl _⟩
          case rest =>
            intro X hT
            rintro _ rfl _ rfl _ rfl _ rfl _ rfl _ rfl _ rfl _ rfl _ rfl _ rfl _ rfl _ rfl _ rfl _ rfl _ rfl _ rfl _ rfl _ rfl _ rfl _ rfl _ rfl _ rfl 
            have hw := H5.out.below hT
            have fr2 := frozen_of_row _ _ 2 _ _ (on_blk_mul hw)
            have cc2 : X.cell? ⟨w.heap.size + 1, 2, Option.none⟩ = some (u32v 0) := cell_of_row _ _ 2 _ _ _ (on_blk_mul hw)
            have h8 := SP.on.setCell (i := 2) hw (u32v (x1.toNat + 256 * x2.toNat + 65536 * x3.toNat + 16777216 * x4.toNat))
            have H8 : Hid ((blk (w.heap.size + 1) (.cells (rowN 1 x0 (x1.toNat + 256 * x2.toNat + 65536 * x3.toNat + 16777216 * x4.toNat)) 49 (0, 0)) * (blk w.heap.size (.cells zq 49 (0, 0)) * all w)).on (X.setCell ⟨w.heap.size + 1, 2, Option.none⟩ (u32v (x1.toNat + 256 * x2.toNat + 65536 * x3.toNat + 16777216 * x4.toNat)))) := hide h8
            have Hs8 := hide ((Hs5.out.trans (Str.below hT)).setCell ⟨w.heap.size + 1, 2, Option.none⟩ (u32v (x1.toNat + 256 * x2.toNat + 65536 * x3.toNat + 16777216 * x4.toNat)))
            have h4 := on_blk_mul H8.out
            have h2 := on_blk_mul H8.out.right
            clear h8 hw hT
            go_wp2
            refine Rest.done ?_
            generalize x1.toNat + 256 * x2.toNat + 65536 * x3.toNat + 16777216 * x4.toNat = nn at *
            go_wp2_with (first
              | (refine wpList_load_row rfl _ _ rfl (w.heap.size + 1) rfl _ (rowN 1 x0 nn) _ _ h4 huq rfl hsq ?_)
              | (refine wpList_store_row rfl _ _ _ rfl w.heap.size (rowN 1 x0 nn) rfl rfl _ _ h2 hsq (rowN_size _ _ _) (rowN_one _ _ _) ?_))
            refine bodyPost_ret (v := .tuple #[.agg (rowN 1 x0 nn), .int .i64 0]) (results_cell_row_tmp Try.results20 _ _ w.heap.size _ (rowN 1 x0 nn) (0, 0) _ rfl (setRow_heap_same _ _ _ _ _ _ h2) huq rfl hsq (.int .i64 0) rfl) rfl ?_
            exact RReqEnd.plain HE.out HG.out (H8.out.right.setRow _).right (Hs8.out.setRow _ _)
      · have hf : formOf 2 = some ⟨0, 2, 0, 0⟩ := rfl
        have c0n : ((w.alloc (.cells zq 49)).alloc (.cells zq 49)).cell? ⟨bg, bo, Option.none⟩ = some (Value.int .u8 2) := c0'
        have c0m : (w.alloc (.cells zq 49)).cell? ⟨bg, bo, Option.none⟩ = some (Value.int .u8 2) := c0''
        have c0k : w3.cell? ⟨bg, bo, Option.none⟩ = some (Value.int .u8 2) := c03
        clear c0' c0'' c03 c0n
        have hne : (((t.length + 1 : Nat) : Int) == 0) = false := by rw [beq_eq_false_iff_ne]; omega
        rcases (show t.length < 2 ∨ (2 ≤ t.length ∧ 2 < t.length) ∨ (2 ≤ t.length ∧ t.length ≤ 2) by omega) with hl | ⟨hl, hl2⟩ | ⟨hl, hl2⟩
        · have HE := hide (show reqErr (2 :: t) = 18 by simp only [reqErr, hf, lenErr]; rw [if_pos (by omega)])
          have HG := hide (reqGot_err (b := 2 :: t) (by rw [HE.out]; decide))
          clear hf
          go_enter Try.func20, Try.ntmps20
          go_wp2_with (first
            | (refine wpList_store_row rfl _ _ _ rfl (w.heap.size + 1) (row0 2) rfl rfl _ _ hr1 hsq (row0_size _ ()) (row0_one _) ?_; rw [HW3.out])
            | (refine wpList_store_row rfl _ _ _ rfl w.heap.size zq rfl rfl _ _ hz2 hsq rfl zq_one ?_))
          refine bodyPost_ret (v := .tuple #[.agg zq, .int .i64 18]) (results_cell_row_tmp Try.results20 _ _ w.heap.size _ zq (0, 0) _ rfl (setRow_heap_same _ _ _ _ _ _ hz2) huq rfl hsq (.int .i64 18) rfl) rfl ?_
          exact RReqEnd.err HE.out HG.out (below_setRow HB3.out (Nat.le_refl _) _) 18 rfl
        · have HE := hide (show reqErr (2 :: t) = 17 by simp only [reqErr, hf, lenErr]; rw [if_neg (by omega), if_pos (by omega)])
          have HG := hide (reqGot_err (b := 2 :: t) (by rw [HE.out]; decide))
          clear hf
          go_enter Try.func20, Try.ntmps20
          go_wp2_with (first
            | (refine wpList_store_row rfl _ _ _ rfl (w.heap.size + 1) (row0 2) rfl rfl _ _ hr1 hsq (row0_size _ ()) (row0_one _) ?_; rw [HW3.out])
            | (refine wpList_store_row rfl _ _ _ rfl w.heap.size zq rfl rfl _ _ hz2 hsq rfl zq_one ?_))
          refine bodyPost_ret (v := .tuple #[.agg zq, .int .i64 17]) (results_cell_row_tmp Try.results20 _ _ w.heap.size _ zq (0, 0) _ rfl (setRow_heap_same _ _ _ _ _ _ hz2) huq rfl hsq (.int .i64 17) rfl) rfl ?_
          exact RReqEnd.err HE.out HG.out (below_setRow HB3.out (Nat.le_refl _) _) 17 rfl
        · obtain ⟨x0, x1, rfl⟩ : ∃ x0 x1, t = [x0, x1] := by
            match t, hl, hl2 with
            | [x0, x1], _, _ => exact ⟨_, _, rfl⟩
          have HE := hide (show reqErr (2 :: [x0, x1]) = 0 by simp [reqErr, hf, lenErr])
          have HG := hide (show reqGot (2 :: [x0, x1]) = ⟨2, 0, x0.toNat + 256 * x1.toNat, []⟩ by simp [reqGot, hf, lenErr, parsed, numS]; omega)
          have H5 : Hid ((blk (w.heap.size + 1) (.cells (rowN 2 0 0) 49 (0, 0)) * (blk w.heap.size (.cells zq 49 (0, 0)) * all w)).on w3) := hide (by rw [← row0_rowN]; exact H3.out)
          have Hs5 := Hs3
          have HBW := hide (all_below H5.out.right.right Hs5.out)
          have C1 : Hid (∀ X, Stay w3 X → X.cell? ⟨bg, bo + 1, Option.none⟩ = some (vb x0)) := hide fun X hT => Lay.cell ((Hla.out.below HBW.out).below hT) 1 (by simp [vbs])
          have C2 : Hid (∀ X, Stay w3 X → X.cell? ⟨bg, bo + 2, Option.none⟩ = some (vb x1)) := hide fun X hT => Lay.cell ((Hla.out.below HBW.out).below hT) 2 (by simp [vbs])
          have w0 : IntKind.u32.wrap (x0.toNat : Int) = (x0.toNat : Int) := IntWalk.u32_in _ (by have := UInt8.toNat_lt x0; omega)
          have w1 : IntKind.u32.wrap (x1.toNat : Int) = (x1.toNat : Int) := IntWalk.u32_in _ (by have := UInt8.toNat_lt x1; omega)
          have m1 : IntKind.u32.wrap (256 * (x1.toNat : Int)) = 256 * (x1.toNat : Int) := IntWalk.u32_in _ (by have := UInt8.toNat_lt x0; have := UInt8.toNat_lt x1; omega)
          have s1 : IntKind.u32.wrap ((x0.toNat : Int) + 256 * (x1.toNat : Int)) = (x0.toNat : Int) + 256 * (x1.toNat : Int) := IntWalk.u32_in _ (by have := UInt8.toNat_lt x0; have := UInt8.toNat_lt x1; omega)
          have ell : ([x0, x1] : List UInt8).length + 1 = 3 := rfl
          rw [ell]
          clear hf ell
          go_enter Try.func20, Try.ntmps20
          go_wp2_with (first
            | (refine wpList_store_row rfl _ _ _ rfl (w.heap.size + 1) (row0 2) rfl rfl _ _ hr1 hsq (row0_size _ ()) (row0_one _) ?_; rw [HW3.out]))
          refine wp_region_tail 10 [isV (.slice (some ⟨bg, bo, Option.none⟩) 3 cap), isV (.pointer (some ⟨bg, bo + 1, Option.none⟩)), isV (vb x0), isV (u32v x0.toNat), isV (.slice (some ⟨bg, bo, Option.none⟩) 3 cap), isV (.pointer (some ⟨bg, bo + 2, Option.none⟩)), isV (vb x1), isV (u32v x1.toNat), isV (u32v (256 * x1.toNat)), isV (u32v (x0.toNat + 256 * x1.toNat))]
            (by simp only [List.take_succ_cons, List.take_zero]; rfl) (by simp only [List.drop_succ_cons, List.drop_zero]; rfl) (by kernel_rfl) (by kernel_rfl) (by kernel_rfl) (by decide) rfl ?keep ?todo ?rest
          case keep => exact ⟨Keep.isV _, Keep.isV _, Keep.isV _, Keep.isV _, Keep.isV _, Keep.isV _, Keep.isV _, Keep.isV _, Keep.isV _, Keep.isV _, trivial⟩
          case todo =>
            refine ⟨?_, ?_, ?_, ?_, ?_, ?_, ?_, ?_, ?_, ?_, trivial⟩
            · intro ev X hT hb hk hf
              have e0 : ev (.tmp 0) = .slice (some ⟨bg, bo, Option.none⟩) 3 cap := hk.1
              exact OpOk.move rfl e0 ⟨rfl, Stay.refl _⟩
            · intro ev X hT hb hk hf
              have e0 : ev (.tmp 78) = .slice (some ⟨bg, bo, Option.none⟩) 3 cap := hf.1
              exact OpOk.run (v := .pointer (some ⟨bg, bo + 1, Option.none⟩)) (W' := X) (by simp [execOp, e0, hb.1, w0, w1, m1, s1, go_sem]) ⟨rfl, Stay.refl _⟩
            · intro ev X hT hb hk hf
              have e0 : ev (.tmp 79) = .pointer (some ⟨bg, bo + 1, Option.none⟩) := hf.1
              have cW := C1.out X hT
              exact OpOk.run (v := vb x0) (W' := X) (by simp [execOp, e0, cW, go_sem]) ⟨rfl, Stay.refl _⟩
            · intro ev X hT hb hk hf
              have e0 : ev (.tmp 80) = vb x0 := hf.1
              exact OpOk.run (v := u32v x0.toNat) (W' := X) (by simp [execOp, e0, hb.1, w0, w1, m1, s1, go_sem]) ⟨rfl, Stay.refl _⟩
            · intro ev X hT hb hk hf
              have e0 : ev (.tmp 0) = .slice (some ⟨bg, bo, Option.none⟩) 3 cap := hk.1
              exact OpOk.move rfl e0 ⟨rfl, Stay.refl _⟩
            · intro ev X hT hb hk hf
              have e0 : ev (.tmp 82) = .slice (some ⟨bg, bo, Option.none⟩) 3 cap := hf.1
              exact OpOk.run (v := .pointer (some ⟨bg, bo + 2, Option.none⟩)) (W' := X) (by simp [execOp, e0, hb.1, w0, w1, m1, s1, go_sem]) ⟨rfl, Stay.refl _⟩
            · intro ev X hT hb hk hf
              have e0 : ev (.tmp 83) = .pointer (some ⟨bg, bo + 2, Option.none⟩) := hf.1
              have cW := C2.out X hT
              exact OpOk.run (v := vb x1) (W' := X) (by simp [execOp, e0, cW, go_sem]) ⟨rfl, Stay.refl _⟩
            · intro ev X hT hb hk hf
              have e0 : ev (.tmp 84) = vb x1 := hf.1
              exact OpOk.run (v := u32v x1.toNat) (W' := X) (by simp [execOp, e0, hb.1, w0, w1, m1, s1, go_sem]) ⟨rfl, Stay.refl _⟩
            · intro ev X hT hb hk hf
              have e0 : ev (.tmp 85) = u32v x1.toNat := hf.1
              exact OpOk.run (v := u32v (256 * x1.toNat)) (W' := X) (by simp [execOp, e0, hb.1, w0, w1, m1, s1, go_sem]) ⟨rfl, Stay.refl _⟩
            · intro ev X hT hb hk hf
              have e0 : ev (.tmp 81) = u32v x0.toNat := hf.1
              have e1 : ev (.tmp 86) = u32v (256 * x1.toNat) := hf.2.1
              exact OpOk.run (v := u32v (x0.toNat + 256 * x1.toNat)) (W' := X) (by simp [execOp, e0, e1, hb.1, w0, w1, m1, s1, go_sem]) ⟨rfl, Stay.refl _⟩
          case rest =>
            intro X hT
            rintro _ rfl _ rfl _ rfl _ rfl _ rfl _ rfl _ rfl _ rfl _ rfl _ rfl 
            have hw := H5.out.below hT
            have fr2 := frozen_of_row _ _ 2 _ _ (on_blk_mul hw)
            have cc2 : X.cell? ⟨w.heap.size + 1, 2, Option.none⟩ = some (u32v 0) := cell_of_row _ _ 2 _ _ _ (on_blk_mul hw)
            have h8 := SP.on.setCell (i := 2) hw (u32v (x0.toNat + 256 * x1.toNat))
            have H8 : Hid ((blk (w.heap.size + 1) (.cells (rowN 2 0 (x0.toNat + 256 * x1.toNat)) 49 (0, 0)) * (blk w.heap.size (.cells zq 49 (0, 0)) * all w)).on (X.setCell ⟨w.heap.size + 1, 2, Option.none⟩ (u32v (x0.toNat + 256 * x1.toNat)))) := hide h8
            have Hs8 := hide ((Hs5.out.trans (Str.below hT)).setCell ⟨w.heap.size + 1, 2, Option.none⟩ (u32v (x0.toNat + 256 * x1.toNat)))
            have h4 := on_blk_mul H8.out
            have h2 := on_blk_mul H8.out.right
            clear h8 hw hT
            go_wp2
            refine Rest.done ?_
            generalize x0.toNat + 256 * x1.toNat = nn at *
            go_wp2_with (first
              | (refine wpList_load_row rfl _ _ rfl (w.heap.size + 1) rfl _ (rowN 2 0 nn) _ _ h4 huq rfl hsq ?_)
              | (refine wpList_store_row rfl _ _ _ rfl w.heap.size (rowN 2 0 nn) rfl rfl _ _ h2 hsq (rowN_size _ _ _) (rowN_one _ _ _) ?_))
            refine bodyPost_ret (v := .tuple #[.agg (rowN 2 0 nn), .int .i64 0]) (results_cell_row_tmp Try.results20 _ _ w.heap.size _ (rowN 2 0 nn) (0, 0) _ rfl (setRow_heap_same _ _ _ _ _ _ h2) huq rfl hsq (.int .i64 0) rfl) rfl ?_
            exact RReqEnd.plain HE.out HG.out (H8.out.right.setRow _).right (Hs8.out.setRow _ _)
      · have hf : formOf 6 = some ⟨1, 0, 0, 0⟩ := rfl
        have c0n : ((w.alloc (.cells zq 49)).alloc (.cells zq 49)).cell? ⟨bg, bo, Option.none⟩ = some (Value.int .u8 6) := c0'
        have c0m : (w.alloc (.cells zq 49)).cell? ⟨bg, bo, Option.none⟩ = some (Value.int .u8 6) := c0''
        have c0k : w3.cell? ⟨bg, bo, Option.none⟩ = some (Value.int .u8 6) := c03
        clear c0' c0'' c03 c0n
        have hne : (((t.length + 1 : Nat) : Int) == 0) = false := by rw [beq_eq_false_iff_ne]; omega
        rcases (show t.length < 1 ∨ (1 ≤ t.length ∧ 1 < t.length) ∨ (1 ≤ t.length ∧ t.length ≤ 1) by omega) with hl | ⟨hl, hl2⟩ | ⟨hl, hl2⟩
        · have HE := hide (show reqErr (6 :: t) = 18 by simp only [reqErr, hf, lenErr]; rw [if_pos (by omega)])
          have HG := hide (reqGot_err (b := 6 :: t) (by rw [HE.out]; decide))
          clear hf
          go_enter Try.func20, Try.ntmps20
          go_wp2_with (first
            | (refine wpList_store_row rfl _ _ _ rfl (w.heap.size + 1) (row0 6) rfl rfl _ _ hr1 hsq (row0_size _ ()) (row0_one _) ?_; rw [HW3.out])
            | (refine wpList_store_row rfl _ _ _ rfl w.heap.size zq rfl rfl _ _ hz2 hsq rfl zq_one ?_))
          refine bodyPost_ret (v := .tuple #[.agg zq, .int .i64 18]) (results_cell_row_tmp Try.results20 _ _ w.heap.size _ zq (0, 0) _ rfl (setRow_heap_same _ _ _ _ _ _ hz2) huq rfl hsq (.int .i64 18) rfl) rfl ?_
          exact RReqEnd.err HE.out HG.out (below_setRow HB3.out (Nat.le_refl _) _) 18 rfl
        · have HE := hide (show reqErr (6 :: t) = 17 by simp only [reqErr, hf, lenErr]; rw [if_neg (by omega), if_pos (by omega)])
          have HG := hide (reqGot_err (b := 6 :: t) (by rw [HE.out]; decide))
          clear hf
          go_enter Try.func20, Try.ntmps20
          go_wp2_with (first
            | (refine wpList_store_row rfl _ _ _ rfl (w.heap.size + 1) (row0 6) rfl rfl _ _ hr1 hsq (row0_size _ ()) (row0_one _) ?_; rw [HW3.out])
            | (refine wpList_store_row rfl _ _ _ rfl w.heap.size zq rfl rfl _ _ hz2 hsq rfl zq_one ?_))
          refine bodyPost_ret (v := .tuple #[.agg zq, .int .i64 17]) (results_cell_row_tmp Try.results20 _ _ w.heap.size _ zq (0, 0) _ rfl (setRow_heap_same _ _ _ _ _ _ hz2) huq rfl hsq (.int .i64 17) rfl) rfl ?_
          exact RReqEnd.err HE.out HG.out (below_setRow HB3.out (Nat.le_refl _) _) 17 rfl
        · obtain ⟨x, rfl⟩ : ∃ x, t = [x] := List.length_eq_one_iff.1 (by omega)
          have HE := hide (show reqErr [6, x] = 0 by simp [reqErr, hf, lenErr])
          have HG := hide (show reqGot [6, x] = ⟨6, x, 0, []⟩ by simp [reqGot, hf, lenErr, parsed, numS])
          have c1 := Lay.cell (Hla.out.below HB3.out) 1 (vbs_get _ 1 (by simp))
          simp only [List.getElem_cons_zero, List.getElem_cons_succ] at c1
          have h8 := SP.on.setCell (i := 1) H3.out (vb x)
          have H8 : Hid ((blk (w.heap.size + 1) (.cells (rowT 6 x) 49 (0, 0)) * (blk w.heap.size (.cells zq 49 (0, 0)) * all w)).on (w3.setCell ⟨w.heap.size + 1, 1, Option.none⟩ (vb x))) := hide h8
          have Hs8 := hide (Hs3.out.setCell ⟨w.heap.size + 1, 1, Option.none⟩ (vb x))
          have fr := frozen_of_row _ _ 1 _ _ (on_blk_mul H3.out)
          have cc : w3.cell? ⟨w.heap.size + 1, 1, Option.none⟩ = some (Value.int .u8 0) := cell_of_row _ _ 1 _ _ _ (on_blk_mul H3.out)
          have h4 := on_blk_mul H8.out
          have h2 := on_blk_mul H8.out.right
          clear hf h8
          go_enter Try.func20, Try.ntmps20
          go_wp2_with (first
            | (refine wpList_store_row rfl _ _ _ rfl (w.heap.size + 1) (row0 6) rfl rfl _ _ hr1 hsq (row0_size _ ()) (row0_one _) ?_; rw [HW3.out])
            | (refine wpList_load_row rfl _ _ rfl (w.heap.size + 1) rfl _ (rowT 6 x) _ _ h4 huq rfl hsq ?_)
            | (refine wpList_store_row rfl _ _ _ rfl w.heap.size (rowT 6 x) rfl rfl _ _ h2 hsq (rowT_size _ _) (rowT_one _ _) ?_))
          refine bodyPost_ret (v := .tuple #[.agg (rowT 6 x), .int .i64 0]) (results_cell_row_tmp Try.results20 _ _ w.heap.size _ (rowT 6 x) (0, 0) _ rfl (setRow_heap_same _ _ _ _ _ _ h2) huq rfl hsq (.int .i64 0) rfl) rfl ?_
          rw [rowT_eq]
          exact RReqEnd.plain HE.out HG.out (H8.out.right.setRow _).right (Hs8.out.setRow _ _)
      · have hf : formOf 9 = some ⟨1, 0, 0, 0⟩ := rfl
        have c0n : ((w.alloc (.cells zq 49)).alloc (.cells zq 49)).cell? ⟨bg, bo, Option.none⟩ = some (Value.int .u8 9) := c0'
        have c0m : (w.alloc (.cells zq 49)).cell? ⟨bg, bo, Option.none⟩ = some (Value.int .u8 9) := c0''
        have c0k : w3.cell? ⟨bg, bo, Option.none⟩ = some (Value.int .u8 9) := c03
        clear c0' c0'' c03 c0n
        have hne : (((t.length + 1 : Nat) : Int) == 0) = false := by rw [beq_eq_false_iff_ne]; omega
        rcases (show t.length < 1 ∨ (1 ≤ t.length ∧ 1 < t.length) ∨ (1 ≤ t.length ∧ t.length ≤ 1) by omega) with hl | ⟨hl, hl2⟩ | ⟨hl, hl2⟩
        · have HE := hide (show reqErr (9 :: t) = 18 by simp only [reqErr, hf, lenErr]; rw [if_pos (by omega)])
          have HG := hide (reqGot_err (b := 9 :: t) (by rw [HE.out]; decide))
          clear hf
          go_enter Try.func20, Try.ntmps20
          go_wp2_with (first
            | (refine wpList_store_row rfl _ _ _ rfl (w.heap.size + 1) (row0 9) rfl rfl _ _ hr1 hsq (row0_size _ ()) (row0_one _) ?_; rw [HW3.out])
            | (refine wpList_store_row rfl _ _ _ rfl w.heap.size zq rfl rfl _ _ hz2 hsq rfl zq_one ?_))
          refine bodyPost_ret (v := .tuple #[.agg zq, .int .i64 18]) (results_cell_row_tmp Try.results20 _ _ w.heap.size _ zq (0, 0) _ rfl (setRow_heap_same _ _ _ _ _ _ hz2) huq rfl hsq (.int .i64 18) rfl) rfl ?_
          exact RReqEnd.err HE.out HG.out (below_setRow HB3.out (Nat.le_refl _) _) 18 rfl
        · have HE := hide (show reqErr (9 :: t) = 17 by simp only [reqErr, hf, lenErr]; rw [if_neg (by omega), if_pos (by omega)])
          have HG := hide (reqGot_err (b := 9 :: t) (by rw [HE.out]; decide))
          clear hf
          go_enter Try.func20, Try.ntmps20
          go_wp2_with (first
            | (refine wpList_store_row rfl _ _ _ rfl (w.heap.size + 1) (row0 9) rfl rfl _ _ hr1 hsq (row0_size _ ()) (row0_one _) ?_; rw [HW3.out])
            | (refine wpList_store_row rfl _ _ _ rfl w.heap.size zq rfl rfl _ _ hz2 hsq rfl zq_one ?_))
          refine bodyPost_ret (v := .tuple #[.agg zq, .int .i64 17]) (results_cell_row_tmp Try.results20 _ _ w.heap.size _ zq (0, 0) _ rfl (setRow_heap_same _ _ _ _ _ _ hz2) huq rfl hsq (.int .i64 17) rfl) rfl ?_
          exact RReqEnd.err HE.out HG.out (below_setRow HB3.out (Nat.le_refl _) _) 17 rfl
        · obtain ⟨x, rfl⟩ : ∃ x, t = [x] := List.length_eq_one_iff.1 (by omega)
          have HE := hide (show reqErr [9, x] = 0 by simp [reqErr, hf, lenErr])
          have HG := hide (show reqGot [9, x] = ⟨9, x, 0, []⟩ by simp [reqGot, hf, lenErr, parsed, numS])
          have c1 := Lay.cell (Hla.out.below HB3.out) 1 (vbs_get _ 1 (by simp))
          simp only [List.getElem_cons_zero, List.getElem_cons_succ] at c1
          have h8 := SP.on.setCell (i := 1) H3.out (vb x)
          have H8 : Hid ((blk (w.heap.size + 1) (.cells (rowT 9 x) 49 (0, 0)) * (blk w.heap.size (.cells zq 49 (0, 0)) * all w)).on (w3.setCell ⟨w.heap.size + 1, 1, Option.none⟩ (vb x))) := hide h8
          have Hs8 := hide (Hs3.out.setCell ⟨w.heap.size + 1, 1, Option.none⟩ (vb x))
          have fr := frozen_of_row _ _ 1 _ _ (on_blk_mul H3.out)
          have cc : w3.cell? ⟨w.heap.size + 1, 1, Option.none⟩ = some (Value.int .u8 0) := cell_of_row _ _ 1 _ _ _ (on_blk_mul H3.out)
          have h4 := on_blk_mul H8.out
          have h2 := on_blk_mul H8.out.right
          clear hf h8
          go_enter Try.func20, Try.ntmps20
          go_wp2_with (first
            | (refine wpList_store_row rfl _ _ _ rfl (w.heap.size + 1) (row0 9) rfl rfl _ _ hr1 hsq (row0_size _ ()) (row0_one _) ?_; rw [HW3.out])
            | (refine wpList_load_row rfl _ _ rfl (w.heap.size + 1) rfl _ (rowT 9 x) _ _ h4 huq rfl hsq ?_)
            | (refine wpList_store_row rfl _ _ _ rfl w.heap.size (rowT 9 x) rfl rfl _ _ h2 hsq (rowT_size _ _) (rowT_one _ _) ?_))
          refine bodyPost_ret (v := .tuple #[.agg (rowT 9 x), .int .i64 0]) (results_cell_row_tmp Try.results20 _ _ w.heap.size _ (rowT 9 x) (0, 0) _ rfl (setRow_heap_same _ _ _ _ _ _ h2) huq rfl hsq (.int .i64 0) rfl) rfl ?_
          rw [rowT_eq]
          exact RReqEnd.plain HE.out HG.out (H8.out.right.setRow _).right (Hs8.out.setRow _ _)
      · have hf : formOf 8 = some ⟨0, 0, 1, 64⟩ := rfl
        have c0n : ((w.alloc (.cells zq 49)).alloc (.cells zq 49)).cell? ⟨bg, bo, Option.none⟩ = some (Value.int .u8 8) := c0'
        have c0m : (w.alloc (.cells zq 49)).cell? ⟨bg, bo, Option.none⟩ = some (Value.int .u8 8) := c0''
        have c0k : w3.cell? ⟨bg, bo, Option.none⟩ = some (Value.int .u8 8) := c03
        clear c0' c0'' c03 c0n
        have hne : (((t.length + 1 : Nat) : Int) == 0) = false := by rw [beq_eq_false_iff_ne]; omega
        rcases (show t.length < 1 ∨ (1 ≤ t.length ∧ 64 < t.length) ∨ (1 ≤ t.length ∧ t.length ≤ 64) by omega) with hl | ⟨hl, hl2⟩ | ⟨hl, hl2⟩
        · have HE := hide (show reqErr (8 :: t) = 18 by simp only [reqErr, hf, lenErr]; rw [if_pos (by omega)])
          have HG := hide (reqGot_err (b := 8 :: t) (by rw [HE.out]; decide))
          clear hf
          go_enter Try.func20, Try.ntmps20
          go_wp2_with (first
            | (refine wpList_store_row rfl _ _ _ rfl (w.heap.size + 1) (row0 8) rfl rfl _ _ hr1 hsq (row0_size _ ()) (row0_one _) ?_; rw [HW3.out])
            | (refine wpList_store_row rfl _ _ _ rfl w.heap.size zq rfl rfl _ _ hz2 hsq rfl zq_one ?_))
          refine bodyPost_ret (v := .tuple #[.agg zq, .int .i64 18]) (results_cell_row_tmp Try.results20 _ _ w.heap.size _ zq (0, 0) _ rfl (setRow_heap_same _ _ _ _ _ _ hz2) huq rfl hsq (.int .i64 18) rfl) rfl ?_
          exact RReqEnd.err HE.out HG.out (below_setRow HB3.out (Nat.le_refl _) _) 18 rfl
        · have HE := hide (show reqErr (8 :: t) = 17 by simp only [reqErr, hf, lenErr]; rw [if_neg (by omega), if_pos (by omega)])
          have HG := hide (reqGot_err (b := 8 :: t) (by rw [HE.out]; decide))
          clear hf
          go_enter Try.func20, Try.ntmps20
          go_wp2_with (first
            | (refine wpList_store_row rfl _ _ _ rfl (w.heap.size + 1) (row0 8) rfl rfl _ _ hr1 hsq (row0_size _ ()) (row0_one _) ?_; rw [HW3.out])
            | (refine wpList_store_row rfl _ _ _ rfl w.heap.size zq rfl rfl _ _ hz2 hsq rfl zq_one ?_))
          refine bodyPost_ret (v := .tuple #[.agg zq, .int .i64 17]) (results_cell_row_tmp Try.results20 _ _ w.heap.size _ zq (0, 0) _ rfl (setRow_heap_same _ _ _ _ _ _ hz2) huq rfl hsq (.int .i64 17) rfl) rfl ?_
          exact RReqEnd.err HE.out HG.out (below_setRow HB3.out (Nat.le_refl _) _) 17 rfl
        · have HE := hide (show reqErr (8 :: t) = 0 by simp only [reqErr, hf, lenErr]; rw [if_neg (by omega), if_neg (by omega)])
          have HG := hide (show reqGot (8 :: t) = ⟨8, 0, 0, t⟩ by simp only [reqGot, hf, lenErr]; rw [if_pos (by rw [if_neg (by omega), if_neg (by omega)])]; simp [parsed, numS])
          have hbw := (Hb.out.below HB3.out).below (alloc1 (o := .cells #[] 5))
          have Hown := hide (own_new 5 1 0 [] H3.out rfl (by decide))
          have Hsa := hide (Hs3.out.alloc (.cells #[] 5))
          clear hf
          go_enter Try.func20, Try.ntmps20
          go_wp2_with (first
            | (refine wpList_store_row rfl _ _ _ rfl (w.heap.size + 1) (row0 8) rfl rfl _ _ hr1 hsq (row0_size _ ()) (row0_one _) ?_; rw [HW3.out])
            | (refine wpList_slice_from rfl _ _ _ _ rfl hu infoR (.slice (some ⟨bg, bo, Option.none⟩) (t.length + 1) cap) (8 :: t) rfl 1 rfl hbw (by simp) ?_; intro v8 hv8; have H8v := hide (show IsBytes (w3.alloc (.cells #[] 5)) v8 t from hv8 _ hbw); clear hv8)
            | (at_builtin; refine wpList_append_bytes (F := blk (w.heap.size + 1) (.cells (row0 8) 49 (0, 0)) * (blk w.heap.size (.cells zq 49 (0, 0)) * all w)) rfl _ _ 23 rfl 5 hu infoR _ [] t rfl Hown.out _ rfl H8v.out (by simp; omega) ?_; intro v6 w6 ho hs; rw [List.nil_append] at ho; obtain ⟨oa, oc, rfl, _, _, _, _⟩ := own_value ho; have Hst6 := hide ((Hsa.out.trans hs).setCell ⟨w.heap.size + 1, 3, Option.none⟩ (.slice oa t.length oc)); have fr := frozen_of_row _ _ 3 _ _ (on_blk_mul ho.right); have cc := cell_of_row _ _ 3 _ _ _ (on_blk_mul ho.right); have ho2 := ho; rw [SP.mul_left_comm] at ho2; have h3 := SP.on.setCell (i := 3) ho2 (.slice oa t.length oc); have h4 : (blk (w.heap.size + 1) (.cells (reqCells ⟨8, 0, 0, t⟩ (.slice oa t.length oc)) 49 (0, 0)) * (ownR (.slice oa t.length oc) t * (blk w.heap.size (.cells zq 49 (0, 0)) * all w))).on (w6.setCell ⟨w.heap.size + 1, 3, Option.none⟩ (.slice oa t.length oc)) := h3; have hg7 := on_blk_mul h4; have h5 := h4.right; rw [SP.mul_left_comm] at h5; have h2 := on_blk_mul h5; have H5 := hide h5; clear ho hs ho2 h3 h4 h5)
            | (refine wpList_load_row rfl _ _ rfl (w.heap.size + 1) rfl _ (reqCells ⟨8, 0, 0, t⟩ (.slice oa t.length oc)) _ _ hg7 huq rfl hsq ?_)
            | (refine wpList_store_row rfl _ _ _ rfl w.heap.size (reqCells ⟨8, 0, 0, t⟩ (.slice oa t.length oc)) rfl rfl _ _ h2 hsq (zq_size _ _) (req_one _ _ _ _) ?_))
          refine bodyPost_ret (v := .tuple #[.agg (reqCells ⟨8, 0, 0, t⟩ (.slice oa t.length oc)), .int .i64 0]) (results_cell_row_tmp Try.results20 _ _ w.heap.size _ (reqCells ⟨8, 0, 0, t⟩ (.slice oa t.length oc)) (0, 0) _ rfl (setRow_heap_same _ _ _ _ _ _ h2) huq rfl hsq (.int .i64 0) rfl) rfl ?_
          refine ⟨.slice oa t.length oc, by rw [HG.out, HE.out]; rfl, ?_, Hst6.out.setRow _ _⟩
          rw [HG.out]
          exact (H5.out.setRow (reqCells ⟨8, 0, 0, t⟩ (.slice oa t.length oc))).right
    · have hf := formOf_none hin
      have HE := hide (show reqErr (c :: t) = 19 by simp only [reqErr, hf])
      have HG := hide (reqGot_err (b := c :: t) (by rw [HE.out]; decide))
      have hne : (((t.length + 1 : Nat) : Int) == 0) = false := by rw [beq_eq_false_iff_ne]; omega
      have e0 : (((c.toNat : Nat) : Int) == 0) = false := ne8 c 0 (by decide) (fun h => hin (by rw [h]; decide))
      have e3 : (((c.toNat : Nat) : Int) == 3) = false := ne8 c 3 (by decide) (fun h => hin (by rw [h]; decide))
      have e4 : (((c.toNat : Nat) : Int) == 4) = false := ne8 c 4 (by decide) (fun h => hin (by rw [h]; decide))
      have e7 : (((c.toNat : Nat) : Int) == 7) = false := ne8 c 7 (by decide) (fun h => hin (by rw [h]; decide))
      have e12 : (((c.toNat : Nat) : Int) == 12) = false := ne8 c 12 (by decide) (fun h => hin (by rw [h]; decide))
      have e1 : (((c.toNat : Nat) : Int) == 1) = false := ne8 c 1 (by decide) (fun h => hin (by rw [h]; decide))
      have e2 : (((c.toNat : Nat) : Int) == 2) = false := ne8 c 2 (by decide) (fun h => hin (by rw [h]; decide))
      have e6 : (((c.toNat : Nat) : Int) == 6) = false := ne8 c 6 (by decide) (fun h => hin (by rw [h]; decide))
      have e9 : (((c.toNat : Nat) : Int) == 9) = false := ne8 c 9 (by decide) (fun h => hin (by rw [h]; decide))
      have e8 : (((c.toNat : Nat) : Int) == 8) = false := ne8 c 8 (by decide) (fun h => hin (by rw [h]; decide))
      clear hf hin
      go_enter Try.func20, Try.ntmps20
      go_wp2_with (first
        | (refine wpList_store_row rfl _ _ _ rfl (w.heap.size + 1) (row0 c) rfl rfl _ _ hr1 hsq (row0_size _ ()) (row0_one _) ?_; rw [HW3.out])
        | (refine wpList_store_row rfl _ _ _ rfl w.heap.size zq rfl rfl _ _ hz2 hsq rfl zq_one ?_))
      refine bodyPost_ret (v := .tuple #[.agg zq, .int .i64 19]) (results_cell_row_tmp Try.results20 _ _ w.heap.size _ zq (0, 0) _ rfl (setRow_heap_same _ _ _ _ _ _ hz2) huq rfl hsq (.int .i64 19) rfl) rfl ?_
      exact RReqEnd.err HE.out HG.out (below_setRow HB3.out (Nat.le_refl _) _) 19 rfl
end Go.Proofs.Ytdieaegajahdpaa
