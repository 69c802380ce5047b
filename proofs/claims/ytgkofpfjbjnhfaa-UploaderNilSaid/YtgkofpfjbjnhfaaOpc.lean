/- The Go functions of opcode: the forms of requests. -/
import Derived.Test.YtgkofpfjbjnhfaaMap
import Derived.Test.YtgkofpfjbjnhfaaRec3
namespace Go.Proofs.Ytgkofpfjbjnhfaa
open Go.ChangeShapes Go.WideShapes Go.ChangeAt Go.RowKit
set_option linter.unusedVariables false
set_option linter.unusedSimpArgs false

structure Form where
  kind : Nat
  size : Nat
  least : Nat
  most : Nat
abbrev iv (n : Nat) : Value := .int .i64 (n : Int)
abbrev formCells (f : Form) : Array Value := #[iv f.kind, iv f.size, iv f.least, iv f.most]
/-- the forms, in the text's order -/
def formsL : List (Nat × Form) := [(0, ⟨0, 0, 0, 0⟩), (1, ⟨1, 4, 0, 0⟩), (2, ⟨0, 2, 0, 0⟩), (3, ⟨0, 0, 0, 0⟩), (4, ⟨0, 0, 0, 0⟩), (6, ⟨1, 0, 0, 0⟩), (7, ⟨0, 0, 0, 0⟩), (8, ⟨0, 0, 1, 64⟩), (9, ⟨1, 0, 0, 0⟩), (12, ⟨0, 0, 0, 0⟩)]
def formsE : List (Nat × Value) := formsL.map fun p => (p.1, .agg (formCells p.2))
abbrev fv (k s l m : Int) : Value := .agg #[.int .i64 k, .int .i64 s, .int .i64 l, .int .i64 m]
theorem formsE_eq : formsE = [(0, fv 0 0 0 0), (1, fv 1 4 0 0), (2, fv 0 2 0 0), (3, fv 0 0 0 0), (4, fv 0 0 0 0), (6, fv 1 0 0 0), (7, fv 0 0 0 0), (8, fv 0 0 1 64), (9, fv 1 0 0 0), (12, fv 0 0 0 0)] := by
  simp [formsE, formsL, formCells, iv, fv]

set_option maxRecDepth 100000 in
set_option maxHeartbeats 4000000 in
theorem forms_any (w : World) : Calls Try.prog 61 #[] w fun e w' => ∃ b, e = .returned (.map (some b)) ∧ (mapB b formsE * all w).on w' ∧ Str w w' := by
  have hmm := @run_makeMap Try.prog
  have ht := Try.underlying103
  have hk := Try.underlying5
  have hm0 : (mapB w.heap.size [] * all w).on (w.alloc (.map #[] 0)) := (on_all w).alloc _
  have H0 := hide hm0
  have HS0 := hide ((Str.refl w).alloc (.map #[] 0))
  clear hm0
  go_enter Try.func61, Try.ntmps61
  go_wp2_with (first
    | (refine wpList_insert_sp (F := all w) rfl _ _ _ _ _ _ rfl ht hk w.heap.size _ H9.out rfl 12 rfl _ rfl rfl ?_; intro w10 h hs; have H10 := hide h; have HS10 := hide (HS9.out.trans hs); clear h hs)
    | (refine wpList_insert_sp (F := all w) rfl _ _ _ _ _ _ rfl ht hk w.heap.size _ H8.out rfl 9 rfl _ rfl rfl ?_; intro w9 h hs; have H9 := hide h; have HS9 := hide (HS8.out.trans hs); clear h hs)
    | (refine wpList_insert_sp (F := all w) rfl _ _ _ _ _ _ rfl ht hk w.heap.size _ H7.out rfl 8 rfl _ rfl rfl ?_; intro w8 h hs; have H8 := hide h; have HS8 := hide (HS7.out.trans hs); clear h hs)
    | (refine wpList_insert_sp (F := all w) rfl _ _ _ _ _ _ rfl ht hk w.heap.size _ H6.out rfl 7 rfl _ rfl rfl ?_; intro w7 h hs; have H7 := hide h; have HS7 := hide (HS6.out.trans hs); clear h hs)
    | (refine wpList_insert_sp (F := all w) rfl _ _ _ _ _ _ rfl ht hk w.heap.size _ H5.out rfl 6 rfl _ rfl rfl ?_; intro w6 h hs; have H6 := hide h; have HS6 := hide (HS5.out.trans hs); clear h hs)
    | (refine wpList_insert_sp (F := all w) rfl _ _ _ _ _ _ rfl ht hk w.heap.size _ H4.out rfl 4 rfl _ rfl rfl ?_; intro w5 h hs; have H5 := hide h; have HS5 := hide (HS4.out.trans hs); clear h hs)
    | (refine wpList_insert_sp (F := all w) rfl _ _ _ _ _ _ rfl ht hk w.heap.size _ H3.out rfl 3 rfl _ rfl rfl ?_; intro w4 h hs; have H4 := hide h; have HS4 := hide (HS3.out.trans hs); clear h hs)
    | (refine wpList_insert_sp (F := all w) rfl _ _ _ _ _ _ rfl ht hk w.heap.size _ H2.out rfl 2 rfl _ rfl rfl ?_; intro w3 h hs; have H3 := hide h; have HS3 := hide (HS2.out.trans hs); clear h hs)
    | (refine wpList_insert_sp (F := all w) rfl _ _ _ _ _ _ rfl ht hk w.heap.size _ H1.out rfl 1 rfl _ rfl rfl ?_; intro w2 h hs; have H2 := hide h; have HS2 := hide (HS1.out.trans hs); clear h hs)
    | (refine wpList_insert_sp (F := all w) rfl _ _ _ _ _ _ rfl ht hk w.heap.size _ H0.out rfl 0 rfl _ rfl rfl ?_; intro w1 h hs; have H1 := hide h; have HS1 := hide (HS0.out.trans hs); clear h hs))
  go_ret
  refine ⟨_, rfl, ?_, HS10.out⟩
  rw [formsE_eq]
  exact H10.out
end Go.Proofs.Ytgkofpfjbjnhfaa
