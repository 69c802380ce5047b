/- opcode: are two requests one; the same with the document's. -/
import Derived.Test.YtgkofpfjbjnhfaaOpcOpen
namespace Go.Proofs.Ytgkofpfjbjnhfaa
open Go.ChangeShapes Go.WideShapes Go.ChangeAt Go.RowKit
set_option linter.unusedVariables false
set_option linter.unusedSimpArgs false

def reqSame (a b : ReqS) : Bool := decide (a.op = b.op ∧ a.type = b.type ∧ a.size = b.size ∧ a.data = b.data)
theorem reqSame_iff {a b : ReqS} : reqSame a b = true ↔ a = b := by
  cases a; cases b
  simp [reqSame]
theorem eq8 {c d : UInt8} (h : c = d) : (((c.toNat : Nat) : Int) == ((d.toNat : Nat) : Int)) = true := by rw [h]; simp
theorem neq8 {c d : UInt8} (h : ¬c = d) : (((c.toNat : Nat) : Int) == ((d.toNat : Nat) : Int)) = false := by
  rw [beq_eq_false_iff_ne]
  intro e
  exact h (UInt8.toNat_inj.1 (by omega))

set_option maxRecDepth 100000 in
set_option maxHeartbeats 4000000 in
theorem osame_any (p q : ReqS) (v1 v2 : Value) (w : World) (h1 : IsBytes w v1 p.data) (h2 : IsBytes w v2 q.data) :
    Calls Try.prog 64 #[.agg (reqCells p v1), .agg (reqCells q v2)] w fun e w' => e = .returned (.bool (reqSame p q)) ∧ Below w.heap.size w w' := by
  have hb2 : Below w.heap.size w ((w.alloc (.cells (reqCells p v1) 92)).alloc (.cells (reqCells q v2) 92)) := alloc1.alloc (by simp) _
  have hq := equal_any _ _ _ _ ((w.alloc (.cells (reqCells p v1) 92)).alloc (.cells (reqCells q v2) 92)) (h1.below hb2) (h2.below hb2)
  obtain ⟨a1, c1, rfl, _, _, _, _⟩ := h1
  obtain ⟨a2, c2, rfl, _, _, _, _⟩ := h2
  have Hb2 := hide hb2
  clear hb2
  generalize p.data.length = n1 at *
  generalize q.data.length = n2 at *
  obtain ⟨op, ty, sz, da⟩ := p
  obtain ⟨op', ty', sz', da'⟩ := q
  simp only at *
  by_cases h1 : op = op'
  · by_cases h2 : ty = ty'
    · by_cases h3 : sz = sz'
      · have HR := hide (show reqSame ⟨op, ty, sz, da⟩ ⟨op', ty', sz', da'⟩ = decide (da = da') by simp [reqSame, h1, h2, h3])
        have e1 := eq8 h1
        have e2 := eq8 h2
        have e3 : ((sz : Int) == (sz' : Int)) = true := by rw [h3]; simp
        clear h1 h2 h3
        go_enter Try.func64, Try.ntmps64
        go_wp2_with fail
        refine hq.mono ?_
        rintro e _ ⟨rfl, rfl⟩
        go_wp2_with fail
        go_ret
        exact ⟨congrArg (fun b => Ending.returned (.bool b)) HR.out.symm, Hb2.out⟩
      · have HR := hide (show reqSame ⟨op, ty, sz, da⟩ ⟨op', ty', sz', da'⟩ = false by simp [reqSame, h3])
        have e1 := eq8 h1
        have e2 := eq8 h2
        have e3 : ((sz : Int) == (sz' : Int)) = false := by rw [beq_eq_false_iff_ne]; omega
        clear h1 h2 h3 hq
        go_enter Try.func64, Try.ntmps64
        go_wp2_with fail
        go_ret
        exact ⟨congrArg (fun b => Ending.returned (.bool b)) HR.out.symm, Hb2.out⟩
    · have HR := hide (show reqSame ⟨op, ty, sz, da⟩ ⟨op', ty', sz', da'⟩ = false by simp [reqSame, h2])
      have e1 := eq8 h1
      have e2 := neq8 h2
      clear h1 h2 hq
      go_enter Try.func64, Try.ntmps64
      go_wp2_with fail
      go_ret
      exact ⟨congrArg (fun b => Ending.returned (.bool b)) HR.out.symm, Hb2.out⟩
  · have HR := hide (show reqSame ⟨op, ty, sz, da⟩ ⟨op', ty', sz', da'⟩ = false by simp [reqSame, h1])
    have e1 := neq8 h1
    clear h1 hq
    go_enter Try.func64, Try.ntmps64
    go_wp2_with fail
    go_ret
    exact ⟨congrArg (fun b => Ending.returned (.bool b)) HR.out.symm, Hb2.out⟩

end Go.Proofs.Ytgkofpfjbjnhfaa
