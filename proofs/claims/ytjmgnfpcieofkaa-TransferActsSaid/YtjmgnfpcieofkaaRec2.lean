/- The Go functions of record: which may be, the check sum, equal bytes; the document's own. -/
import Derived.Test.YtjmgnfpcieofkaaRec
import Derived.Test.YtjmgnfpcieofkaaCrc3
namespace Go.Proofs.Ytjmgnfpcieofkaa
open Go.ChangeShapes Go.WideShapes Go.ChangeAt Go.RowKit
set_option linter.unusedVariables false

structure RecS where
  seq : Nat
  floor : Nat
  bytes : Nat
  sum : Nat
  phase : UInt8
  done : Nat
  init : List UInt8
structure RecS.Ok (s : RecS) : Prop where
  seq : s.seq < 4294967296
  floor : s.floor < 4294967296
  bytes : s.bytes < 4294967296
  sum : s.sum < 4294967296
  done : s.done < 4294967296
  init : s.init.length ≤ 1000000
abbrev u32v (n : Nat) : Value := .int .u32 (n : Int)
abbrev recCells (s : RecS) (iv : Value) : Array Value := #[u32v s.seq, u32v s.floor, u32v s.bytes, u32v s.sum, vb s.phase, u32v s.done, iv]
/-- the document's own -/
abbrev refCells (s : RecS) (iv : Value) : Array Value := #[u32v s.seq, u32v s.floor, u32v s.bytes, u32v s.sum, u32v s.done, vb s.phase, iv]
def RecS.right (s : RecS) : Bool := decide (s.bytes ≤ 4096 ∧ s.done ≤ 4096 ∧ s.phase.toNat ≤ 2 ∧ s.init.length ≤ 128 ∧ (s.phase.toNat ≠ 0 ∨ s.done = 0 ∧ s.init.length = 0))

theorem alloc1 {w : World} {o : Obj} : Below w.heap.size w (w.alloc o) := (Below.refl _ _).alloc (Nat.le_refl _) o

set_option maxRecDepth 100000 in
set_option maxHeartbeats 4000000 in
theorem right_any (s : RecS) (iv : Value) (w : World) (ok : s.Ok) (h : IsBytes w iv s.init) :
    Calls Try.prog 17 #[.agg (recCells s iv)] w fun e w' => e = .returned (.bool s.right) ∧ Below w.heap.size w w' := by
  obtain ⟨a, c, rfl, _, _, _, _⟩ := h
  obtain ⟨_, _, hb, _, hd, hi⟩ := ok
  have hp := UInt8.toNat_lt s.phase
  obtain ⟨seq, floor, bytes, sum, phase, done, init⟩ := s
  simp only at *
  generalize hR : RecS.right _ = R
  have HR := hide hR
  clear hR
  rcases (show 4096 < bytes ∨ (bytes ≤ 4096 ∧ 4096 < done) ∨ (bytes ≤ 4096 ∧ done ≤ 4096 ∧ 2 < phase.toNat) ∨ (bytes ≤ 4096 ∧ done ≤ 4096 ∧ phase.toNat ≤ 2 ∧ 128 < init.length) ∨
    (bytes ≤ 4096 ∧ done ≤ 4096 ∧ phase.toNat ≤ 2 ∧ init.length ≤ 128 ∧ 1 ≤ phase.toNat) ∨ (bytes ≤ 4096 ∧ done ≤ 4096 ∧ phase.toNat < 1 ∧ init.length ≤ 128 ∧ 1 ≤ done) ∨
    (bytes ≤ 4096 ∧ done < 1 ∧ phase.toNat < 1 ∧ init.length ≤ 128 ∧ 1 ≤ init.length) ∨ (bytes ≤ 4096 ∧ done < 1 ∧ phase.toNat < 1 ∧ init.length < 1) by omega) with h1 | ⟨h1, h2⟩ | ⟨h1, h2, h3⟩ | ⟨h1, h2, h3, h4⟩ | ⟨h1, h2, h3, h4, h5⟩ | ⟨h1, h2, h3, h4, h5⟩ | ⟨h1, h2, h3, h4, h5⟩ | ⟨h1, h2, h3, h4⟩
  all_goals
    have HV : Hid (R = true ∨ R = false) := hide (by cases R <;> simp)
    have e0 : (1 ≤ phase.toNat → (((phase.toNat : Nat) : Int) != 0) = true) := fun h => by simp; omega
    have e0' : (phase.toNat < 1 → (((phase.toNat : Nat) : Int) != 0) = false) := fun h => by simp; omega
    have e1 : (1 ≤ done → (((done : Nat) : Int) == 0) = false) := fun h => by rw [beq_eq_false_iff_ne]; omega
    have e1' : (done < 1 → (((done : Nat) : Int) == 0) = true) := fun h => by rw [beq_iff_eq]; omega
    have e2 : (1 ≤ init.length → (((init.length : Nat) : Int) == 0) = false) := fun h => by rw [beq_eq_false_iff_ne]; omega
    have e2' : (init.length < 1 → (((init.length : Nat) : Int) == 0) = true) := fun h => by rw [beq_iff_eq]; omega
    try replace e0 := e0 (by omega)
    try replace e0' := e0' (by omega)
    try replace e1 := e1 (by omega)
    try replace e1' := e1' (by omega)
    try replace e2 := e2 (by omega)
    try replace e2' := e2' (by omega)
    go_enter Try.func17, Try.ntmps17
    go_wp2_with fail
    go_ret
    refine ⟨?_, alloc1⟩
    rw [← HR.out]
    first
      | rw [show RecS.right ⟨seq, floor, bytes, sum, phase, done, init⟩ = true from decide_eq_true (by simp only; omega)]; rfl
      | rw [show RecS.right ⟨seq, floor, bytes, sum, phase, done, init⟩ = false from decide_eq_false (by simp only; omega)]; rfl

set_option maxRecDepth 100000 in
set_option maxHeartbeats 4000000 in
theorem rright_any (s : RecS) (iv : Value) (w : World) (ok : s.Ok) (h : IsBytes w iv s.init) :
    Calls Try.prog 109 #[.agg (refCells s iv)] w fun e w' => e = .returned (.bool s.right) ∧ Below w.heap.size w w' := by
  obtain ⟨a, c, rfl, _, _, _, _⟩ := h
  obtain ⟨_, _, hb, _, hd, hi⟩ := ok
  have hp := UInt8.toNat_lt s.phase
  obtain ⟨seq, floor, bytes, sum, phase, done, init⟩ := s
  simp only at *
  generalize hR : RecS.right _ = R
  have HR := hide hR
  clear hR
  rcases (show 4096 < bytes ∨ (bytes ≤ 4096 ∧ 4096 < done) ∨ (bytes ≤ 4096 ∧ done ≤ 4096 ∧ 2 < phase.toNat) ∨ (bytes ≤ 4096 ∧ done ≤ 4096 ∧ phase.toNat ≤ 2 ∧ 128 < init.length) ∨
    (bytes ≤ 4096 ∧ done ≤ 4096 ∧ phase.toNat ≤ 2 ∧ init.length ≤ 128 ∧ 1 ≤ phase.toNat) ∨ (bytes ≤ 4096 ∧ done ≤ 4096 ∧ phase.toNat < 1 ∧ init.length ≤ 128 ∧ 1 ≤ init.length) ∨
    (bytes ≤ 4096 ∧ done ≤ 4096 ∧ phase.toNat < 1 ∧ init.length < 1 ∧ 1 ≤ done) ∨ (bytes ≤ 4096 ∧ done < 1 ∧ phase.toNat < 1 ∧ init.length < 1) by omega) with h1 | ⟨h1, h2⟩ | ⟨h1, h2, h3⟩ | ⟨h1, h2, h3, h4⟩ | ⟨h1, h2, h3, h4, h5⟩ | ⟨h1, h2, h3, h4, h5⟩ | ⟨h1, h2, h3, h4, h5⟩ | ⟨h1, h2, h3, h4⟩
  all_goals
    have HV : Hid (R = true ∨ R = false) := hide (by cases R <;> simp)
    have e0 : (1 ≤ phase.toNat → decide (0 < phase.toNat) = true) := fun h => decide_eq_true (by omega)
    have e0' : (phase.toNat < 1 → decide (0 < phase.toNat) = false) := fun h => decide_eq_false (by omega)
    have e1 : (1 ≤ done → (((done : Nat) : Int) == 0) = false) := fun h => by rw [beq_eq_false_iff_ne]; omega
    have e1' : (done < 1 → (((done : Nat) : Int) == 0) = true) := fun h => by rw [beq_iff_eq]; omega
    have e2 : (1 ≤ init.length → (((init.length : Nat) : Int) == 0) = false) := fun h => by rw [beq_eq_false_iff_ne]; omega
    have e2' : (init.length < 1 → (((init.length : Nat) : Int) == 0) = true) := fun h => by rw [beq_iff_eq]; omega
    try replace e0 := e0 (by omega)
    try replace e0' := e0' (by omega)
    try replace e1 := e1 (by omega)
    try replace e1' := e1' (by omega)
    try replace e2 := e2 (by omega)
    try replace e2' := e2' (by omega)
    go_enter Try.func109, Try.ntmps109
    go_wp2_with fail
    go_ret
    refine ⟨?_, alloc1⟩
    rw [← HR.out]
    first
      | rw [show RecS.right ⟨seq, floor, bytes, sum, phase, done, init⟩ = true from decide_eq_true (by simp only; omega)]; rfl
      | rw [show RecS.right ⟨seq, floor, bytes, sum, phase, done, init⟩ = false from decide_eq_false (by simp only; omega)]; rfl

end Go.Proofs.Ytjmgnfpcieofkaa
