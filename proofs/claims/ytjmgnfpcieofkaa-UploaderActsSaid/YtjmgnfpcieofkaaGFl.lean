/- LAID TOGETHER: FlashSpec, Flash, Flash2, Flash3, Flash4, Flash5. -/
import Derived.WalkKit
import Derived.Test.YtjmgnfpcieofkaaRows
import Derived.Test.YtjmgnfpcieofkaaGBase
import Derived.Handy
import Derived.BigRegion
import Derived.Deep.OwnRows
/- Flash, as lists of bytes: what a step, an erasure, a programming do. No Go function is spoken of. -/
namespace Go.Proofs.Ytjmgnfpcieofkaa

structure FlS where
  B : List UInt8
  worn : List Nat
  steps : Nat
  lf : Nat
  lt : Nat
  off : Bool
  armed : Bool
  left : Nat
  tear : Nat

/-- does the power go in this step? -/
def FlS.fails (s : FlS) : Bool := s.armed && s.left == 0
/-- behind a step -/
def FlS.step (s : FlS) : FlS := if s.fails then { s with armed := false, off := true } else { s with left := if s.armed then s.left - 1 else s.left, steps := s.steps + 1 }
/-- how far the numbers may go -/
structure FlS.Ok (s : FlS) : Prop where
  pages : s.B.length = 256 * s.worn.length
  most : 1 ≤ s.worn.length ∧ s.worn.length ≤ 64
  lf : s.lf ≤ 64
  lt : s.lt ≤ 64
  left : s.left ≤ 9223372036854775807
  tear : s.tear < 4294967296
end Go.Proofs.Ytjmgnfpcieofkaa

/- The Go functions of flash: what each does. -/
namespace Go.Proofs.Ytjmgnfpcieofkaa
open Go.ChangeShapes Go.WideShapes Go.ChangeAt Go.RowKit
set_option linter.unusedVariables false

abbrev ownBy (v : Value) (l : List UInt8) : SP := own 5 1 v l.length (vbs l)
abbrev ownInts (v : Value) (l : List Nat) : SP := own 3 1 v l.length (l.map fun n => .int .i64 ((n : Nat) : Int))
def flCells (vb vw : Value) (s : FlS) : Array Value := #[vb, vw, .int .i64 (s.steps : Int), .int .i64 (s.lf : Int), .int .i64 (s.lt : Int), .bool s.off, .bool s.armed, .int .i64 (s.left : Int), .int .u32 (s.tear : Int)]
/-- a flash in memory -/
def Flash (p : Nat) (s : FlS) : SP := ex fun x : Value × Value => blk p (.cells (flCells x.1 x.2 s) 96 (0, 0)) * (ownBy x.1 s.B * ownInts x.2 s.worn)

theorem Flash.open {p : Nat} {s : FlS} {F : SP} {w : World} (h : (Flash p s * F).on w) :
    ∃ vb vw, (blk p (.cells (flCells vb vw s) 96 (0, 0)) * ((ownBy vb s.B * ownInts vw s.worn) * F)).on w := by
  obtain ⟨⟨vb, vw⟩, h⟩ := on_ex_mul.1 h
  exact ⟨vb, vw, by rw [← SP.mul_assoc]; exact h⟩
theorem Flash.shut {p : Nat} {s : FlS} {F : SP} {w : World} {vb vw : Value} (h : (blk p (.cells (flCells vb vw s) 96 (0, 0)) * ((ownBy vb s.B * ownInts vw s.worn) * F)).on w) : (Flash p s * F).on w :=
  on_ex_mul.2 ⟨(vb, vw), by rw [SP.mul_assoc]; exact h⟩

end Go.Proofs.Ytjmgnfpcieofkaa

/- A word of flash is programmed. -/
namespace Go.Proofs.Ytjmgnfpcieofkaa
open Go.ChangeShapes Go.WideShapes Go.ChangeAt Go.RowKit
set_option linter.unusedVariables false

/-- the flash, its parts seen one by one -/
theorem Flash.parts {p : Nat} {s : FlS} {F : SP} {w : World} (h : (Flash p s * F).on w) (ok : s.Ok) :
    ∃ g cap vw, s.B.length ≤ cap ∧ cap ≤ maxLen ∧ (blk p (.cells (flCells (.slice (some ⟨g, 0, Option.none⟩) s.B.length cap) vw s) 96 (0, 0)) * (ownBy (.slice (some ⟨g, 0, Option.none⟩) s.B.length cap) s.B * (ownInts vw s.worn * F))).on w := by
  obtain ⟨vb, vw, h⟩ := Flash.open h
  rw [SP.mul_assoc] at h
  have h1 := ok.pages
  have h2 := ok.most
  obtain ⟨g, cap, rfl, h3, h4⟩ := own_block h.right (by omega)
  exact ⟨g, cap, vw, h3, h4, h⟩
end Go.Proofs.Ytjmgnfpcieofkaa

/- More Go functions of flash: a new one, Fail, Power, Off, Read. -/
namespace Go.Proofs.Ytjmgnfpcieofkaa
open Go.ChangeShapes Go.WideShapes Go.ChangeAt Go.RowKit
set_option linter.unusedVariables false

theorem infoByte : (Try.prog.info? 5).map (fun i => (i.zero, i.size, i.bytes)) = some (some (.int .u8 0), 1, 1) := by kernel_rfl
theorem IsBytes.none (w : World) (g x c : Nat) (hc : c ≤ maxLen) : IsBytes w (.slice (some ⟨g, x, Option.none⟩) 0 c) [] := ⟨_, c, rfl, Nat.zero_le _, hc, Lay.nil _ _, by simp⟩
theorem IsBytes.part {w : World} {g n cap : Nat} {l : List UInt8} (h : IsBytes w (.slice (some ⟨g, 0, Option.none⟩) n cap) l) (a k : Nat) (hk : a + k ≤ l.length) : IsBytes w (.slice (some ⟨g, a, Option.none⟩) k (cap - a)) ((l.drop a).take k) := by
  obtain ⟨ad, c, e, h1, h2, h3, _⟩ := h
  simp only [Value.slice.injEq] at e
  obtain ⟨rfl, rfl, rfl⟩ := e
  refine ⟨_, _, by rw [List.length_take, List.length_drop, Nat.min_eq_left (by omega)], by simp; omega, by omega, ?_, by simp⟩
  have := (h3.drop a).take k
  simpa [vbs] using this

/-- what is read -/
def readQ (l : List UInt8) (v : Value) : SP := ex fun x : Value => pure (v = .tuple #[x, .int .i64 0]) * ownBy x l
theorem readQ.out {l : List UInt8} {v : Value} {F : SP} {w : World} (h : (readQ l v * F).on w) : ∃ x, v = .tuple #[x, .int .i64 0] ∧ (ownBy x l * F).on w := by
  obtain ⟨x, h⟩ := on_ex_mul.1 h
  rw [SP.mul_assoc] at h
  obtain ⟨h1, h2⟩ := on_pure_mul.1 h
  exact ⟨x, h1, h2⟩
theorem readQ.in {l : List UInt8} {x : Value} {F : SP} {w : World} (h : (ownBy x l * F).on w) : (readQ l (.tuple #[x, .int .i64 0]) * F).on w :=
  on_ex_mul.2 ⟨x, by rw [SP.mul_assoc]; exact on_pure_mul.2 ⟨rfl, h⟩⟩

end Go.Proofs.Ytjmgnfpcieofkaa

/- A new flash. -/
namespace Go.Proofs.Ytjmgnfpcieofkaa
open Go.ChangeShapes Go.WideShapes Go.ChangeAt Go.RowKit
set_option linter.unusedVariables false

def FlS.new (k : Nat) : FlS := { B := List.replicate (k * 256) 255, worn := List.replicate k 0, steps := 0, lf := 0, lt := 0, off := false, armed := false, left := 0, tear := 0 }
end Go.Proofs.Ytjmgnfpcieofkaa

/- Words of flash are programmed, one behind the other. -/
namespace Go.Proofs.Ytjmgnfpcieofkaa
open Go.ChangeShapes Go.WideShapes Go.ChangeAt Go.RowKit
set_option linter.unusedVariables false

theorem IsBytes.part' {w : World} {g off n cap : Nat} {l : List UInt8} (h : IsBytes w (.slice (some ⟨g, off, Option.none⟩) n cap) l) (a k : Nat) (hk : a + k ≤ l.length) : IsBytes w (.slice (some ⟨g, off + a, Option.none⟩) k (cap - a)) ((l.drop a).take k) := by
  obtain ⟨ad, c, e, h1, h2, h3, _⟩ := h
  simp only [Value.slice.injEq] at e
  obtain ⟨rfl, rfl, rfl⟩ := e
  refine ⟨_, _, by rw [List.length_take, List.length_drop, Nat.min_eq_left (by omega)], by simp; omega, by omega, ?_, by simp⟩
  have := (h3.drop a).take k
  simpa [vbs] using this

end Go.Proofs.Ytjmgnfpcieofkaa
