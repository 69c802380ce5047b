/- LAID TOGETHER: Rec5, Rec6, Rec7, Rec8, RecLives, RecMath2, RecOpen. -/
import Derived.Test.YtjmgnfpcieofkaaGRecA
import Derived.Test.YtjmgnfpcieofkaaGBase
import Derived.Deep.QuietTactic
import Derived.BigQuiet
import Derived.Test.YtjmgnfpcieofkaaGCrc
/- record: the document's own encoding. -/
namespace Go.Proofs.Ytjmgnfpcieofkaa
open Go.ChangeShapes Go.WideShapes Go.ChangeAt Go.RowKit
set_option linter.unusedVariables false
set_option linter.unusedSimpArgs false

/-- bytes of one's own behind W -/
def At (W : World) (v : Value) (l : List UInt8) (w : World) : Prop := (ownR v l * all W).on w ∧ Str W w
theorem At.len {W : World} {v : Value} {l m : List UInt8} {w : World} (h : At W v l w) (e : l = m) : At W v m w := e ▸ h

end Go.Proofs.Ytjmgnfpcieofkaa

/- record: what bytes say. -/
namespace Go.Proofs.Ytjmgnfpcieofkaa
open Go.ChangeShapes Go.WideShapes Go.ChangeAt Go.RowKit
set_option linter.unusedVariables false
set_option linter.unusedSimpArgs false

/-- what bytes say -/
def readS (l : List UInt8) : RecS := ⟨numS l 4 4, numS l 8 4, numS l 12 4, numS l 16 4, l.getD 20 0, numS l 24 4, (l.drop 28).take (min (l.getD 21 0).toNat 128)⟩
def zeroS : RecS := ⟨0, 0, 0, 0, 0, 0, []⟩
abbrev nilV : Value := .slice Option.none 0 0

end Go.Proofs.Ytjmgnfpcieofkaa

/- record: Parse, and Same. -/
namespace Go.Proofs.Ytjmgnfpcieofkaa
open Go.ChangeShapes Go.WideShapes Go.ChangeAt Go.RowKit
set_option linter.unusedVariables false
set_option linter.unusedSimpArgs false

/-- what is wrong with bytes -/
def recErr (l : List UInt8) : Nat := if l.length ≠ 160 ∨ numS l 0 4 ≠ 827216706 then 7 else if numS l 156 4 ≠ chkN (l.take 156) then 8 else if (readS l).right = true ∧ recBytes (readS l) = l then 0 else 7
def recGot (l : List UInt8) : RecS := if recErr l = 0 then readS l else zeroS
def ParseEnd (l : List UInt8) (w : World) (e : Ending) (w' : World) : Prop := ∃ iv, e = .returned (.tuple #[.agg (recCells (recGot l) iv), .int .i64 (recErr l : Nat)]) ∧ (ownR iv (recGot l).init * all w).on w' ∧ Str w w'
abbrev zc : Array Value := #[.int .u32 0, .int .u32 0, .int .u32 0, .int .u32 0, .int .u8 0, .int .u32 0, nilV]
theorem zc_eq : recCells zeroS nilV = zc := by simp [recCells, zeroS, vb]
theorem ParseEnd.err {l : List UInt8} {w w' : World} {z : Nat} (he : recErr l = z) (hz : z ≠ 0) (hb : Below w.heap.size w w') (z' : Int) (hz' : z' = (z : Nat)) : ParseEnd l w (.returned (.tuple #[.agg zc, .int .i64 z'])) w' := by
  refine ⟨nilV, ?_, ?_, Str.below hb⟩
  · unfold recGot
    rw [he, if_neg hz, zc_eq, hz']
  · unfold recGot
    rw [he, if_neg hz]
    exact own_nil _ _ ((on_all w).below hb)

end Go.Proofs.Ytjmgnfpcieofkaa

/- record: Same, and the document's own Parse. -/
namespace Go.Proofs.Ytjmgnfpcieofkaa
open Go.ChangeShapes Go.WideShapes Go.ChangeAt Go.RowKit
set_option linter.unusedVariables false
set_option linter.unusedSimpArgs false

def RParseEnd (l : List UInt8) (w : World) (e : Ending) (w' : World) : Prop := ∃ iv, e = .returned (.tuple #[.agg (refCells (recGot l) iv), .int .i64 (recErr l : Nat)]) ∧ (ownR iv (recGot l).init * all w).on w' ∧ Str w w'
abbrev zcr : Array Value := #[.int .u32 0, .int .u32 0, .int .u32 0, .int .u32 0, .int .u32 0, .int .u8 0, nilV]
theorem zcr_eq : refCells zeroS nilV = zcr := by simp [refCells, zeroS, vb]
theorem RParseEnd.err {l : List UInt8} {w w' : World} {z : Nat} (he : recErr l = z) (hz : z ≠ 0) (hb : Below w.heap.size w w') (z' : Int) (hz' : z' = (z : Nat)) : RParseEnd l w (.returned (.tuple #[.agg zcr, .int .i64 z'])) w' := by
  refine ⟨nilV, ?_, ?_, Str.below hb⟩
  · unfold recGot
    rw [he, if_neg hz, zcr_eq, hz']
  · unfold recGot
    rw [he, if_neg hz]
    exact own_nil _ _ ((on_all w).below hb)

end Go.Proofs.Ytjmgnfpcieofkaa

/- The chapter's example of record. -/
namespace Go.Proofs.Ytjmgnfpcieofkaa
open Go.ChangeShapes Go.WideShapes Go.ChangeAt Go.RowKit
set_option linter.unusedVariables false
set_option linter.unusedSimpArgs false

theorem wpList_load_row_g {P : Program} {ops : Array Oper} {rest : List Oper} {o : Oper} {a : Act} {w : World} {Q : Exit → Act → World → Prop} (hw : Region.wanted o (yielded ops a.tmps) = true) (ty : TypeId) (x : Operand) (ho : o.op = .load ty x)
    (g : Nat) (hx : a.eval x = .pointer (some ⟨g, 0, Option.none⟩)) (t : TypeId) (cs : Array Value) (fr : Nat × Nat) (d : TypeDesc) (hg : w.heap[g]? = some (.cells cs t fr))
    (hu : P.underlying ty = some d) (hd : (match d with | .struct _ | .array _ _ => true | _ => false) = true) (hi : (P.info? ty).map (·.size) = some cs.size)
    (h : wpList P ops Q rest (a.put o.dst (.agg cs)) w) : wpList P ops Q (o :: rest) a w :=
  wpList_step fun K hK => by rw [if_pos hw]; exact wp_load_row ty x ho g hx t cs fr d hg hu hd hi (hK _ _ h)
end Go.Proofs.Ytjmgnfpcieofkaa

/- record: what its bytes say; a bit that is turned is found. No call is spoken of. -/
namespace Go.Proofs.Ytjmgnfpcieofkaa
set_option linter.unusedVariables false
set_option linter.unusedSimpArgs false

end Go.Proofs.Ytjmgnfpcieofkaa

/- A record as an argument; 'of'; how both encodings end. -/
namespace Go.Proofs.Ytjmgnfpcieofkaa
open Go.ChangeShapes Go.WideShapes Go.ChangeAt Go.RowKit
set_option linter.unusedVariables false
set_option linter.unusedSimpArgs false
section
variable {H : Type} {enc : TypeId × Value → H} {w : World} {base : Nat} {spare : Nat → Bool} {held : Bool}

theorem trod_b8 {P : Program} {t : TypeId} {fuel : Nat} {cs : List Value} {x : DataW H × List MemPlace} (ht : P.underlying t = some (.int .u8)) (h : DataW.trod enc P w base spare held fuel t cs = some x) : ∃ c : UInt8, cs = [vb c] := by
  obtain ⟨n, rfl, _, hw⟩ := DataW.trod_int ht h
  obtain ⟨h0, h1⟩ := wf_u8 hw
  refine ⟨UInt8.ofNat n.toNat, ?_⟩
  have : (UInt8.ofNat n.toNat).toNat = n.toNat := by simp; omega
  simp only [vb, this]
  rw [Int.toNat_of_nonneg h0]
structure RecS.Nums (s : RecS) : Prop where
  seq : s.seq < 4294967296
  floor : s.floor < 4294967296
  bytes : s.bytes < 4294967296
  sum : s.sum < 4294967296
  done : s.done < 4294967296
theorem RecS.Nums.ok {s : RecS} (h : s.Nums) (hi : s.init.length ≤ 1000000) : s.Ok := ⟨h.seq, h.floor, h.bytes, h.sum, h.done, hi⟩

end

/-- both encodings end so -/
def encErr (s : RecS) : Nat := if s.right = true then 0 else 1
def encGot (s : RecS) : List UInt8 := if s.right = true then recBytes s else []
theorem RecEnd.both {s : RecS} {w : World} {e : Ending} {w' : World} (h : RecEnd s w e w') : ∃ out, e = .returned (.tuple #[out, .int .i64 (encErr s : Nat)]) ∧ (ownR out (encGot s) * all w).on w' ∧ Str w w' := by
  rcases h with ⟨hr, out, rfl, h1, h2⟩ | ⟨hr, rfl, hb⟩
  · refine ⟨out, ?_, ?_, h2⟩
    · rw [encErr, if_pos hr]; rfl
    · rw [encGot, if_pos hr]; exact h1
  · refine ⟨.slice Option.none 0 0, ?_, ?_, Str.below hb⟩
    · rw [encErr, if_neg (by simp [hr])]; rfl
    · rw [encGot, if_neg (by simp [hr])]; exact own_nil _ _ ((on_all w).below hb)

end Go.Proofs.Ytjmgnfpcieofkaa
