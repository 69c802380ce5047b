/-
  No cell of these rows narrows 'for every input' (looked for: loops, veiled, ifaces, maps, wideKeys, modest, calm, conditions, laid).
  DERIVED. THE GIVEN ROWS OF THIS SEAT. 5 by the template 'for every input the law returns true; each argument reads behind the call as it read before'; 0 by the template 'total and deterministic' (their statements: YtdieaegajahdpaaTotals.lean).
  GIVEN WITH THE SEED: the statements are not yours to turn. If you find one false, say at which input.
  Laid BY PROGRAM, IN A SANDBOX (cutbox-rows.mjs): the forced cells as the released guide's own fill.sh prints them over the translation a7bb93542053022c… (all of the seat's roots in one cut). By AI agents, Wed Nov 11 2026. No macro, syntax, notation, axiom, sorry.
-/
import Derived.Test.YtdieaegajahdpaaChecked
import GoSem.Claim
import GoSem.ClaimJoined
import GoSem.ClaimMapViews
import Derived.JoinedTies
import Derived.KernelRfl
namespace Go.Proofs.Ytdieaegajahdpaa
/- THE CELL 'sum', in the pinned program and in every row, IS THE sha256 OF THE DUMP (.gsa) THAT YtdieaegajahdpaaProg.lean LOADS. Nothing in Lean hashes anything: it is a label: what it is worth is what the hold of that sum in a sandbox is worth. -/
noncomputable def Try.pinned : Pinned := { name := "ytdieaegajahdpaa", sum := "a7bb93542053022cfe2a9da2278155c8a0efa8150029a3d49888704290be4b7f", checked := Try.checked }
namespace Rows
def none {H : Type} : Left H := { results := [], args := [] }

/-- 'bosunlaw13.RecordBytes': WHATEVER THE INPUT: true; the input reads as it did. -/
def recordBytesSpec : ChangeSpec := { name := "recordBytes", fn := fun _ => fun
  | [d1, d2] => { results := [.lit (.bool true)], args := [d1, d2] }
  | _ => none }
def recordBytesRow : OpenClaim := { program := "ytdieaegajahdpaa", sum := "a7bb93542053022cfe2a9da2278155c8a0efa8150029a3d49888704290be4b7f", func := "bosun/bosunlaw13.RecordBytes", spec := "recordBytes", apart := false }
def RecordBytesSaid : Prop := recordBytesRow.holds Try.pinned (OpenSpec.ofChange recordBytesSpec)

/-- ITS FALSE NEIGHBOUR: 'it returns false'. Refute it at one input. -/
def recordBytesWrong : ChangeSpec := { name := "recordBytes", fn := fun _ => fun
  | [d1, d2] => { results := [.lit (.bool false)], args := [d1, d2] }
  | _ => none }
def RecordBytesWrongFalsely : Prop := recordBytesRow.holds Try.pinned (OpenSpec.ofChange recordBytesWrong)

/-- 'bosunlaw13.RecordParses': WHATEVER THE INPUT: true; the input reads as it did. -/
def recordParsesSpec : ChangeSpec := { name := "recordParses", fn := fun _ => fun
  | [d1, d2] => { results := [.lit (.bool true)], args := [d1, d2] }
  | _ => none }
def recordParsesRow : OpenClaim := { program := "ytdieaegajahdpaa", sum := "a7bb93542053022cfe2a9da2278155c8a0efa8150029a3d49888704290be4b7f", func := "bosun/bosunlaw13.RecordParses", spec := "recordParses", apart := false }
def RecordParsesSaid : Prop := recordParsesRow.holds Try.pinned (OpenSpec.ofChange recordParsesSpec)

/-- ITS FALSE NEIGHBOUR: 'it returns false'. Refute it at one input. -/
def recordParsesWrong : ChangeSpec := { name := "recordParses", fn := fun _ => fun
  | [d1, d2] => { results := [.lit (.bool false)], args := [d1, d2] }
  | _ => none }
def RecordParsesWrongFalsely : Prop := recordParsesRow.holds Try.pinned (OpenSpec.ofChange recordParsesWrong)

/-- 'bosunlaw16.OpcodeParses': WHATEVER THE INPUT: true; the input reads as it did. -/
def opcodeParsesSpec : ChangeSpec := { name := "opcodeParses", fn := fun _ => fun
  | [d] => { results := [.lit (.bool true)], args := [d] }
  | _ => none }
def opcodeParsesRow : OpenClaim := { program := "ytdieaegajahdpaa", sum := "a7bb93542053022cfe2a9da2278155c8a0efa8150029a3d49888704290be4b7f", func := "bosun/bosunlaw16.OpcodeParses", spec := "opcodeParses", apart := false }
def OpcodeParsesSaid : Prop := opcodeParsesRow.holds Try.pinned (OpenSpec.ofChange opcodeParsesSpec)

/-- ITS FALSE NEIGHBOUR: 'it returns false'. Refute it at one input. -/
def opcodeParsesWrong : ChangeSpec := { name := "opcodeParses", fn := fun _ => fun
  | [d] => { results := [.lit (.bool false)], args := [d] }
  | _ => none }
def OpcodeParsesWrongFalsely : Prop := opcodeParsesRow.holds Try.pinned (OpenSpec.ofChange opcodeParsesWrong)

/-- 'bosunlaw16.OpcodeRequests': WHATEVER THE INPUT: true; the input reads as it did. -/
def opcodeRequestsSpec : ChangeSpec := { name := "opcodeRequests", fn := fun _ => fun
  | [d] => { results := [.lit (.bool true)], args := [d] }
  | _ => none }
def opcodeRequestsRow : OpenClaim := { program := "ytdieaegajahdpaa", sum := "a7bb93542053022cfe2a9da2278155c8a0efa8150029a3d49888704290be4b7f", func := "bosun/bosunlaw16.OpcodeRequests", spec := "opcodeRequests", apart := false }
def OpcodeRequestsSaid : Prop := opcodeRequestsRow.holds Try.pinned (OpenSpec.ofChange opcodeRequestsSpec)

/-- ITS FALSE NEIGHBOUR: 'it returns false'. Refute it at one input. -/
def opcodeRequestsWrong : ChangeSpec := { name := "opcodeRequests", fn := fun _ => fun
  | [d] => { results := [.lit (.bool false)], args := [d] }
  | _ => none }
def OpcodeRequestsWrongFalsely : Prop := opcodeRequestsRow.holds Try.pinned (OpenSpec.ofChange opcodeRequestsWrong)

/-- 'bosunlaw16.OpcodeAnswers': WHATEVER THE INPUT: true; the input reads as it did. -/
def opcodeAnswersSpec : ChangeSpec := { name := "opcodeAnswers", fn := fun _ => fun
  | [d1, d2, d3] => { results := [.lit (.bool true)], args := [d1, d2, d3] }
  | _ => none }
def opcodeAnswersRow : OpenClaim := { program := "ytdieaegajahdpaa", sum := "a7bb93542053022cfe2a9da2278155c8a0efa8150029a3d49888704290be4b7f", func := "bosun/bosunlaw16.OpcodeAnswers", spec := "opcodeAnswers", apart := false }
def OpcodeAnswersSaid : Prop := opcodeAnswersRow.holds Try.pinned (OpenSpec.ofChange opcodeAnswersSpec)

/-- ITS FALSE NEIGHBOUR: 'it returns false'. Refute it at one input. -/
def opcodeAnswersWrong : ChangeSpec := { name := "opcodeAnswers", fn := fun _ => fun
  | [d1, d2, d3] => { results := [.lit (.bool false)], args := [d1, d2, d3] }
  | _ => none }
def OpcodeAnswersWrongFalsely : Prop := opcodeAnswersRow.holds Try.pinned (OpenSpec.ofChange opcodeAnswersWrong)

/- THE SECOND FORM. 'bulk': how many values and letters a reading holds, each counted each time it is reached (what is shared counts as often as it is met; a slice's spare places count too). A statement '..UptoSaid' is the law's where the arguments, and the package variables that the reading takes, are together of bulk at most 1048576: NARROWER than '..Said'. Prove '..Said' where nothing that the law and all that it calls make is longer than what came in: it says more and counts as full. Else prove '..UptoSaid'. A law counts once. -/
mutual
def uptoBulk {H : Type} : DataW H → Nat
  | .lit (.string bytes) => bytes.length + 1
  | .lit _ => 1
  | .nil => 1
  | .ptr d => uptoBulk d + 1
  | .slice elems spare => uptoBulkAll elems + uptoBulkAll spare + 1
  | .agg parts => uptoBulkAll parts + 1
  | .iface _ d => uptoBulk d + 1
  | .map entries => uptoBulkEntries entries + 1
  | .held _ => 1
def uptoBulkAll {H : Type} : List (DataW H) → Nat
  | [] => 0
  | d :: r => uptoBulk d + uptoBulkAll r
def uptoBulkEntries {H : Type} : List (Lit × DataW H) → Nat
  | [] => 0
  | x :: r => uptoBulkEntry x + uptoBulkEntries r
def uptoBulkEntry {H : Type} : Lit × DataW H → Nat
  | (.string bytes, d) => bytes.length + uptoBulk d + 1
  | (_, d) => uptoBulk d + 1
 end
def uptoSmall : (H : Type) → List (DataW H) → Bool := fun _ ds => decide (uptoBulkAll ds ≤ 1048576)
def OpenSpec.upto (s : _root_.Go.ChangeSpec) : _root_.Go.OpenSpec := { _root_.Go.OpenSpec.ofChange s with cond := some uptoSmall }

/-- 'bosunlaw13.RecordBytes', WHERE WHAT IT READS IS OF BULK AT MOST 1048576: true; the input reads as it did. -/
def recordBytesUptoRow : OpenClaim := { program := "ytdieaegajahdpaa", sum := "a7bb93542053022cfe2a9da2278155c8a0efa8150029a3d49888704290be4b7f", func := "bosun/bosunlaw13.RecordBytes", spec := "recordBytes", apart := false, narrowed := true }
def RecordBytesUptoSaid : Prop := recordBytesUptoRow.holds Try.pinned (OpenSpec.upto recordBytesSpec)

/-- 'bosunlaw13.RecordParses', WHERE WHAT IT READS IS OF BULK AT MOST 1048576: true; the input reads as it did. -/
def recordParsesUptoRow : OpenClaim := { program := "ytdieaegajahdpaa", sum := "a7bb93542053022cfe2a9da2278155c8a0efa8150029a3d49888704290be4b7f", func := "bosun/bosunlaw13.RecordParses", spec := "recordParses", apart := false, narrowed := true }
def RecordParsesUptoSaid : Prop := recordParsesUptoRow.holds Try.pinned (OpenSpec.upto recordParsesSpec)

/-- 'bosunlaw16.OpcodeParses', WHERE WHAT IT READS IS OF BULK AT MOST 1048576: true; the input reads as it did. -/
def opcodeParsesUptoRow : OpenClaim := { program := "ytdieaegajahdpaa", sum := "a7bb93542053022cfe2a9da2278155c8a0efa8150029a3d49888704290be4b7f", func := "bosun/bosunlaw16.OpcodeParses", spec := "opcodeParses", apart := false, narrowed := true }
def OpcodeParsesUptoSaid : Prop := opcodeParsesUptoRow.holds Try.pinned (OpenSpec.upto opcodeParsesSpec)

/-- 'bosunlaw16.OpcodeRequests', WHERE WHAT IT READS IS OF BULK AT MOST 1048576: true; the input reads as it did. -/
def opcodeRequestsUptoRow : OpenClaim := { program := "ytdieaegajahdpaa", sum := "a7bb93542053022cfe2a9da2278155c8a0efa8150029a3d49888704290be4b7f", func := "bosun/bosunlaw16.OpcodeRequests", spec := "opcodeRequests", apart := false, narrowed := true }
def OpcodeRequestsUptoSaid : Prop := opcodeRequestsUptoRow.holds Try.pinned (OpenSpec.upto opcodeRequestsSpec)

/-- 'bosunlaw16.OpcodeAnswers', WHERE WHAT IT READS IS OF BULK AT MOST 1048576: true; the input reads as it did. -/
def opcodeAnswersUptoRow : OpenClaim := { program := "ytdieaegajahdpaa", sum := "a7bb93542053022cfe2a9da2278155c8a0efa8150029a3d49888704290be4b7f", func := "bosun/bosunlaw16.OpcodeAnswers", spec := "opcodeAnswers", apart := false, narrowed := true }
def OpcodeAnswersUptoSaid : Prop := opcodeAnswersUptoRow.holds Try.pinned (OpenSpec.upto opcodeAnswersSpec)

end Rows
end Go.Proofs.Ytdieaegajahdpaa
