/-
  NARROWER THAN 'FOR EVERY INPUT', by the rows' own cells (each row's printed sentence says how): FieldSums: laid · FieldPowers: laid · FieldRoots: laid · FieldBytes: laid · FieldRules: laid · ScalarSums: laid · ScalarBytes: laid · ScalarRules: laid · PacketMatches: laid.
  DERIVED. THE GIVEN ROWS OF THIS SEAT. 9 by the template 'for every input the law returns true; each argument reads behind the call as it read before'; 0 by the template 'total and deterministic' (their statements: YtgkofpfjbjnhfaaDoorTotals.lean).
  GIVEN WITH THE SEED: the statements are not yours to turn. If you find one false, say at which input.
  Laid BY PROGRAM, IN A SANDBOX (cutbox-rows.mjs): the forced cells as the released guide's own fill.sh prints them over the translation fc56975630a36348… (all of the seat's roots in one cut). By AI agents, Wed Nov 11 2026. No macro, syntax, notation, axiom, sorry.
-/
import Derived.Test.YtgkofpfjbjnhfaaDoorChecked
import GoSem.Claim
import GoSem.ClaimJoined
import GoSem.ClaimMapViews
import Derived.JoinedTies
import Derived.KernelRfl
namespace Go.Proofs.YtgkofpfjbjnhfaaDoor
/- THE CELL 'sum', in the pinned program and in every row, IS THE sha256 OF THE DUMP (.gsa) THAT YtgkofpfjbjnhfaaDoorProg.lean LOADS. Nothing in Lean hashes anything: it is a label: what it is worth is what the hold of that sum in a sandbox is worth. -/
noncomputable def Tryd.pinned : Pinned := { name := "ytgkofpfjbjnhfaadoor", sum := "fc56975630a36348b802869b9620822e5b045e4023ec7c35e07994bbf64d8400", checked := Tryd.checked }
namespace Rows
def none {H : Type} : Left H := { results := [], args := [] }

/- WHAT THE LISTED PACKAGE-LEVEL VARIABLES READ AS WHEN THE CALL BEGINS. Each datum BY PROGRAM (the guide's laid-datum.mjs) off the statement by which the dump's own 'gosem.cut.vars' lays the variable. In a bare row this is a premise. The card (YtgkofpfjbjnhfaaDoorCards.lean) ties it to the program's text. -/
def laid_bosun_field_modulus {H : Type} : DataW H := .agg [.lit (.int .u64 18446744073709551597), .lit (.int .u64 18446744073709551615), .lit (.int .u64 18446744073709551615), .lit (.int .u64 9223372036854775807)]
def laid_bosun_field_eighth {H : Type} : DataW H := .agg [.lit (.int .u64 18446744073709551614), .lit (.int .u64 18446744073709551615), .lit (.int .u64 18446744073709551615), .lit (.int .u64 1152921504606846975)]
def laid_bosun_field_rootOfMinusOne {H : Type} : DataW H := .agg [.lit (.int .u64 14190309331451158704), .lit (.int .u64 3405592160176694392), .lit (.int .u64 3120150775007532967), .lit (.int .u64 3135389899092516619)]
def laid_bosun_field_lessTwo {H : Type} : DataW H := .agg [.lit (.int .u64 18446744073709551595), .lit (.int .u64 18446744073709551615), .lit (.int .u64 18446744073709551615), .lit (.int .u64 9223372036854775807)]
def laid_bosun_scalar_order {H : Type} : DataW H := .agg [.lit (.int .u64 6346243789798364141), .lit (.int .u64 1503914060200516822), .lit (.int .u64 0), .lit (.int .u64 1152921504606846976)]
def laid_bosun_shortsum_first {H : Type} : DataW H := .agg [.lit (.int .u32 1779033703), .lit (.int .u32 3144134277), .lit (.int .u32 1013904242), .lit (.int .u32 2773480762), .lit (.int .u32 1359893119), .lit (.int .u32 2600822924), .lit (.int .u32 528734635), .lit (.int .u32 1541459225)]
def laid_bosun_shortsum_rounds {H : Type} : DataW H := .agg [.lit (.int .u32 1116352408), .lit (.int .u32 1899447441), .lit (.int .u32 3049323471), .lit (.int .u32 3921009573), .lit (.int .u32 961987163), .lit (.int .u32 1508970993), .lit (.int .u32 2453635748), .lit (.int .u32 2870763221), .lit (.int .u32 3624381080), .lit (.int .u32 310598401), .lit (.int .u32 607225278), .lit (.int .u32 1426881987), .lit (.int .u32 1925078388), .lit (.int .u32 2162078206), .lit (.int .u32 2614888103), .lit (.int .u32 3248222580), .lit (.int .u32 3835390401), .lit (.int .u32 4022224774), .lit (.int .u32 264347078), .lit (.int .u32 604807628), .lit (.int .u32 770255983), .lit (.int .u32 1249150122), .lit (.int .u32 1555081692), .lit (.int .u32 1996064986), .lit (.int .u32 2554220882), .lit (.int .u32 2821834349), .lit (.int .u32 2952996808), .lit (.int .u32 3210313671), .lit (.int .u32 3336571891), .lit (.int .u32 3584528711), .lit (.int .u32 113926993), .lit (.int .u32 338241895), .lit (.int .u32 666307205), .lit (.int .u32 773529912), .lit (.int .u32 1294757372), .lit (.int .u32 1396182291), .lit (.int .u32 1695183700), .lit (.int .u32 1986661051), .lit (.int .u32 2177026350), .lit (.int .u32 2456956037), .lit (.int .u32 2730485921), .lit (.int .u32 2820302411), .lit (.int .u32 3259730800), .lit (.int .u32 3345764771), .lit (.int .u32 3516065817), .lit (.int .u32 3600352804), .lit (.int .u32 4094571909), .lit (.int .u32 275423344), .lit (.int .u32 430227734), .lit (.int .u32 506948616), .lit (.int .u32 659060556), .lit (.int .u32 883997877), .lit (.int .u32 958139571), .lit (.int .u32 1322822218), .lit (.int .u32 1537002063), .lit (.int .u32 1747873779), .lit (.int .u32 1955562222), .lit (.int .u32 2024104815), .lit (.int .u32 2227730452), .lit (.int .u32 2361852424), .lit (.int .u32 2428436474), .lit (.int .u32 2756734187), .lit (.int .u32 3204031479), .lit (.int .u32 3329325298)]
def laid_bosun_packet_lengths {H : Type} : DataW H := .agg [.lit (.int .i64 0), .lit (.int .i64 4), .lit (.int .i64 1), .lit (.int .i64 4), .lit (.int .i64 4), .lit (.int .i64 32), .lit (.int .i64 64)]

/-- 'bosunlaw05.FieldSums': WHATEVER THE INPUT: true; the input reads as it did. -/
def fieldSumsSpec : ChangeSpec := { name := "fieldSums", fn := fun _ => fun
  | [d1, d2, d3] => { results := [.lit (.bool true)], args := [d1, d2, d3] }
  | _ => none }
def fieldSumsRow : OpenClaim := { program := "ytgkofpfjbjnhfaadoor", sum := "fc56975630a36348b802869b9620822e5b045e4023ec7c35e07994bbf64d8400", func := "bosun/bosunlaw05.FieldSums", spec := "fieldSums", inPlace := ["math/bits.Add64", "math/bits.Sub64"], named := ["bosun/field.eighth", "bosun/field.rootOfMinusOne", "bosun/field.modulus"], apart := false, laid := [("bosun/field.modulus", laid_bosun_field_modulus), ("bosun/field.eighth", laid_bosun_field_eighth), ("bosun/field.rootOfMinusOne", laid_bosun_field_rootOfMinusOne)] }
def FieldSumsSaid : Prop := fieldSumsRow.holds Tryd.pinned (OpenSpec.ofChange fieldSumsSpec)

/-- ITS FALSE NEIGHBOUR: 'it returns false'. Refute it at one input. -/
def fieldSumsWrong : ChangeSpec := { name := "fieldSums", fn := fun _ => fun
  | [d1, d2, d3] => { results := [.lit (.bool false)], args := [d1, d2, d3] }
  | _ => none }
def FieldSumsWrongFalsely : Prop := fieldSumsRow.holds Tryd.pinned (OpenSpec.ofChange fieldSumsWrong)

/-- 'bosunlaw05.FieldPowers': WHATEVER THE INPUT: true; the input reads as it did. -/
def fieldPowersSpec : ChangeSpec := { name := "fieldPowers", fn := fun _ => fun
  | [d1, d2] => { results := [.lit (.bool true)], args := [d1, d2] }
  | _ => none }
def fieldPowersRow : OpenClaim := { program := "ytgkofpfjbjnhfaadoor", sum := "fc56975630a36348b802869b9620822e5b045e4023ec7c35e07994bbf64d8400", func := "bosun/bosunlaw05.FieldPowers", spec := "fieldPowers", inPlace := ["math/bits.Add64", "math/bits.Sub64"], named := ["bosun/field.eighth", "bosun/field.rootOfMinusOne", "bosun/field.modulus", "bosun/field.lessTwo"], apart := false, laid := [("bosun/field.modulus", laid_bosun_field_modulus), ("bosun/field.lessTwo", laid_bosun_field_lessTwo), ("bosun/field.eighth", laid_bosun_field_eighth), ("bosun/field.rootOfMinusOne", laid_bosun_field_rootOfMinusOne)] }
def FieldPowersSaid : Prop := fieldPowersRow.holds Tryd.pinned (OpenSpec.ofChange fieldPowersSpec)

/-- ITS FALSE NEIGHBOUR: 'it returns false'. Refute it at one input. -/
def fieldPowersWrong : ChangeSpec := { name := "fieldPowers", fn := fun _ => fun
  | [d1, d2] => { results := [.lit (.bool false)], args := [d1, d2] }
  | _ => none }
def FieldPowersWrongFalsely : Prop := fieldPowersRow.holds Tryd.pinned (OpenSpec.ofChange fieldPowersWrong)

/-- 'bosunlaw05.FieldRoots': WHATEVER THE INPUT: true; the input reads as it did. -/
def fieldRootsSpec : ChangeSpec := { name := "fieldRoots", fn := fun _ => fun
  | [d] => { results := [.lit (.bool true)], args := [d] }
  | _ => none }
def fieldRootsRow : OpenClaim := { program := "ytgkofpfjbjnhfaadoor", sum := "fc56975630a36348b802869b9620822e5b045e4023ec7c35e07994bbf64d8400", func := "bosun/bosunlaw05.FieldRoots", spec := "fieldRoots", inPlace := ["math/bits.Add64", "math/bits.Sub64"], named := ["bosun/field.eighth", "bosun/field.rootOfMinusOne", "bosun/field.modulus"], apart := false, laid := [("bosun/field.modulus", laid_bosun_field_modulus), ("bosun/field.eighth", laid_bosun_field_eighth), ("bosun/field.rootOfMinusOne", laid_bosun_field_rootOfMinusOne)] }
def FieldRootsSaid : Prop := fieldRootsRow.holds Tryd.pinned (OpenSpec.ofChange fieldRootsSpec)

/-- ITS FALSE NEIGHBOUR: 'it returns false'. Refute it at one input. -/
def fieldRootsWrong : ChangeSpec := { name := "fieldRoots", fn := fun _ => fun
  | [d] => { results := [.lit (.bool false)], args := [d] }
  | _ => none }
def FieldRootsWrongFalsely : Prop := fieldRootsRow.holds Tryd.pinned (OpenSpec.ofChange fieldRootsWrong)

/-- 'bosunlaw05.FieldBytes': WHATEVER THE INPUT: true; the input reads as it did. -/
def fieldBytesSpec : ChangeSpec := { name := "fieldBytes", fn := fun _ => fun
  | [d1, d2] => { results := [.lit (.bool true)], args := [d1, d2] }
  | _ => none }
def fieldBytesRow : OpenClaim := { program := "ytgkofpfjbjnhfaadoor", sum := "fc56975630a36348b802869b9620822e5b045e4023ec7c35e07994bbf64d8400", func := "bosun/bosunlaw05.FieldBytes", spec := "fieldBytes", inPlace := ["math/bits.Add64", "math/bits.Sub64"], named := ["bosun/field.eighth", "bosun/field.rootOfMinusOne", "bosun/field.modulus"], apart := false, laid := [("bosun/field.modulus", laid_bosun_field_modulus), ("bosun/field.eighth", laid_bosun_field_eighth), ("bosun/field.rootOfMinusOne", laid_bosun_field_rootOfMinusOne)] }
def FieldBytesSaid : Prop := fieldBytesRow.holds Tryd.pinned (OpenSpec.ofChange fieldBytesSpec)

/-- ITS FALSE NEIGHBOUR: 'it returns false'. Refute it at one input. -/
def fieldBytesWrong : ChangeSpec := { name := "fieldBytes", fn := fun _ => fun
  | [d1, d2] => { results := [.lit (.bool false)], args := [d1, d2] }
  | _ => none }
def FieldBytesWrongFalsely : Prop := fieldBytesRow.holds Tryd.pinned (OpenSpec.ofChange fieldBytesWrong)

/-- 'bosunlaw05.FieldRules': WHATEVER THE INPUT: true; the input reads as it did. -/
def fieldRulesSpec : ChangeSpec := { name := "fieldRules", fn := fun _ => fun
  | [d1, d2, d3] => { results := [.lit (.bool true)], args := [d1, d2, d3] }
  | _ => none }
def fieldRulesRow : OpenClaim := { program := "ytgkofpfjbjnhfaadoor", sum := "fc56975630a36348b802869b9620822e5b045e4023ec7c35e07994bbf64d8400", func := "bosun/bosunlaw05.FieldRules", spec := "fieldRules", inPlace := ["math/bits.Add64", "math/bits.Sub64"], named := ["bosun/field.eighth", "bosun/field.rootOfMinusOne", "bosun/field.modulus", "bosun/field.lessTwo"], apart := false, laid := [("bosun/field.modulus", laid_bosun_field_modulus), ("bosun/field.lessTwo", laid_bosun_field_lessTwo), ("bosun/field.eighth", laid_bosun_field_eighth), ("bosun/field.rootOfMinusOne", laid_bosun_field_rootOfMinusOne)] }
def FieldRulesSaid : Prop := fieldRulesRow.holds Tryd.pinned (OpenSpec.ofChange fieldRulesSpec)

/-- ITS FALSE NEIGHBOUR: 'it returns false'. Refute it at one input. -/
def fieldRulesWrong : ChangeSpec := { name := "fieldRules", fn := fun _ => fun
  | [d1, d2, d3] => { results := [.lit (.bool false)], args := [d1, d2, d3] }
  | _ => none }
def FieldRulesWrongFalsely : Prop := fieldRulesRow.holds Tryd.pinned (OpenSpec.ofChange fieldRulesWrong)

/-- 'bosunlaw06.ScalarSums': WHATEVER THE INPUT: true; the input reads as it did. -/
def scalarSumsSpec : ChangeSpec := { name := "scalarSums", fn := fun _ => fun
  | [d1, d2, d3] => { results := [.lit (.bool true)], args := [d1, d2, d3] }
  | _ => none }
def scalarSumsRow : OpenClaim := { program := "ytgkofpfjbjnhfaadoor", sum := "fc56975630a36348b802869b9620822e5b045e4023ec7c35e07994bbf64d8400", func := "bosun/bosunlaw06.ScalarSums", spec := "scalarSums", inPlace := ["math/bits.Sub64", "math/bits.Add64"], named := ["bosun/scalar.order"], apart := false, laid := [("bosun/scalar.order", laid_bosun_scalar_order)] }
def ScalarSumsSaid : Prop := scalarSumsRow.holds Tryd.pinned (OpenSpec.ofChange scalarSumsSpec)

/-- ITS FALSE NEIGHBOUR: 'it returns false'. Refute it at one input. -/
def scalarSumsWrong : ChangeSpec := { name := "scalarSums", fn := fun _ => fun
  | [d1, d2, d3] => { results := [.lit (.bool false)], args := [d1, d2, d3] }
  | _ => none }
def ScalarSumsWrongFalsely : Prop := scalarSumsRow.holds Tryd.pinned (OpenSpec.ofChange scalarSumsWrong)

/-- 'bosunlaw06.ScalarBytes': WHATEVER THE INPUT: true; the input reads as it did. -/
def scalarBytesSpec : ChangeSpec := { name := "scalarBytes", fn := fun _ => fun
  | [d1, d2] => { results := [.lit (.bool true)], args := [d1, d2] }
  | _ => none }
def scalarBytesRow : OpenClaim := { program := "ytgkofpfjbjnhfaadoor", sum := "fc56975630a36348b802869b9620822e5b045e4023ec7c35e07994bbf64d8400", func := "bosun/bosunlaw06.ScalarBytes", spec := "scalarBytes", inPlace := ["math/bits.Sub64"], named := ["bosun/scalar.order"], apart := false, laid := [("bosun/scalar.order", laid_bosun_scalar_order)] }
def ScalarBytesSaid : Prop := scalarBytesRow.holds Tryd.pinned (OpenSpec.ofChange scalarBytesSpec)

/-- ITS FALSE NEIGHBOUR: 'it returns false'. Refute it at one input. -/
def scalarBytesWrong : ChangeSpec := { name := "scalarBytes", fn := fun _ => fun
  | [d1, d2] => { results := [.lit (.bool false)], args := [d1, d2] }
  | _ => none }
def ScalarBytesWrongFalsely : Prop := scalarBytesRow.holds Tryd.pinned (OpenSpec.ofChange scalarBytesWrong)

/-- 'bosunlaw06.ScalarRules': WHATEVER THE INPUT: true; the input reads as it did. -/
def scalarRulesSpec : ChangeSpec := { name := "scalarRules", fn := fun _ => fun
  | [d1, d2, d3] => { results := [.lit (.bool true)], args := [d1, d2, d3] }
  | _ => none }
def scalarRulesRow : OpenClaim := { program := "ytgkofpfjbjnhfaadoor", sum := "fc56975630a36348b802869b9620822e5b045e4023ec7c35e07994bbf64d8400", func := "bosun/bosunlaw06.ScalarRules", spec := "scalarRules", inPlace := ["math/bits.Sub64", "math/bits.Add64"], named := ["bosun/scalar.order"], apart := false, laid := [("bosun/scalar.order", laid_bosun_scalar_order)] }
def ScalarRulesSaid : Prop := scalarRulesRow.holds Tryd.pinned (OpenSpec.ofChange scalarRulesSpec)

/-- ITS FALSE NEIGHBOUR: 'it returns false'. Refute it at one input. -/
def scalarRulesWrong : ChangeSpec := { name := "scalarRules", fn := fun _ => fun
  | [d1, d2, d3] => { results := [.lit (.bool false)], args := [d1, d2, d3] }
  | _ => none }
def ScalarRulesWrongFalsely : Prop := scalarRulesRow.holds Tryd.pinned (OpenSpec.ofChange scalarRulesWrong)

/-- 'bosunlaw12.PacketMatches': WHATEVER THE INPUT: true; the input reads as it did. -/
def packetMatchesSpec : ChangeSpec := { name := "packetMatches", fn := fun _ => fun
  | [d1, d2, d3] => { results := [.lit (.bool true)], args := [d1, d2, d3] }
  | _ => none }
def packetMatchesRow : OpenClaim := { program := "ytgkofpfjbjnhfaadoor", sum := "fc56975630a36348b802869b9620822e5b045e4023ec7c35e07994bbf64d8400", func := "bosun/bosunlaw12.PacketMatches", spec := "packetMatches", named := ["bosun/packet.lengths", "bosun/shortsum.first", "bosun/shortsum.rounds"], apart := false, laid := [("bosun/shortsum.first", laid_bosun_shortsum_first), ("bosun/shortsum.rounds", laid_bosun_shortsum_rounds), ("bosun/packet.lengths", laid_bosun_packet_lengths)] }
def PacketMatchesSaid : Prop := packetMatchesRow.holds Tryd.pinned (OpenSpec.ofChange packetMatchesSpec)

/-- ITS FALSE NEIGHBOUR: 'it returns false'. Refute it at one input. -/
def packetMatchesWrong : ChangeSpec := { name := "packetMatches", fn := fun _ => fun
  | [d1, d2, d3] => { results := [.lit (.bool false)], args := [d1, d2, d3] }
  | _ => none }
def PacketMatchesWrongFalsely : Prop := packetMatchesRow.holds Tryd.pinned (OpenSpec.ofChange packetMatchesWrong)

/- THE SECOND FORM. 'bulk': how many values and letters a reading holds, each counted each time it is reached (what is shared counts as often as it is met; a slice's spare places count too). A statement '..UptoSaid' is the law's where the arguments, and the package variables that the reading takes, are together of bulk at most 1048576: NARROWER than '..Said'. Prove '..Said' where nothing that the law and all that it calls make is longer than what came in: it says more and counts as full. Else prove '..UptoSaid'. A law counts once. -/
mutual
def uptoBulk {H : Type} : DataW H → Nat
  | .lit (.string bytes) => bytes.length + 1
  | .lit _ => 1
  | .nil => 1
  | .ptr d => uptoBulk d + 1
  | .slice elems spare => uptoBulkAll elems + uptoBulkAll spare + 1
  | .agg parts => uptoBulkAll parts + 1
  | .iface _ d => uptoBulk d + 1
  | .map entries => uptoBulkEntries entries + 1
  | .held _ => 1
def uptoBulkAll {H : Type} : List (DataW H) → Nat
  | [] => 0
  | d :: r => uptoBulk d + uptoBulkAll r
def uptoBulkEntries {H : Type} : List (Lit × DataW H) → Nat
  | [] => 0
  | x :: r => uptoBulkEntry x + uptoBulkEntries r
def uptoBulkEntry {H : Type} : Lit × DataW H → Nat
  | (.string bytes, d) => bytes.length + uptoBulk d + 1
  | (_, d) => uptoBulk d + 1
 end
def uptoSmall : (H : Type) → List (DataW H) → Bool := fun _ ds => decide (uptoBulkAll ds ≤ 1048576)
def OpenSpec.upto (s : _root_.Go.ChangeSpec) : _root_.Go.OpenSpec := { _root_.Go.OpenSpec.ofChange s with cond := some uptoSmall }

/-- 'bosunlaw05.FieldSums', WHERE WHAT IT READS IS OF BULK AT MOST 1048576: true; the input reads as it did. -/
def fieldSumsUptoRow : OpenClaim := { program := "ytgkofpfjbjnhfaadoor", sum := "fc56975630a36348b802869b9620822e5b045e4023ec7c35e07994bbf64d8400", func := "bosun/bosunlaw05.FieldSums", spec := "fieldSums", inPlace := ["math/bits.Add64", "math/bits.Sub64"], named := ["bosun/field.eighth", "bosun/field.rootOfMinusOne", "bosun/field.modulus"], apart := false, laid := [("bosun/field.modulus", laid_bosun_field_modulus), ("bosun/field.eighth", laid_bosun_field_eighth), ("bosun/field.rootOfMinusOne", laid_bosun_field_rootOfMinusOne)], narrowed := true }
def FieldSumsUptoSaid : Prop := fieldSumsUptoRow.holds Tryd.pinned (OpenSpec.upto fieldSumsSpec)

/-- 'bosunlaw05.FieldPowers', WHERE WHAT IT READS IS OF BULK AT MOST 1048576: true; the input reads as it did. -/
def fieldPowersUptoRow : OpenClaim := { program := "ytgkofpfjbjnhfaadoor", sum := "fc56975630a36348b802869b9620822e5b045e4023ec7c35e07994bbf64d8400", func := "bosun/bosunlaw05.FieldPowers", spec := "fieldPowers", inPlace := ["math/bits.Add64", "math/bits.Sub64"], named := ["bosun/field.eighth", "bosun/field.rootOfMinusOne", "bosun/field.modulus", "bosun/field.lessTwo"], apart := false, laid := [("bosun/field.modulus", laid_bosun_field_modulus), ("bosun/field.lessTwo", laid_bosun_field_lessTwo), ("bosun/field.eighth", laid_bosun_field_eighth), ("bosun/field.rootOfMinusOne", laid_bosun_field_rootOfMinusOne)], narrowed := true }
def FieldPowersUptoSaid : Prop := fieldPowersUptoRow.holds Tryd.pinned (OpenSpec.upto fieldPowersSpec)

/-- 'bosunlaw05.FieldRoots', WHERE WHAT IT READS IS OF BULK AT MOST 1048576: true; the input reads as it did. -/
def fieldRootsUptoRow : OpenClaim := { program := "ytgkofpfjbjnhfaadoor", sum := "fc56975630a36348b802869b9620822e5b045e4023ec7c35e07994bbf64d8400", func := "bosun/bosunlaw05.FieldRoots", spec := "fieldRoots", inPlace := ["math/bits.Add64", "math/bits.Sub64"], named := ["bosun/field.eighth", "bosun/field.rootOfMinusOne", "bosun/field.modulus"], apart := false, laid := [("bosun/field.modulus", laid_bosun_field_modulus), ("bosun/field.eighth", laid_bosun_field_eighth), ("bosun/field.rootOfMinusOne", laid_bosun_field_rootOfMinusOne)], narrowed := true }
def FieldRootsUptoSaid : Prop := fieldRootsUptoRow.holds Tryd.pinned (OpenSpec.upto fieldRootsSpec)

/-- 'bosunlaw05.FieldBytes', WHERE WHAT IT READS IS OF BULK AT MOST 1048576: true; the input reads as it did. -/
def fieldBytesUptoRow : OpenClaim := { program := "ytgkofpfjbjnhfaadoor", sum := "fc56975630a36348b802869b9620822e5b045e4023ec7c35e07994bbf64d8400", func := "bosun/bosunlaw05.FieldBytes", spec := "fieldBytes", inPlace := ["math/bits.Add64", "math/bits.Sub64"], named := ["bosun/field.eighth", "bosun/field.rootOfMinusOne", "bosun/field.modulus"], apart := false, laid := [("bosun/field.modulus", laid_bosun_field_modulus), ("bosun/field.eighth", laid_bosun_field_eighth), ("bosun/field.rootOfMinusOne", laid_bosun_field_rootOfMinusOne)], narrowed := true }
def FieldBytesUptoSaid : Prop := fieldBytesUptoRow.holds Tryd.pinned (OpenSpec.upto fieldBytesSpec)

/-- 'bosunlaw05.FieldRules', WHERE WHAT IT READS IS OF BULK AT MOST 1048576: true; the input reads as it did. -/
def fieldRulesUptoRow : OpenClaim := { program := "ytgkofpfjbjnhfaadoor", sum := "fc56975630a36348b802869b9620822e5b045e4023ec7c35e07994bbf64d8400", func := "bosun/bosunlaw05.FieldRules", spec := "fieldRules", inPlace := ["math/bits.Add64", "math/bits.Sub64"], named := ["bosun/field.eighth", "bosun/field.rootOfMinusOne", "bosun/field.modulus", "bosun/field.lessTwo"], apart := false, laid := [("bosun/field.modulus", laid_bosun_field_modulus), ("bosun/field.lessTwo", laid_bosun_field_lessTwo), ("bosun/field.eighth", laid_bosun_field_eighth), ("bosun/field.rootOfMinusOne", laid_bosun_field_rootOfMinusOne)], narrowed := true }
def FieldRulesUptoSaid : Prop := fieldRulesUptoRow.holds Tryd.pinned (OpenSpec.upto fieldRulesSpec)

/-- 'bosunlaw06.ScalarSums', WHERE WHAT IT READS IS OF BULK AT MOST 1048576: true; the input reads as it did. -/
def scalarSumsUptoRow : OpenClaim := { program := "ytgkofpfjbjnhfaadoor", sum := "fc56975630a36348b802869b9620822e5b045e4023ec7c35e07994bbf64d8400", func := "bosun/bosunlaw06.ScalarSums", spec := "scalarSums", inPlace := ["math/bits.Sub64", "math/bits.Add64"], named := ["bosun/scalar.order"], apart := false, laid := [("bosun/scalar.order", laid_bosun_scalar_order)], narrowed := true }
def ScalarSumsUptoSaid : Prop := scalarSumsUptoRow.holds Tryd.pinned (OpenSpec.upto scalarSumsSpec)

/-- 'bosunlaw06.ScalarBytes', WHERE WHAT IT READS IS OF BULK AT MOST 1048576: true; the input reads as it did. -/
def scalarBytesUptoRow : OpenClaim := { program := "ytgkofpfjbjnhfaadoor", sum := "fc56975630a36348b802869b9620822e5b045e4023ec7c35e07994bbf64d8400", func := "bosun/bosunlaw06.ScalarBytes", spec := "scalarBytes", inPlace := ["math/bits.Sub64"], named := ["bosun/scalar.order"], apart := false, laid := [("bosun/scalar.order", laid_bosun_scalar_order)], narrowed := true }
def ScalarBytesUptoSaid : Prop := scalarBytesUptoRow.holds Tryd.pinned (OpenSpec.upto scalarBytesSpec)

/-- 'bosunlaw06.ScalarRules', WHERE WHAT IT READS IS OF BULK AT MOST 1048576: true; the input reads as it did. -/
def scalarRulesUptoRow : OpenClaim := { program := "ytgkofpfjbjnhfaadoor", sum := "fc56975630a36348b802869b9620822e5b045e4023ec7c35e07994bbf64d8400", func := "bosun/bosunlaw06.ScalarRules", spec := "scalarRules", inPlace := ["math/bits.Sub64", "math/bits.Add64"], named := ["bosun/scalar.order"], apart := false, laid := [("bosun/scalar.order", laid_bosun_scalar_order)], narrowed := true }
def ScalarRulesUptoSaid : Prop := scalarRulesUptoRow.holds Tryd.pinned (OpenSpec.upto scalarRulesSpec)

/-- 'bosunlaw12.PacketMatches', WHERE WHAT IT READS IS OF BULK AT MOST 1048576: true; the input reads as it did. -/
def packetMatchesUptoRow : OpenClaim := { program := "ytgkofpfjbjnhfaadoor", sum := "fc56975630a36348b802869b9620822e5b045e4023ec7c35e07994bbf64d8400", func := "bosun/bosunlaw12.PacketMatches", spec := "packetMatches", named := ["bosun/packet.lengths", "bosun/shortsum.first", "bosun/shortsum.rounds"], apart := false, laid := [("bosun/shortsum.first", laid_bosun_shortsum_first), ("bosun/shortsum.rounds", laid_bosun_shortsum_rounds), ("bosun/packet.lengths", laid_bosun_packet_lengths)], narrowed := true }
def PacketMatchesUptoSaid : Prop := packetMatchesUptoRow.holds Tryd.pinned (OpenSpec.upto packetMatchesSpec)

end Rows
end Go.Proofs.YtgkofpfjbjnhfaaDoor
