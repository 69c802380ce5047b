/-
  No cell of these rows narrows 'for every input' (looked for: loops, veiled, ifaces, maps, wideKeys, modest, calm, conditions, laid).
  DERIVED. THE GIVEN ROWS OF THIS SEAT. 12 by the template 'for every input the law returns true; each argument reads behind the call as it read before'; 0 by the template 'total and deterministic' (their statements: YtdbnjejpejmmjaaTotals.lean).
  GIVEN WITH THE SEED: the statements are not yours to turn. If you find one false, say at which input.
  Laid BY PROGRAM, IN A SANDBOX (cutbox-rows.mjs): the forced cells as the released guide's own fill.sh prints them over the translation c7961a99ec246d57… (all of the seat's roots in one cut). By AI agents, Wed Nov 11 2026. No macro, syntax, notation, axiom, sorry.
-/
import Derived.Test.YtdbnjejpejmmjaaChecked
import GoSem.Claim
import GoSem.ClaimJoined
import GoSem.ClaimMapViews
import Derived.JoinedTies
import Derived.KernelRfl
namespace Go.Proofs.Ytdbnjejpejmmjaa
/- THE CELL 'sum', in the pinned program and in every row, IS THE sha256 OF THE DUMP (.gsa) THAT YtdbnjejpejmmjaaProg.lean LOADS. Nothing in Lean hashes anything: it is a label: what it is worth is what the hold of that sum in a sandbox is worth. -/
noncomputable def Try.pinned : Pinned := { name := "ytdbnjejpejmmjaa", sum := "c7961a99ec246d5762d39bb6e450aaf7cbcd8bed2a4ee49c19848431d863f4a6", checked := Try.checked }
namespace Rows
def none {H : Type} : Left H := { results := [], args := [] }

/-- 'bosunlaw01.FlashTears': WHATEVER THE INPUT: true; the input reads as it did. -/
def flashTearsSpec : ChangeSpec := { name := "flashTears", fn := fun _ => fun
  | [d1, d2, d3] => { results := [.lit (.bool true)], args := [d1, d2, d3] }
  | _ => none }
def flashTearsRow : OpenClaim := { program := "ytdbnjejpejmmjaa", sum := "c7961a99ec246d5762d39bb6e450aaf7cbcd8bed2a4ee49c19848431d863f4a6", func := "bosun/bosunlaw01.FlashTears", spec := "flashTears", apart := false }
def FlashTearsSaid : Prop := flashTearsRow.holds Try.pinned (OpenSpec.ofChange flashTearsSpec)

/-- ITS FALSE NEIGHBOUR: 'it returns false'. Refute it at one input. -/
def flashTearsWrong : ChangeSpec := { name := "flashTears", fn := fun _ => fun
  | [d1, d2, d3] => { results := [.lit (.bool false)], args := [d1, d2, d3] }
  | _ => none }
def FlashTearsWrongFalsely : Prop := flashTearsRow.holds Try.pinned (OpenSpec.ofChange flashTearsWrong)

/-- 'bosunlaw01.FlashNil': WHATEVER THE INPUT: true; the input reads as it did. -/
def flashNilSpec : ChangeSpec := { name := "flashNil", fn := fun _ => fun
  | [d1, d2] => { results := [.lit (.bool true)], args := [d1, d2] }
  | _ => none }
def flashNilRow : OpenClaim := { program := "ytdbnjejpejmmjaa", sum := "c7961a99ec246d5762d39bb6e450aaf7cbcd8bed2a4ee49c19848431d863f4a6", func := "bosun/bosunlaw01.FlashNil", spec := "flashNil", apart := false }
def FlashNilSaid : Prop := flashNilRow.holds Try.pinned (OpenSpec.ofChange flashNilSpec)

/-- ITS FALSE NEIGHBOUR: 'it returns false'. Refute it at one input. -/
def flashNilWrong : ChangeSpec := { name := "flashNil", fn := fun _ => fun
  | [d1, d2] => { results := [.lit (.bool false)], args := [d1, d2] }
  | _ => none }
def FlashNilWrongFalsely : Prop := flashNilRow.holds Try.pinned (OpenSpec.ofChange flashNilWrong)

/-- 'bosunlaw02.CrcSums': WHATEVER THE INPUT: true; the input reads as it did. -/
def crcSumsSpec : ChangeSpec := { name := "crcSums", fn := fun _ => fun
  | [d1, d2] => { results := [.lit (.bool true)], args := [d1, d2] }
  | _ => none }
def crcSumsRow : OpenClaim := { program := "ytdbnjejpejmmjaa", sum := "c7961a99ec246d5762d39bb6e450aaf7cbcd8bed2a4ee49c19848431d863f4a6", func := "bosun/bosunlaw02.CrcSums", spec := "crcSums", apart := false }
def CrcSumsSaid : Prop := crcSumsRow.holds Try.pinned (OpenSpec.ofChange crcSumsSpec)

/-- ITS FALSE NEIGHBOUR: 'it returns false'. Refute it at one input. -/
def crcSumsWrong : ChangeSpec := { name := "crcSums", fn := fun _ => fun
  | [d1, d2] => { results := [.lit (.bool false)], args := [d1, d2] }
  | _ => none }
def CrcSumsWrongFalsely : Prop := crcSumsRow.holds Try.pinned (OpenSpec.ofChange crcSumsWrong)

/-- 'bosunlaw02.CrcParts': WHATEVER THE INPUT: true; the input reads as it did. -/
def crcPartsSpec : ChangeSpec := { name := "crcParts", fn := fun _ => fun
  | [d] => { results := [.lit (.bool true)], args := [d] }
  | _ => none }
def crcPartsRow : OpenClaim := { program := "ytdbnjejpejmmjaa", sum := "c7961a99ec246d5762d39bb6e450aaf7cbcd8bed2a4ee49c19848431d863f4a6", func := "bosun/bosunlaw02.CrcParts", spec := "crcParts", apart := false }
def CrcPartsSaid : Prop := crcPartsRow.holds Try.pinned (OpenSpec.ofChange crcPartsSpec)

/-- ITS FALSE NEIGHBOUR: 'it returns false'. Refute it at one input. -/
def crcPartsWrong : ChangeSpec := { name := "crcParts", fn := fun _ => fun
  | [d] => { results := [.lit (.bool false)], args := [d] }
  | _ => none }
def CrcPartsWrongFalsely : Prop := crcPartsRow.holds Try.pinned (OpenSpec.ofChange crcPartsWrong)

/-- 'bosunlaw02.CrcFinds': WHATEVER THE INPUT: true; the input reads as it did. -/
def crcFindsSpec : ChangeSpec := { name := "crcFinds", fn := fun _ => fun
  | [d1, d2, d3] => { results := [.lit (.bool true)], args := [d1, d2, d3] }
  | _ => none }
def crcFindsRow : OpenClaim := { program := "ytdbnjejpejmmjaa", sum := "c7961a99ec246d5762d39bb6e450aaf7cbcd8bed2a4ee49c19848431d863f4a6", func := "bosun/bosunlaw02.CrcFinds", spec := "crcFinds", apart := false }
def CrcFindsSaid : Prop := crcFindsRow.holds Try.pinned (OpenSpec.ofChange crcFindsSpec)

/-- ITS FALSE NEIGHBOUR: 'it returns false'. Refute it at one input. -/
def crcFindsWrong : ChangeSpec := { name := "crcFinds", fn := fun _ => fun
  | [d1, d2, d3] => { results := [.lit (.bool false)], args := [d1, d2, d3] }
  | _ => none }
def CrcFindsWrongFalsely : Prop := crcFindsRow.holds Try.pinned (OpenSpec.ofChange crcFindsWrong)

/-- 'bosunlaw09.SlipFrames': WHATEVER THE INPUT: true; the input reads as it did. -/
def slipFramesSpec : ChangeSpec := { name := "slipFrames", fn := fun _ => fun
  | [d] => { results := [.lit (.bool true)], args := [d] }
  | _ => none }
def slipFramesRow : OpenClaim := { program := "ytdbnjejpejmmjaa", sum := "c7961a99ec246d5762d39bb6e450aaf7cbcd8bed2a4ee49c19848431d863f4a6", func := "bosun/bosunlaw09.SlipFrames", spec := "slipFrames", apart := false }
def SlipFramesSaid : Prop := slipFramesRow.holds Try.pinned (OpenSpec.ofChange slipFramesSpec)

/-- ITS FALSE NEIGHBOUR: 'it returns false'. Refute it at one input. -/
def slipFramesWrong : ChangeSpec := { name := "slipFrames", fn := fun _ => fun
  | [d] => { results := [.lit (.bool false)], args := [d] }
  | _ => none }
def SlipFramesWrongFalsely : Prop := slipFramesRow.holds Try.pinned (OpenSpec.ofChange slipFramesWrong)

/-- 'bosunlaw09.SlipEnds': WHATEVER THE INPUT: true; the input reads as it did. -/
def slipEndsSpec : ChangeSpec := { name := "slipEnds", fn := fun _ => fun
  | [d1, d2] => { results := [.lit (.bool true)], args := [d1, d2] }
  | _ => none }
def slipEndsRow : OpenClaim := { program := "ytdbnjejpejmmjaa", sum := "c7961a99ec246d5762d39bb6e450aaf7cbcd8bed2a4ee49c19848431d863f4a6", func := "bosun/bosunlaw09.SlipEnds", spec := "slipEnds", apart := false }
def SlipEndsSaid : Prop := slipEndsRow.holds Try.pinned (OpenSpec.ofChange slipEndsSpec)

/-- ITS FALSE NEIGHBOUR: 'it returns false'. Refute it at one input. -/
def slipEndsWrong : ChangeSpec := { name := "slipEnds", fn := fun _ => fun
  | [d1, d2] => { results := [.lit (.bool false)], args := [d1, d2] }
  | _ => none }
def SlipEndsWrongFalsely : Prop := slipEndsRow.holds Try.pinned (OpenSpec.ofChange slipEndsWrong)

/-- 'bosunlaw10.DeslipBytes': WHATEVER THE INPUT: true; the input reads as it did. -/
def deslipBytesSpec : ChangeSpec := { name := "deslipBytes", fn := fun _ => fun
  | [d1, d2] => { results := [.lit (.bool true)], args := [d1, d2] }
  | _ => none }
def deslipBytesRow : OpenClaim := { program := "ytdbnjejpejmmjaa", sum := "c7961a99ec246d5762d39bb6e450aaf7cbcd8bed2a4ee49c19848431d863f4a6", func := "bosun/bosunlaw10.DeslipBytes", spec := "deslipBytes", apart := false }
def DeslipBytesSaid : Prop := deslipBytesRow.holds Try.pinned (OpenSpec.ofChange deslipBytesSpec)

/-- ITS FALSE NEIGHBOUR: 'it returns false'. Refute it at one input. -/
def deslipBytesWrong : ChangeSpec := { name := "deslipBytes", fn := fun _ => fun
  | [d1, d2] => { results := [.lit (.bool false)], args := [d1, d2] }
  | _ => none }
def DeslipBytesWrongFalsely : Prop := deslipBytesRow.holds Try.pinned (OpenSpec.ofChange deslipBytesWrong)

/-- 'bosunlaw10.DeslipFrames': WHATEVER THE INPUT: true; the input reads as it did. -/
def deslipFramesSpec : ChangeSpec := { name := "deslipFrames", fn := fun _ => fun
  | [d1, d2] => { results := [.lit (.bool true)], args := [d1, d2] }
  | _ => none }
def deslipFramesRow : OpenClaim := { program := "ytdbnjejpejmmjaa", sum := "c7961a99ec246d5762d39bb6e450aaf7cbcd8bed2a4ee49c19848431d863f4a6", func := "bosun/bosunlaw10.DeslipFrames", spec := "deslipFrames", apart := false }
def DeslipFramesSaid : Prop := deslipFramesRow.holds Try.pinned (OpenSpec.ofChange deslipFramesSpec)

/-- ITS FALSE NEIGHBOUR: 'it returns false'. Refute it at one input. -/
def deslipFramesWrong : ChangeSpec := { name := "deslipFrames", fn := fun _ => fun
  | [d1, d2] => { results := [.lit (.bool false)], args := [d1, d2] }
  | _ => none }
def DeslipFramesWrongFalsely : Prop := deslipFramesRow.holds Try.pinned (OpenSpec.ofChange deslipFramesWrong)

/-- 'bosunlaw10.DeslipNil': WHATEVER THE INPUT: true; the input reads as it did. -/
def deslipNilSpec : ChangeSpec := { name := "deslipNil", fn := fun _ => fun
  | [d] => { results := [.lit (.bool true)], args := [d] }
  | _ => none }
def deslipNilRow : OpenClaim := { program := "ytdbnjejpejmmjaa", sum := "c7961a99ec246d5762d39bb6e450aaf7cbcd8bed2a4ee49c19848431d863f4a6", func := "bosun/bosunlaw10.DeslipNil", spec := "deslipNil", apart := false }
def DeslipNilSaid : Prop := deslipNilRow.holds Try.pinned (OpenSpec.ofChange deslipNilSpec)

/-- ITS FALSE NEIGHBOUR: 'it returns false'. Refute it at one input. -/
def deslipNilWrong : ChangeSpec := { name := "deslipNil", fn := fun _ => fun
  | [d] => { results := [.lit (.bool false)], args := [d] }
  | _ => none }
def DeslipNilWrongFalsely : Prop := deslipNilRow.holds Try.pinned (OpenSpec.ofChange deslipNilWrong)

/-- 'bosunlaw11.TlvParses': WHATEVER THE INPUT: true; the input reads as it did. -/
def tlvParsesSpec : ChangeSpec := { name := "tlvParses", fn := fun _ => fun
  | [d1, d2] => { results := [.lit (.bool true)], args := [d1, d2] }
  | _ => none }
def tlvParsesRow : OpenClaim := { program := "ytdbnjejpejmmjaa", sum := "c7961a99ec246d5762d39bb6e450aaf7cbcd8bed2a4ee49c19848431d863f4a6", func := "bosun/bosunlaw11.TlvParses", spec := "tlvParses", apart := false }
def TlvParsesSaid : Prop := tlvParsesRow.holds Try.pinned (OpenSpec.ofChange tlvParsesSpec)

/-- ITS FALSE NEIGHBOUR: 'it returns false'. Refute it at one input. -/
def tlvParsesWrong : ChangeSpec := { name := "tlvParses", fn := fun _ => fun
  | [d1, d2] => { results := [.lit (.bool false)], args := [d1, d2] }
  | _ => none }
def TlvParsesWrongFalsely : Prop := tlvParsesRow.holds Try.pinned (OpenSpec.ofChange tlvParsesWrong)

/-- 'bosunlaw11.TlvEncodes': WHATEVER THE INPUT: true; the input reads as it did. -/
def tlvEncodesSpec : ChangeSpec := { name := "tlvEncodes", fn := fun _ => fun
  | [d1, d2] => { results := [.lit (.bool true)], args := [d1, d2] }
  | _ => none }
def tlvEncodesRow : OpenClaim := { program := "ytdbnjejpejmmjaa", sum := "c7961a99ec246d5762d39bb6e450aaf7cbcd8bed2a4ee49c19848431d863f4a6", func := "bosun/bosunlaw11.TlvEncodes", spec := "tlvEncodes", apart := false }
def TlvEncodesSaid : Prop := tlvEncodesRow.holds Try.pinned (OpenSpec.ofChange tlvEncodesSpec)

/-- ITS FALSE NEIGHBOUR: 'it returns false'. Refute it at one input. -/
def tlvEncodesWrong : ChangeSpec := { name := "tlvEncodes", fn := fun _ => fun
  | [d1, d2] => { results := [.lit (.bool false)], args := [d1, d2] }
  | _ => none }
def TlvEncodesWrongFalsely : Prop := tlvEncodesRow.holds Try.pinned (OpenSpec.ofChange tlvEncodesWrong)

/- THE SECOND FORM. 'bulk': how many values and letters a reading holds, each counted each time it is reached (what is shared counts as often as it is met; a slice's spare places count too). A statement '..UptoSaid' is the law's where the arguments, and the package variables that the reading takes, are together of bulk at most 1048576: NARROWER than '..Said'. Prove '..Said' where nothing that the law and all that it calls make is longer than what came in: it says more and counts as full. Else prove '..UptoSaid'. A law counts once. -/
mutual
def uptoBulk {H : Type} : DataW H → Nat
  | .lit (.string bytes) => bytes.length + 1
  | .lit _ => 1
  | .nil => 1
  | .ptr d => uptoBulk d + 1
  | .slice elems spare => uptoBulkAll elems + uptoBulkAll spare + 1
  | .agg parts => uptoBulkAll parts + 1
  | .iface _ d => uptoBulk d + 1
  | .map entries => uptoBulkEntries entries + 1
  | .held _ => 1
def uptoBulkAll {H : Type} : List (DataW H) → Nat
  | [] => 0
  | d :: r => uptoBulk d + uptoBulkAll r
def uptoBulkEntries {H : Type} : List (Lit × DataW H) → Nat
  | [] => 0
  | x :: r => uptoBulkEntry x + uptoBulkEntries r
def uptoBulkEntry {H : Type} : Lit × DataW H → Nat
  | (.string bytes, d) => bytes.length + uptoBulk d + 1
  | (_, d) => uptoBulk d + 1
 end
def uptoSmall : (H : Type) → List (DataW H) → Bool := fun _ ds => decide (uptoBulkAll ds ≤ 1048576)
def OpenSpec.upto (s : _root_.Go.ChangeSpec) : _root_.Go.OpenSpec := { _root_.Go.OpenSpec.ofChange s with cond := some uptoSmall }

/-- 'bosunlaw01.FlashTears', WHERE WHAT IT READS IS OF BULK AT MOST 1048576: true; the input reads as it did. -/
def flashTearsUptoRow : OpenClaim := { program := "ytdbnjejpejmmjaa", sum := "c7961a99ec246d5762d39bb6e450aaf7cbcd8bed2a4ee49c19848431d863f4a6", func := "bosun/bosunlaw01.FlashTears", spec := "flashTears", apart := false, narrowed := true }
def FlashTearsUptoSaid : Prop := flashTearsUptoRow.holds Try.pinned (OpenSpec.upto flashTearsSpec)

/-- 'bosunlaw01.FlashNil', WHERE WHAT IT READS IS OF BULK AT MOST 1048576: true; the input reads as it did. -/
def flashNilUptoRow : OpenClaim := { program := "ytdbnjejpejmmjaa", sum := "c7961a99ec246d5762d39bb6e450aaf7cbcd8bed2a4ee49c19848431d863f4a6", func := "bosun/bosunlaw01.FlashNil", spec := "flashNil", apart := false, narrowed := true }
def FlashNilUptoSaid : Prop := flashNilUptoRow.holds Try.pinned (OpenSpec.upto flashNilSpec)

/-- 'bosunlaw02.CrcSums', WHERE WHAT IT READS IS OF BULK AT MOST 1048576: true; the input reads as it did. -/
def crcSumsUptoRow : OpenClaim := { program := "ytdbnjejpejmmjaa", sum := "c7961a99ec246d5762d39bb6e450aaf7cbcd8bed2a4ee49c19848431d863f4a6", func := "bosun/bosunlaw02.CrcSums", spec := "crcSums", apart := false, narrowed := true }
def CrcSumsUptoSaid : Prop := crcSumsUptoRow.holds Try.pinned (OpenSpec.upto crcSumsSpec)

/-- 'bosunlaw02.CrcParts', WHERE WHAT IT READS IS OF BULK AT MOST 1048576: true; the input reads as it did. -/
def crcPartsUptoRow : OpenClaim := { program := "ytdbnjejpejmmjaa", sum := "c7961a99ec246d5762d39bb6e450aaf7cbcd8bed2a4ee49c19848431d863f4a6", func := "bosun/bosunlaw02.CrcParts", spec := "crcParts", apart := false, narrowed := true }
def CrcPartsUptoSaid : Prop := crcPartsUptoRow.holds Try.pinned (OpenSpec.upto crcPartsSpec)

/-- 'bosunlaw02.CrcFinds', WHERE WHAT IT READS IS OF BULK AT MOST 1048576: true; the input reads as it did. -/
def crcFindsUptoRow : OpenClaim := { program := "ytdbnjejpejmmjaa", sum := "c7961a99ec246d5762d39bb6e450aaf7cbcd8bed2a4ee49c19848431d863f4a6", func := "bosun/bosunlaw02.CrcFinds", spec := "crcFinds", apart := false, narrowed := true }
def CrcFindsUptoSaid : Prop := crcFindsUptoRow.holds Try.pinned (OpenSpec.upto crcFindsSpec)

/-- 'bosunlaw09.SlipFrames', WHERE WHAT IT READS IS OF BULK AT MOST 1048576: true; the input reads as it did. -/
def slipFramesUptoRow : OpenClaim := { program := "ytdbnjejpejmmjaa", sum := "c7961a99ec246d5762d39bb6e450aaf7cbcd8bed2a4ee49c19848431d863f4a6", func := "bosun/bosunlaw09.SlipFrames", spec := "slipFrames", apart := false, narrowed := true }
def SlipFramesUptoSaid : Prop := slipFramesUptoRow.holds Try.pinned (OpenSpec.upto slipFramesSpec)

/-- 'bosunlaw09.SlipEnds', WHERE WHAT IT READS IS OF BULK AT MOST 1048576: true; the input reads as it did. -/
def slipEndsUptoRow : OpenClaim := { program := "ytdbnjejpejmmjaa", sum := "c7961a99ec246d5762d39bb6e450aaf7cbcd8bed2a4ee49c19848431d863f4a6", func := "bosun/bosunlaw09.SlipEnds", spec := "slipEnds", apart := false, narrowed := true }
def SlipEndsUptoSaid : Prop := slipEndsUptoRow.holds Try.pinned (OpenSpec.upto slipEndsSpec)

/-- 'bosunlaw10.DeslipBytes', WHERE WHAT IT READS IS OF BULK AT MOST 1048576: true; the input reads as it did. -/
def deslipBytesUptoRow : OpenClaim := { program := "ytdbnjejpejmmjaa", sum := "c7961a99ec246d5762d39bb6e450aaf7cbcd8bed2a4ee49c19848431d863f4a6", func := "bosun/bosunlaw10.DeslipBytes", spec := "deslipBytes", apart := false, narrowed := true }
def DeslipBytesUptoSaid : Prop := deslipBytesUptoRow.holds Try.pinned (OpenSpec.upto deslipBytesSpec)

/-- 'bosunlaw10.DeslipFrames', WHERE WHAT IT READS IS OF BULK AT MOST 1048576: true; the input reads as it did. -/
def deslipFramesUptoRow : OpenClaim := { program := "ytdbnjejpejmmjaa", sum := "c7961a99ec246d5762d39bb6e450aaf7cbcd8bed2a4ee49c19848431d863f4a6", func := "bosun/bosunlaw10.DeslipFrames", spec := "deslipFrames", apart := false, narrowed := true }
def DeslipFramesUptoSaid : Prop := deslipFramesUptoRow.holds Try.pinned (OpenSpec.upto deslipFramesSpec)

/-- 'bosunlaw10.DeslipNil', WHERE WHAT IT READS IS OF BULK AT MOST 1048576: true; the input reads as it did. -/
def deslipNilUptoRow : OpenClaim := { program := "ytdbnjejpejmmjaa", sum := "c7961a99ec246d5762d39bb6e450aaf7cbcd8bed2a4ee49c19848431d863f4a6", func := "bosun/bosunlaw10.DeslipNil", spec := "deslipNil", apart := false, narrowed := true }
def DeslipNilUptoSaid : Prop := deslipNilUptoRow.holds Try.pinned (OpenSpec.upto deslipNilSpec)

/-- 'bosunlaw11.TlvParses', WHERE WHAT IT READS IS OF BULK AT MOST 1048576: true; the input reads as it did. -/
def tlvParsesUptoRow : OpenClaim := { program := "ytdbnjejpejmmjaa", sum := "c7961a99ec246d5762d39bb6e450aaf7cbcd8bed2a4ee49c19848431d863f4a6", func := "bosun/bosunlaw11.TlvParses", spec := "tlvParses", apart := false, narrowed := true }
def TlvParsesUptoSaid : Prop := tlvParsesUptoRow.holds Try.pinned (OpenSpec.upto tlvParsesSpec)

/-- 'bosunlaw11.TlvEncodes', WHERE WHAT IT READS IS OF BULK AT MOST 1048576: true; the input reads as it did. -/
def tlvEncodesUptoRow : OpenClaim := { program := "ytdbnjejpejmmjaa", sum := "c7961a99ec246d5762d39bb6e450aaf7cbcd8bed2a4ee49c19848431d863f4a6", func := "bosun/bosunlaw11.TlvEncodes", spec := "tlvEncodes", apart := false, narrowed := true }
def TlvEncodesUptoSaid : Prop := tlvEncodesUptoRow.holds Try.pinned (OpenSpec.upto tlvEncodesSpec)

end Rows
end Go.Proofs.Ytdbnjejpejmmjaa
