/- SHA-2 on words of 32 bits: the chapter's example. -/
import Derived.Test.YtgkofpfjbjnhfaaDoorSha8S
namespace Go.Proofs.YtgkofpfjbjnhfaaDoor
open Go.ChangeShapes Go.WideShapes Go.ChangeAt Go.RowKit
namespace Sha32
set_option linter.unusedVariables false
set_option linter.unusedSimpArgs false

theorem known1 : (digest (List.flatten [[97, 98], [99]])).take 8 = [0xba, 0x78, 0x16, 0xbf, 0x8f, 0x01, 0xcf, 0xea] := by decide +kernel
theorem known2 : (digest (List.flatten [[97, 98], [99]])).drop 28 = [0xf2, 0x00, 0x15, 0xad] := by decide +kernel

end Sha32
end Go.Proofs.YtgkofpfjbjnhfaaDoor
