/- field: the chapter's examples. -/
import Derived.Test.YtbplbdnofobbiaaDoorFe7
namespace Go.Proofs.YtbplbdnofobbiaaDoor
namespace Fe
open Go.ChangeShapes Go.WideShapes Go.ChangeAt Go.RowKit
set_option linter.unusedVariables false
set_option linter.unusedSimpArgs false

theorem root1_4 : root1 4 = 39362322753415011913614158609977084030892133031847780325488042146247659569504 := by decide +kernel
theorem root1_2 : root1 2 = 19681161376707505956807079304988542015446066515923890162744021073123829784753 := by decide +kernel
theorem root2_4 : root2 4 = P5 - 2 := by unfold root2; rw [root1_4]; decide +kernel
theorem root2_2 : root2 2 = 19681161376707505956807079304988542015446066515923890162744021073123829784751 := by unfold root2; rw [root1_2]; decide +kernel
theorem rootV_4 : rootV 4 = .tuple #[.agg (q4 2), .bool true] := by
  unfold rootV
  rw [root2_4, if_pos (show (P5 - 2) * (P5 - 2) % P5 = 4 by decide +kernel), if_pos (show (P5 - 2) % 2 = 1 by decide +kernel), show (P5 - (P5 - 2)) % P5 = 2 by decide +kernel]
theorem rootV_2 : rootV 2 = .tuple #[.agg (q4 0), .bool false] := by
  unfold rootV
  rw [root2_2, if_neg (by decide +kernel)]
end Fe
end Go.Proofs.YtbplbdnofobbiaaDoor
