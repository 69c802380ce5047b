/- The law UploaderNil: no uploader. -/
import Derived.Test.YtjmgnfpcieofkaaGUp
import Derived.Test.YtjmgnfpcieofkaaGBase
namespace Go.Proofs.Ytjmgnfpcieofkaa
open Go.ChangeShapes Go.WideShapes Go.ChangeAt Go.RowKit
set_option linter.unusedVariables false
set_option linter.unusedSimpArgs false

set_option maxRecDepth 100000 in
set_option maxHeartbeats 8000000 in
theorem lives22_any (w : World) : Calls Try.prog 34 #[] w fun e w' => e = .returned (.bool true) ∧ Below w.heap.size w w' := by
  have hu := Try.underlying33
  have hu8 := Try.underlying5
  have hstr := Try.underlying9
  have HB0 : Hid (Below w.heap.size w ((w.alloc (.cells #[.int .u8 1] 5)).alloc (.cells #[.int .u8 2] 5))) := hide (((Below.refl _ _).alloc (Nat.le_refl _) _).alloc (by simp) _)
  have i1 : IsBytes ((w.alloc (.cells #[.int .u8 1] 5)).alloc (.cells #[.int .u8 2] 5)) (.slice (some ⟨w.heap.size, 0, Option.none⟩) 1 1) [1] := (IsBytes.new w [1] (by simp [maxLen]) 5).below ((Below.refl _ _).alloc (Nat.le_refl _) _)
  have i2 : IsBytes ((w.alloc (.cells #[.int .u8 1] 5)).alloc (.cells #[.int .u8 2] 5)) (.slice (some ⟨(w.alloc (.cells #[.int .u8 1] 5)).heap.size, 0, Option.none⟩) 1 1) [2] := IsBytes.new (w.alloc (.cells #[.int .u8 1] 5)) [2] (by simp [maxLen]) 5
  rw [World.size_alloc] at i2
  have hE := upnew_any _ _ [1] [2] _ i1 i2 (by decide) (by decide) (by decide) (by decide)
  clear i1 i2
  go_enter Try.func34, Try.ntmps34
  go_wp2_with fail
  generalize (w.alloc (.cells #[.int .u8 1] 5)).alloc (.cells #[.int .u8 2] 5) = w1 at *
  refine hE.mono ?_
  clear hE
  rintro e w2 ⟨p, iv, mv, dp, rfl, h, hs⟩
  have hE := upsend_greet p iv mv (dptr dp) ⟨dp, rfl⟩ (all w1) w2 h
  have HS := hide hs
  clear h hs
  go_wp2_with fail
  refine hE.mono ?_
  clear hE
  rintro e w3 ⟨v, rfl, ho, hs⟩
  have H3 := hide ho
  have HS3 := hide (HS.out.trans hs)
  have hE := upsend_sent p w3 (cell_of_row _ _ 4 _ _ _ (on_blk_mul ho.right))
  obtain ⟨a3, c3, rfl, _, _, hl, _⟩ := own_value ho
  have k1 := run_string_of (P := Try.prog) (w := w3) (c := c3) hu hu8 hl _ hstr
  simp only [List.length_cons, List.length_nil, Nat.zero_add, Nat.reduceAdd] at k1
  have HB3 := hide (HB0.out.trans ((all_below H3.out.right.right HS3.out).mono HB0.out.size))
  clear ho hs hl
  go_wp2_with fail
  refine hE.mono ?_
  clear hE
  rintro e _ ⟨rfl, rfl⟩
  go_wp2_with fail
  go_ret
  exact ⟨rfl, HB3.out⟩

namespace lawUploaderNil
theorem own : ownKnob Try.prog.godebug = Option.none := by kernel_rfl
theorem laidOut : laidOutB Try.prog = true := by kernel_rfl
end lawUploaderNil
end Go.Proofs.Ytjmgnfpcieofkaa
