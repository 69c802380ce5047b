/- SHA-2 on words of 64 bits: the chapter's example. -/
import Derived.Test.YtdieaegajahdpaaDoorSha8L
namespace Go.Proofs.YtdieaegajahdpaaDoor
open Go.ChangeShapes Go.WideShapes Go.ChangeAt Go.RowKit
namespace Sha64
set_option linter.unusedVariables false
set_option linter.unusedSimpArgs false

theorem known1 : (digest (List.flatten [[97, 98], [99]])).take 8 = [0xdd, 0xaf, 0x35, 0xa1, 0x93, 0x61, 0x7a, 0xba] := by decide +kernel
theorem known2 : (digest (List.flatten [[97, 98], [99]])).drop 28 = [75, 85, 211, 154, 33, 146, 153, 42, 39, 79, 193, 168, 54, 186, 60, 35, 163, 254, 235, 189, 69, 77, 68, 35, 100, 60, 232, 14, 42, 154, 201, 79, 165, 76, 164, 159] := by decide +kernel

set_option maxRecDepth 100000 in
set_option maxHeartbeats 4000000 in
theorem lives_any (w : World) (hT : Tab w) : Calls Tryd.prog 17 #[] w fun e w' => e = .returned (.bool true) ∧ Below w.heap.size w w' := by
  have hu := Tryd.underlying22
  have hu8 := Tryd.underlying5
  have hstr := Tryd.underlying9
  have hzd : ∀ w, (zeroValue 41).run Tryd.prog w = .ok (.agg (bv zD)) w := fun w => by kernel_rfl
  have kc := fun (w : World) (b : Nat) (hb : b = w.heap.size) (C : Array Value) (n c : Nat) => run_bytes_const (P := Tryd.prog) w b hb 22 5 C n c Tryd.underlying22 Tryd.underlying5
  have h1 := IsBytes.newM w [97, 98] (by decide) 5 (2, 3)
  have h2 := IsBytes.newM (w.alloc (.cells (vbs [97, 98]).toArray 5 (2, 3))) [99] (by decide) 5 (1, 2)
  have h1' := h1.below (((Below.refl _ _).alloc (Nat.le_refl _) (.cells (vbs [99]).toArray 5 (1, 2))))
  have h3 := IsRows.new2 h1' h2 22
  simp only [World.size_alloc] at h3
  have H3 := hide h3
  have HB := hide ((((Below.refl w.heap.size w).alloc (Nat.le_refl _) (.cells (vbs [97, 98]).toArray 5 (2, 3))).alloc (by simp) (.cells (vbs [99]).toArray 5 (1, 2))).alloc (by simp; omega) (.cells #[.slice (some ⟨w.heap.size, 0, Option.none⟩) 2 2, .slice (some ⟨w.heap.size + 1, 0, Option.none⟩) 1 1] 22))
  have hOf := of_any _ _ _ H3.out (hT.below HB.out) (by decide)
  have hdl := digest_len (List.flatten [[97, 98], [99]])
  have k1 := known1
  have k2 := known2
  generalize digest (List.flatten [[97, 98], [99]]) = dg at *
  have HK := hide (⟨hdl, k1, k2⟩ : dg.length = 64 ∧ dg.take 8 = [0xdd, 0xaf, 0x35, 0xa1, 0x93, 0x61, 0x7a, 0xba] ∧ dg.drop 28 = [75, 85, 211, 154, 33, 146, 153, 42, 39, 79, 193, 168, 54, 186, 60, 35, 163, 254, 235, 189, 69, 77, 68, 35, 100, 60, 232, 14, 42, 154, 201, 79, 165, 76, 164, 159])
  clear h1 h2 h1' h3 hdl k1 k2
  go_enter Tryd.func17, Tryd.ntmps17
  go_wp2_with fail
  refine hOf.mono ?_
  clear hOf kc
  rintro e w1 ⟨rfl, hb1⟩
  have HB1 := hide (HB.out.trans (hb1.mono HB.out.size))
  have hr := (on_all w1).alloc (.cells (bv zD) 41)
  have Hr := hide (on_blk_mul hr)
  have h4 := hr.setRow (bv dg)
  have HsD : Hid ((Tryd.prog.info? 41).map (·.size) = some (bv dg).size) := hide (by rw [bv_size, HK.out.1]; kernel_rfl)
  have HzD : Hid ((bv zD).size = (bv dg).size) := hide (by rw [bv_size, bv_size, HK.out.1]; rfl)
  have HoD := hide (bv_one dg)
  have l1 := bv_lay_to h4 8
  have l2 := bv_lay h4 28
  rw [HK.out.2.1] at l1
  rw [HK.out.2.2] at l2
  have s1 := dig_to w1.heap.size 8 (by decide) ((w1.alloc (.cells (bv zD) 41)).setRow w1.heap.size (bv dg))
  have s2 := dig_from w1.heap.size 28 (by decide) ((w1.alloc (.cells (bv zD) 41)).setRow w1.heap.size (bv dg))
  have c1 := run_string_of (P := Tryd.prog) (c := 64) hu hu8 l1 _ hstr
  have c2 := run_string_of (P := Tryd.prog) (c := 64 - 28) hu hu8 l2 _ hstr
  have HB2 := hide (below_setRow (HB1.out.alloc HB1.out.size (.cells (bv zD) 41)) HB1.out.size (bv dg))
  generalize hW2 : (w1.alloc (.cells (bv zD) 41)).setRow w1.heap.size (bv dg) = w2 at *
  have HW2 := hide hW2
  generalize bv dg = Dg at *
  simp only [List.length_cons, List.length_nil] at c1 c2
  clear hb1 hr h4 l1 l2 hW2
  go_wp2_with (refine wpList_store_row rfl _ _ _ rfl w1.heap.size Dg rfl rfl _ _ Hr.out HsD.out HzD.out HoD.out ?_; rw [HW2.out])
  go_ret
  exact ⟨rfl, HB2.out⟩
end Sha64
end Go.Proofs.YtdieaegajahdpaaDoor
