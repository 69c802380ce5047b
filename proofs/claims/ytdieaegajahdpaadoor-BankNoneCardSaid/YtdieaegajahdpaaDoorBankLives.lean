/- The chapter's example of bank. -/
import Derived.Test.YtdieaegajahdpaaDoorBank2
import Derived.Test.YtdieaegajahdpaaDoorOpen
namespace Go.Proofs.YtdieaegajahdpaaDoor
open Go.ChangeShapes Go.WideShapes Go.ChangeAt Go.RowKit
set_option linter.unusedVariables false

def flC : FlS := (FlS.progW [97, 98, 99, 255] 520 1 0 (FlS.new 20)).1
theorem flC_err : (FlS.progW [97, 98, 99, 255] 520 1 0 (FlS.new 20)).2 = 0 := by decide +kernel
theorem flC_off : flC.off = false := by decide +kernel
theorem flC_len : flC.B.length = 5120 := by decide +kernel
theorem flC_worn : flC.worn.length = 20 := by decide +kernel
theorem flC_bytes : (flC.B.drop 520).take 4 = [97, 98, 99, 255] := by decide +kernel
theorem flC_rest : flC.lf ≤ 64 ∧ flC.lt ≤ 64 ∧ flC.left ≤ 9223372036854775807 ∧ flC.tear < 4294967296 := by decide +kernel
theorem flC_ok : flC.Ok := ⟨by rw [flC_len, flC_worn], by rw [flC_worn]; omega, flC_rest.1, flC_rest.2.1, flC_rest.2.2.1, flC_rest.2.2.2⟩
theorem newQ.out' {k : Nat} {v : Value} {F : SP} {w : World} (h : (newQ k v * F).on w) : ∃ p, v = .tuple #[fptr p, .int .i64 0] ∧ (Flash p (FlS.new k) * F).on w := by
  obtain ⟨p, h⟩ := on_ex_mul.1 h
  rw [SP.mul_assoc] at h
  obtain ⟨h1, h2⟩ := on_pure_mul.1 h
  exact ⟨p, h1, h2⟩

set_option maxRecDepth 100000 in
set_option maxHeartbeats 2000000 in
theorem lives15_any (w : World) : Calls Tryd.prog 31 #[] w fun e w' => e = .returned (.bool true) ∧ Below w.heap.size w w' := by
  have kc := fun (w : World) (b : Nat) (hb : b = w.heap.size) (C : Array Value) (n c : Nat) => run_bytes_const (P := Tryd.prog) w b hb 22 5 C n c Tryd.underlying22 Tryd.underlying5
  have hsu := Tryd.underlying22
  have hsb := Tryd.underlying5
  have hst := Tryd.underlying9
  go_enter Tryd.func31, Tryd.ntmps31
  go_wp2_with fail
  refine (new_any 20 (by omega) (by omega) w).mono ?_
  rintro e w2 ⟨v, rfl, ho, hs⟩
  obtain ⟨p, rfl, ho2⟩ := newQ.out' ho
  have hst0 : FlS.new 20 = FlS.new 20 := rfl
  have h1 := IsBytes.newM (w2.alloc (.cells #[fptr p, .int .i64 2] 63)) [97, 98] (by decide) 5 (2, 3)
  have h2 := IsBytes.newM ((w2.alloc (.cells #[fptr p, .int .i64 2] 63)).alloc (.cells (vbs [97, 98]).toArray 5 (2, 3))) [99] (by decide) 5 (1, 2)
  have h1' := h1.below (((Below.refl _ _).alloc (Nat.le_refl _) (.cells (vbs [99]).toArray 5 (1, 2))))
  have h3 := IsRows.new2 h1' h2 22
  have h4 := ((((ho2.alloc (.cells #[fptr p, .int .i64 2] 63)).alloc' (.cells (vbs [97, 98]).toArray 5 (2, 3))).alloc' (.cells (vbs [99]).toArray 5 (1, 2))).alloc' (.cells #[.slice (some ⟨(w2.alloc (.cells #[fptr p, .int .i64 2] 63)).heap.size, 0, Option.none⟩) 2 2, .slice (some ⟨((w2.alloc (.cells #[fptr p, .int .i64 2] 63)).alloc (.cells (vbs [97, 98]).toArray 5 (2, 3))).heap.size, 0, Option.none⟩) 1 1] 22))
  rw [SP.mul_left_comm] at h4
  have HW := hide (bwrite_any p (FlS.new 20) _ _ h4 (FlS.new_ok 20 (by omega) (by omega)) (by simp [FlS.new]) rfl rfl 2 8 (by simp [FlS.new]) (by omega) _ _ h3 (by decide))
  rw [show padW (List.flatten [[97, 98], [99]]) = [97, 98, 99, 255] from rfl, show ([97, 98, 99, 255] : List UInt8).length / 4 = 1 from rfl, show 2 * 256 + 8 = 520 from rfl, flC_err] at HW
  change Hid (Calls _ _ _ _ fun e w' => _ ∧ (Flash p flC * _).on w' ∧ _) at HW
  simp only [World.size_alloc] at HW
  have HS := hide hs
  clear ho ho2 hs h1 h2 h1' h3 h4
  go_wp2_with fail
  refine HW.out.mono ?_
  rintro e w3 ⟨rfl, h3, hs3⟩
  have hS3 : Str w w3 := ((((HS.out.alloc _).alloc _).alloc _).alloc _).trans hs3
  have hb3 := on_blk_mul h3.right
  have c0 := cell_of_row w3 w2.heap.size 0 _ _ _ hb3
  have c1 := cell_of_row w3 w2.heap.size 1 _ _ _ hb3
  simp only [List.getElem?_toArray, List.getElem?_cons_zero, List.getElem?_cons_succ] at c0 c1
  have H3 := hide h3
  have HS3 := hide hS3
  have HB := hide (bytes_any p flC _ w3 h3 flC_ok flC_off 2 8 4 (by rw [flC_worn]; omega) (by omega))
  rw [show 2 * 256 + 8 = 520 from rfl, flC_bytes] at HB
  clear h3 hS3 hs3 hb3 HW HS
  go_wp2_with fail
  refine HB.out.mono ?_
  rintro e w4 ⟨v4, rfl, h4, hs4⟩
  obtain ⟨x, rfl, h5⟩ := readQ.out h4
  have hb4 := all_below h5.right hs4
  have d0 := (hb4.cell (p := ⟨w2.heap.size, 0, Option.none⟩) (World.block_lt_of_cell? w3 _ c0)).trans c0
  have H4 := hide (H3.out.below hb4)
  have HS4 := hide (HS3.out.trans hs4)
  have HZ := hide (size_any p flC _ w4 H4.out flC_ok)
  rw [flC_len] at HZ
  obtain ⟨xa, xc, rfl, _, _, hxl, _⟩ := own_bytes h5
  have k1 := run_string_of (P := Tryd.prog) (w := w4) (c := xc) hsu hsb hxl _ hst
  rw [show ([97, 98, 99, 255] : List UInt8).length = 4 from rfl] at k1
  clear h4 h5 hs4 hb4 hxl HB
  go_wp2_with fail
  refine HZ.out.mono ?_
  rintro e w5 ⟨rfl, rfl⟩
  go_wp2_with fail
  go_ret
  exact ⟨rfl, all_below H4.out.right.right HS4.out⟩
end Go.Proofs.YtdieaegajahdpaaDoor
