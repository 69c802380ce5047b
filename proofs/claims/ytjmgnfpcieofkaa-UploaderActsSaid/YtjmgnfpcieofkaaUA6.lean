/- The law UploaderActs: what the Model sends. -/
import Derived.Test.YtjmgnfpcieofkaaUA5
namespace Go.Proofs.Ytjmgnfpcieofkaa
open Go.ChangeShapes Go.WideShapes Go.ChangeAt Go.RowKit
set_option linter.unusedVariables false
set_option linter.unusedSimpArgs false

theorem objT_len (kind : UInt8) (b : List UInt8) (h : b.length ≤ 4096) : (frames (objT kind b)).length ≤ 8700 := by
  have h1 := objF_len kind b (pieceN b.length)
  have h2 : (frame [3]).length ≤ 3 := by decide
  have h3 : pieceN b.length = (b.length + 59) / 60 := rfl
  rw [objF_end, List.length_append]
  omega
def US.send (s : US) : US := if s.sent = true then s else ({ s with sent := true, sends := s.sends + 1 } : US)
def US.out (init img : List UInt8) (s : US) : List UInt8 := if s.sent = true then [] else frames (s.texts init img)

set_option maxRecDepth 100000 in
set_option maxHeartbeats 8000000 in
theorem msend_any (p : Nat) (iv rv : Value) (s : US) (mg mo mc : Nat) (init img : List UInt8) (hil : init.length ≤ 128) (hl : img.length ≤ 4096) (hmc : img.length ≤ mc) (F : SP) (w : World) (h : (blk p (.cells (mC22 iv (.slice (some ⟨mg, mo, Option.none⟩) img.length mc) rv s) 84 (0, 0)) * F).on w) (hiv : ∀ W, F.on W → IsBytes W iv init) (hmv : ∀ W, F.on W → IsBytes W (.slice (some ⟨mg, mo, Option.none⟩) img.length mc) img) (ok : s.Ok img) (hsn : s.sends ≤ 100000) :
    Calls Try.prog 37 #[ptrV p] w (Ends w (blk p (.cells (mC22 iv (.slice (some ⟨mg, mo, Option.none⟩) img.length mc) rv s.send) 84 (0, 0)) * F) fun v => ownR v (s.out init img)) := by
  have hu := Try.underlying84
  have hub := Try.underlying33
  have hu := hu
  have hb8 := hub
  by_cases hsent : s.sent = true
  · have e1 : s.send = s := by unfold US.send; rw [if_pos hsent]
    have e2 : s.out init img = [] := by unfold US.out; rw [if_pos hsent]
    rw [e1, e2]
    have q3 : w.cell? ⟨p, 3, Option.none⟩ = some (.bool true) := by
      have h9 : w.cell? ⟨p, 3, Option.none⟩ = some (.bool s.sent) := cell_of_row w p 3 _ _ _ (on_blk_mul h)
      rw [hsent] at h9
      exact h9
    have H1 := hide h
    clear h e1 e2 hsent
    go_enter Try.func37, Try.ntmps37
    go_wp2_with fail
    go_ret
    exact ⟨_, rfl, own_nil 5 1 H1.out, Str.refl _⟩
  · have e1 : s.send = ({ s with sent := true, sends := s.sends + 1 } : US) := by unfold US.send; rw [if_neg hsent]
    have e2 : s.out init img = frames (s.texts init img) := by unfold US.out; rw [if_neg hsent]
    rw [e1, e2]
    obtain ⟨ia, ic, rfl, _, _, _, _⟩ := hiv w h.right
    have hph := ok.phase
    have hsf : s.sent = false := by simpa using hsent
    have hg := on_blk_mul h
    have fr := fun j => frozen_of_row w p j _ _ hg
    have q3 : w.cell? ⟨p, 3, Option.none⟩ = some (.bool false) := by
      have h9 : w.cell? ⟨p, 3, Option.none⟩ = some (.bool s.sent) := cell_of_row w p 3 _ _ _ hg
      rw [hsf] at h9
      exact h9
    have q7 : w.cell? ⟨p, 7, Option.none⟩ = some (.int .i64 (s.sends : Int)) := cell_of_row w p 7 _ _ _ hg
    have hlt := block_lt_of_cell q7
    have h1 : (blk p (.cells (mC22 (.slice ia init.length ic) (.slice (some ⟨mg, mo, Option.none⟩) img.length mc) rv ({ s with sent := true, sends := s.sends + 1 } : US)) 84 (0, 0)) * F).on ((w.setCell ⟨p, 3, Option.none⟩ (.bool true)).setCell ⟨p, 7, Option.none⟩ (.int .i64 ((s.sends : Int) + 1))) := (h.setCell (i := 3) (.bool true)).setCell (i := 7) (.int .i64 ((s.sends : Int) + 1))
    have q0 : ((w.setCell ⟨p, 3, Option.none⟩ (.bool true)).setCell ⟨p, 7, Option.none⟩ (.int .i64 ((s.sends : Int) + 1))).cell? ⟨p, 0, Option.none⟩ = some (.slice ia init.length ic) := cell_of_row _ p 0 _ _ _ (on_blk_mul h1)
    have q2 : ((w.setCell ⟨p, 3, Option.none⟩ (.bool true)).setCell ⟨p, 7, Option.none⟩ (.int .i64 ((s.sends : Int) + 1))).cell? ⟨p, 2, Option.none⟩ = some (.int .i64 (s.phase : Int)) := cell_of_row _ p 2 _ _ _ (on_blk_mul h1)
    have H1 := hide h1
    have S1 := hide (((Str.refl w).setCell ⟨p, 3, Option.none⟩ (.bool true)).setCell ⟨p, 7, Option.none⟩ (.int .i64 ((s.sends : Int) + 1)))
    clear h h1 hg e1 e2 hsent hsf
    rcases (show s.phase = 0 ∨ s.phase = 1 ∨ s.phase = 2 ∨ s.phase = 3 ∨ s.phase = 4 ∨ s.phase = 5 by omega) with hp | hp | hp | hp | hp | hp
    · have p0 : ((s.phase : Int) == 0) = true := by rw [hp]; rfl
      have p1 : ((s.phase : Int) == 1) = false := by rw [hp]; rfl
      have p2 : ((s.phase : Int) == 2) = false := by rw [hp]; rfl
      have p3 : ((s.phase : Int) == 3) = false := by rw [hp]; rfl
      have p4 : ((s.phase : Int) == 4) = false := by rw [hp]; rfl
      have p5 : ((s.phase : Int) == 5) = false := by rw [hp]; rfl
      have Htx : Hid (s.texts init img = [[2, 0, 0], [6, 1]]) := hide (by unfold US.texts; simp [hp])
      clear hp
      go_enter Try.func37, Try.ntmps37
      have hE := frames22_any _ [[2, 0, 0], [6, 1]] _ (IsRows.new2 ((IsBytes.new ((w.setCell ⟨p, 3, Option.none⟩ (.bool true)).setCell ⟨p, 7, Option.none⟩ (.int .i64 ((s.sends : Int) + 1))) [2, 0, 0] (by decide) 5).below (alloc1 (o := .cells (vbs [6, 1]).toArray 5))) (IsBytes.new (((w.setCell ⟨p, 3, Option.none⟩ (.bool true)).setCell ⟨p, 7, Option.none⟩ (.int .i64 ((s.sends : Int) + 1))).alloc (.cells (vbs [2, 0, 0]).toArray 5)) [6, 1] (by decide) 5) 33) (by decide)
      simp only [World.size_alloc, World.size_setCell] at hE
      have hE := show Calls Try.prog 67 #[.slice (some ⟨w.heap.size + 2, 0, Option.none⟩) 2 2] (((((w.setCell ⟨p, 3, Option.none⟩ (.bool true)).setCell ⟨p, 7, Option.none⟩ (.int .i64 ((s.sends : Int) + 1))).alloc (.cells #[.int .u8 2, .int .u8 0, .int .u8 0] 5)).alloc (.cells #[.int .u8 6, .int .u8 1] 5)).alloc (.cells #[.slice (some ⟨w.heap.size, 0, Option.none⟩) 3 3, .slice (some ⟨w.heap.size + 1, 0, Option.none⟩) 2 2] 33)) _ from hE
      have HE := hide hE
      clear hE
      have H4 := hide (((H1.out.alloc' (.cells #[.int .u8 2, .int .u8 0, .int .u8 0] 5)).alloc' (.cells #[.int .u8 6, .int .u8 1] 5)).alloc' (.cells #[.slice (some ⟨w.heap.size, 0, Option.none⟩) 3 3, .slice (some ⟨w.heap.size + 1, 0, Option.none⟩) 2 2] 33))
      have S4 := hide (((S1.out.alloc (.cells #[.int .u8 2, .int .u8 0, .int .u8 0] 5)).alloc (.cells #[.int .u8 6, .int .u8 1] 5)).alloc (.cells #[.slice (some ⟨w.heap.size, 0, Option.none⟩) 3 3, .slice (some ⟨w.heap.size + 1, 0, Option.none⟩) 2 2] 33))
      go_wp2_with fail
      refine HE.out.mono ?_
      clear HE
      rintro e w5 ⟨out, rfl, ho, hs⟩
      have H5 := hide (on_all_to ho H4.out)
      have S5 := hide (S4.out.trans hs)
      have hle : (frames [[2, 0, 0], [6, 1]]).length ≤ 20 := by decide
      generalize hfz : frames [[2, 0, 0], [6, 1]] = fz at *
      have Hfz := hide hfz
      obtain ⟨oa5, oc5, rfl, _, _, _, _⟩ := own_value ho
      clear ho hs H4 S4 hfz
      go_wp2_with fail
      go_ret
      exact ⟨_, rfl, by rw [Htx.out, Hfz.out]; exact H5.out, S5.out⟩
    · have p0 : ((s.phase : Int) == 0) = false := by rw [hp]; rfl
      have p1 : ((s.phase : Int) == 1) = true := by rw [hp]; rfl
      have p2 : ((s.phase : Int) == 2) = false := by rw [hp]; rfl
      have p3 : ((s.phase : Int) == 3) = false := by rw [hp]; rfl
      have p4 : ((s.phase : Int) == 4) = false := by rw [hp]; rfl
      have p5 : ((s.phase : Int) == 5) = false := by rw [hp]; rfl
      have Htx : Hid (s.texts init img = objT 1 init ++ [[4]]) := hide (by unfold US.texts; simp [hp])
      clear hp
      go_enter Try.func37, Try.ntmps37
      have hO := object22_any 1 _ init ((w.setCell ⟨p, 3, Option.none⟩ (.bool true)).setCell ⟨p, 7, Option.none⟩ (.int .i64 ((s.sends : Int) + 1))) (hiv _ H1.out.right) (by omega)
      have HO := hide hO
      clear hO
      go_wp2_with fail
      refine HO.out.mono ?_
      clear HO
      rintro e w2 ⟨out, rfl, ho, hs⟩
      have H2 := hide (on_all_to ho H1.out)
      have S2 := hide (S1.out.trans hs)
      have hle := objT_len 1 init (by omega)
      obtain ⟨oa2, oc2, rfl, _, _, _, _⟩ := own_value ho
      have HFo := hide (show frames (objT 1 init ++ [[4]]) = frames (objT 1 init) ++ frame [4] by rw [frames_append, frames_one])
      generalize frames (objT 1 init) = fo at *
      clear ho hs H1 S1
      have hE := frames22_any _ [[4]] _ (IsRows.one (IsBytes.new w2 [4] (by decide) 5) 33) (by decide)
      simp only [World.size_alloc, World.size_setCell] at hE
      have hE := show Calls Try.prog 67 #[.slice (some ⟨w2.heap.size + 1, 0, Option.none⟩) 1 1] ((w2.alloc (.cells #[.int .u8 4] 5)).alloc (.cells #[.slice (some ⟨w2.heap.size, 0, Option.none⟩) 1 1] 33)) _ from hE
      have HE := hide hE
      clear hE
      rw [frames_one] at HE
      have H4 := hide ((H2.out.alloc' (.cells #[.int .u8 4] 5)).alloc' (.cells #[.slice (some ⟨w2.heap.size, 0, Option.none⟩) 1 1] 33))
      have S4 := hide ((S2.out.alloc (.cells #[.int .u8 4] 5)).alloc (.cells #[.slice (some ⟨w2.heap.size, 0, Option.none⟩) 1 1] 33))
      go_wp2_with fail
      refine HE.out.mono ?_
      clear HE H2 S2
      rintro e w5 ⟨out, rfl, ho, hs⟩
      have H5 := hide (on_swap (on_all_to ho H4.out))
      have S5 := hide (S4.out.trans hs)
      have HB5 := hide (own_bytes ho)
      have hl4 : (frame [4]).length ≤ 3 := by decide
      generalize frame [4] = fz at *
      obtain ⟨oa5, oc5, rfl, _, _, _, _⟩ := own_value ho
      clear ho hs H4 S4
      go_wp2_with (at_builtin; refine wpList_append_bytes (F := ownR (.slice oa5 fz.length oc5) fz * (blk p (.cells (mC22 (.slice ia init.length ic) (.slice (some ⟨mg, mo, Option.none⟩) img.length mc) rv ({ s with sent := true, sends := s.sends + 1 } : US)) 84 (0, 0)) * F)) rfl _ _ 33 rfl 5 hub infoByte _ fo fz rfl H5.out _ rfl HB5.out (by omega) ?_; intro v6 w6 ho6 hs6; obtain ⟨zv6, hz⟩ : ∃ z, z = fo ++ fz := ⟨_, rfl⟩; rw [← hz] at ho6; obtain ⟨av6, cv6, rfl, _, _, _, _⟩ := own_value ho6; have HO_ho6 := hide ho6; have HS_hs6 := hide hs6; have HZ_v6 := hide hz; clear ho6 hs6 hz)
      go_ret
      exact ⟨_, rfl, by rw [Htx.out, HFo.out, ← HZ_v6.out]; exact SP.le.on (SP.le.mul (SP.le.refl _) (SP.le_right _ _)) HO_ho6.out, S5.out.trans HS_hs6.out⟩
    · have p0 : ((s.phase : Int) == 0) = false := by rw [hp]; rfl
      have p1 : ((s.phase : Int) == 1) = false := by rw [hp]; rfl
      have p2 : ((s.phase : Int) == 2) = true := by rw [hp]; rfl
      have p3 : ((s.phase : Int) == 3) = false := by rw [hp]; rfl
      have p4 : ((s.phase : Int) == 4) = false := by rw [hp]; rfl
      have p5 : ((s.phase : Int) == 5) = false := by rw [hp]; rfl
      have Htx : Hid (s.texts init img = [[6, 2]]) := hide (by unfold US.texts; simp [hp])
      clear hp
      go_enter Try.func37, Try.ntmps37
      have hE := frames22_any _ [[6, 2]] _ (IsRows.one (IsBytes.new ((w.setCell ⟨p, 3, Option.none⟩ (.bool true)).setCell ⟨p, 7, Option.none⟩ (.int .i64 ((s.sends : Int) + 1))) [6, 2] (by decide) 5) 33) (by decide)
      simp only [World.size_alloc, World.size_setCell] at hE
      have hE := show Calls Try.prog 67 #[.slice (some ⟨w.heap.size + 1, 0, Option.none⟩) 1 1] ((((w.setCell ⟨p, 3, Option.none⟩ (.bool true)).setCell ⟨p, 7, Option.none⟩ (.int .i64 ((s.sends : Int) + 1))).alloc (.cells #[.int .u8 6, .int .u8 2] 5)).alloc (.cells #[.slice (some ⟨w.heap.size, 0, Option.none⟩) 2 2] 33)) _ from hE
      have HE := hide hE
      clear hE
      have H4 := hide ((H1.out.alloc' (.cells #[.int .u8 6, .int .u8 2] 5)).alloc' (.cells #[.slice (some ⟨w.heap.size, 0, Option.none⟩) 2 2] 33))
      have S4 := hide ((S1.out.alloc (.cells #[.int .u8 6, .int .u8 2] 5)).alloc (.cells #[.slice (some ⟨w.heap.size, 0, Option.none⟩) 2 2] 33))
      go_wp2_with fail
      refine HE.out.mono ?_
      clear HE
      rintro e w5 ⟨out, rfl, ho, hs⟩
      have H5 := hide (on_all_to ho H4.out)
      have S5 := hide (S4.out.trans hs)
      have hle : (frames [[6, 2]]).length ≤ 20 := by decide
      generalize hfz : frames [[6, 2]] = fz at *
      have Hfz := hide hfz
      obtain ⟨oa5, oc5, rfl, _, _, _, _⟩ := own_value ho
      clear ho hs H4 S4 hfz
      go_wp2_with fail
      go_ret
      exact ⟨_, rfl, by rw [Htx.out, Hfz.out]; exact H5.out, S5.out⟩
    · have p0 : ((s.phase : Int) == 0) = false := by rw [hp]; rfl
      have p1 : ((s.phase : Int) == 1) = false := by rw [hp]; rfl
      have p2 : ((s.phase : Int) == 2) = false := by rw [hp]; rfl
      have p3 : ((s.phase : Int) == 3) = true := by rw [hp]; rfl
      have p4 : ((s.phase : Int) == 4) = false := by rw [hp]; rfl
      have p5 : ((s.phase : Int) == 5) = false := by rw [hp]; rfl
      have Htx : Hid (s.texts init img = objT 2 (objU img s.from')) := hide (by unfold US.texts; simp [hp])
      have hfr := ok.here (.inl hp)
      clear hp
      go_enter Try.func37, Try.ntmps37
      have hN := hide (mnext_any p (.slice ia init.length ic) rv ({ s with sent := true, sends := s.sends + 1 } : US) mg mo mc img hfr hl F ((w.setCell ⟨p, 3, Option.none⟩ (.bool true)).setCell ⟨p, 7, Option.none⟩ (.int .i64 ((s.sends : Int) + 1))) H1.out hmc)
      go_wp2_with fail
      refine hN.out.mono ?_
      clear hN
      rintro e w2 ⟨rfl, hb2⟩
      have H2 := hide (H1.out.below hb2)
      have S2 := hide (S1.out.trans (Str.below hb2))
      have hol := objU_len img s.from'
      have hO := hide (object22_any 2 _ (objU img s.from') w2 (obj_bytes (hmv _ H2.out.right) hfr) (by omega))
      clear hb2 H1 S1 hol
      go_wp2_with fail
      refine hO.out.mono ?_
      clear hO
      rintro e w3 ⟨out, rfl, ho, hs⟩
      have H5 := hide (on_all_to ho H2.out)
      have S5 := hide (S2.out.trans hs)
      generalize hfo : frames (objT 2 (objU img s.from')) = fo at *
      have HFo := hide hfo
      obtain ⟨oa2, oc2, rfl, _, _, _, _⟩ := own_value ho
      clear ho hs H2 S2 hfo
      go_wp2_with fail
      go_ret
      exact ⟨_, rfl, by rw [Htx.out, HFo.out]; exact H5.out, S5.out⟩
    · have p0 : ((s.phase : Int) == 0) = false := by rw [hp]; rfl
      have p1 : ((s.phase : Int) == 1) = false := by rw [hp]; rfl
      have p2 : ((s.phase : Int) == 2) = false := by rw [hp]; rfl
      have p3 : ((s.phase : Int) == 3) = false := by rw [hp]; rfl
      have p4 : ((s.phase : Int) == 4) = true := by rw [hp]; rfl
      have p5 : ((s.phase : Int) == 5) = false := by rw [hp]; rfl
      have Htx : Hid (s.texts init img = [[4]]) := hide (by unfold US.texts; simp [hp])
      clear hp
      go_enter Try.func37, Try.ntmps37
      have hE := frames22_any _ [[4]] _ (IsRows.one (IsBytes.new ((w.setCell ⟨p, 3, Option.none⟩ (.bool true)).setCell ⟨p, 7, Option.none⟩ (.int .i64 ((s.sends : Int) + 1))) [4] (by decide) 5) 33) (by decide)
      simp only [World.size_alloc, World.size_setCell] at hE
      have hE := show Calls Try.prog 67 #[.slice (some ⟨w.heap.size + 1, 0, Option.none⟩) 1 1] ((((w.setCell ⟨p, 3, Option.none⟩ (.bool true)).setCell ⟨p, 7, Option.none⟩ (.int .i64 ((s.sends : Int) + 1))).alloc (.cells #[.int .u8 4] 5)).alloc (.cells #[.slice (some ⟨w.heap.size, 0, Option.none⟩) 1 1] 33)) _ from hE
      have HE := hide hE
      clear hE
      have H4 := hide ((H1.out.alloc' (.cells #[.int .u8 4] 5)).alloc' (.cells #[.slice (some ⟨w.heap.size, 0, Option.none⟩) 1 1] 33))
      have S4 := hide ((S1.out.alloc (.cells #[.int .u8 4] 5)).alloc (.cells #[.slice (some ⟨w.heap.size, 0, Option.none⟩) 1 1] 33))
      go_wp2_with fail
      refine HE.out.mono ?_
      clear HE
      rintro e w5 ⟨out, rfl, ho, hs⟩
      have H5 := hide (on_all_to ho H4.out)
      have S5 := hide (S4.out.trans hs)
      have hle : (frames [[4]]).length ≤ 20 := by decide
      generalize hfz : frames [[4]] = fz at *
      have Hfz := hide hfz
      obtain ⟨oa5, oc5, rfl, _, _, _, _⟩ := own_value ho
      clear ho hs H4 S4 hfz
      go_wp2_with fail
      go_ret
      exact ⟨_, rfl, by rw [Htx.out, Hfz.out]; exact H5.out, S5.out⟩
    · have p0 : ((s.phase : Int) == 0) = false := by rw [hp]; rfl
      have p1 : ((s.phase : Int) == 1) = false := by rw [hp]; rfl
      have p2 : ((s.phase : Int) == 2) = false := by rw [hp]; rfl
      have p3 : ((s.phase : Int) == 3) = false := by rw [hp]; rfl
      have p4 : ((s.phase : Int) == 4) = false := by rw [hp]; rfl
      have p5 : ((s.phase : Int) == 5) = true := by rw [hp]; rfl
      have Htx : Hid (s.texts init img = []) := hide (by unfold US.texts; simp [hp])
      clear hp
      go_enter Try.func37, Try.ntmps37
      go_wp2_with fail
      go_ret
      exact ⟨_, rfl, by rw [Htx.out]; exact own_nil 5 1 H1.out, S1.out⟩
end Go.Proofs.Ytjmgnfpcieofkaa
