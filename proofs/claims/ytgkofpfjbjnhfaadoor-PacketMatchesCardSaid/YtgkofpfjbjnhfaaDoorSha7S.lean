/- SHA-2 on words of 32 bits: the digest of bytes in parts. -/
import Derived.Test.YtgkofpfjbjnhfaaDoorSha6S
import Derived.Test.YtgkofpfjbjnhfaaDoorAllOn
namespace Go.Proofs.YtgkofpfjbjnhfaaDoor
open Go.ChangeShapes Go.WideShapes Go.ChangeAt Go.RowKit
namespace Sha32
set_option linter.unusedVariables false
set_option linter.unusedSimpArgs false

theorem Tab.all {w X : World} (h : Tab w) (ha : (all w).on X) : Tab X :=
  ⟨fun i hi => all_cell ha (h.rounds i hi), fun i x hx => all_cell ha (h.first i x hx)⟩

set_option maxRecDepth 100000 in
set_option maxHeartbeats 8000000 in
theorem of_any (v : Value) (ls : List (List UInt8)) (w : World) (hr : IsRows w v ls) (hT : Tab w) (hlen : ls.flatten.length ≤ 1000000000) :
    Calls Tryd.prog 80 #[v] w fun e w' => e = .returned (.agg (bv (digest ls.flatten))) ∧ Below w.heap.size w w' := by
  have hzd : ∀ w, (zeroValue 71).run Tryd.prog w = .ok (.agg (bv zD)) w := fun w => by kernel_rfl
  have hud := Tryd.underlying71
  obtain ⟨a, c, vs, rfl, hc, hm, hlay, hvl, hin⟩ := hr
  unfold maxLen at hm
  have hN := new_any (w.alloc (.cells (bv zD) 71)) (hT.below ((Below.refl _ _).alloc (Nat.le_refl _) _))
  have HF : Hid (∀ X, (blk w.heap.size (.cells (bv zD) 71 (0, 0)) * all w).on X → Tab X) := hide fun X hX => hT.all hX.right
  have H0 := hide ((on_all w).alloc (.cells (bv zD) 71))
  have Hlay := hide hlay
  have Hvl := hide hvl
  have Hin := hide hin
  have Hlen := hide hlen
  clear hlay hvl hin hlen hT
  go_enter Tryd.func80, Tryd.ntmps80
  go_wp2_with fail
  refine hN.mono ?_
  clear hN
  rintro e w1 ⟨v1, rfl, ho, hs⟩
  obtain ⟨p, ho⟩ := on_ex_mul.1 ho
  rw [SP.mul_assoc] at ho
  obtain ⟨rfl, ho2⟩ := on_pure_mul.1 ho
  have H1 := hide (on_all_to ho2 H0.out)
  have HS1 := hide (((Str.refl w).alloc (.cells (bv zD) 71)).trans hs)
  clear ho ho2 hs
  go_wp2_with fail
  go_loopw [9] (fun i wr => ∃ k : Nat, k ≤ ls.length ∧ i = .int .i64 k ∧ (Sha p (ls.take k).flatten * (blk w.heap.size (.cells (bv zD) 71 (0, 0)) * all w)).on wr ∧ Str w wr) (fun i _ => ls.length - (intOf i).toNat)
  case atStart => exact ⟨0, Nat.zero_le _, rfl, H1.out, HS1.out⟩
  case round =>
    obtain ⟨k, hk, rfl, hw, hstr⟩ := hrel
    by_cases hlt : k < ls.length
    · have hvk : k < vs.length := by rw [Hvl.out]; exact hlt
      have hbk := Hin.out k vs[k] ls[k] (List.getElem?_eq_getElem hvk) (List.getElem?_eq_getElem hlt)
      obtain ⟨bg, bo, e1, cv0⟩ := Hlay.out k vs[k] (List.getElem?_eq_getElem hvk)
      subst e1
      have cv := all_cell hw.right.right cv0
      have HN := hide (show (ls.take (k + 1)).flatten = (ls.take k).flatten ++ ls[k] by rw [List.take_succ_eq_append_getElem hlt, List.flatten_append]; simp)
      have hfl : ((ls.take k).flatten).length + ls[k].length ≤ ls.flatten.length := by
        have e9 : ls.flatten = (ls.take (k + 1)).flatten ++ (ls.drop (k + 1)).flatten := by rw [← List.flatten_append, List.take_append_drop]
        rw [e9, HN.out]
        simp only [List.length_append]
        omega
      have hW := write_any p (ls.take k).flatten vs[k] ls[k] _ wr hw HF.out (fun X hX => hbk.all hX.right) (by have := Hlen.out; omega)
      have HSt := hide hstr
      obtain ⟨ba, bc, hbe, _⟩ := hbk
      rw [hbe] at hW cv
      clear hw hstr hfl hbe cv0 H1 HS1
      generalize ls[k].length = nk at *
      go_wp2_with fail
      refine hW.mono ?_
      clear hW cv
      rintro e w2 ⟨⟨u, rfl⟩, hw2, hs2⟩
      rw [← HN.out] at hw2
      have HW2 := hide hw2
      have HS2 := hide (HSt.out.trans hs2)
      clear hw2 hs2
      go_wp2_with fail
      exact ⟨⟨k + 1, by omega, by simp, HW2.out, HS2.out⟩, by simp [intOf]; omega⟩
    · obtain rfl : k = ls.length := by omega
      rw [List.take_length] at hw
      have hS := sum_any p _ _ wr hw HF.out Hlen.out
      have HSt := hide hstr
      clear hw hstr H1 HS1
      go_wp2_with fail
      refine hS.mono ?_
      clear hS
      rintro e w2 ⟨rfl, hw2, hs2⟩
      have hdl := digest_len ls.flatten
      have Hr := hide (on_blk_mul hw2.right)
      have HW := hide ((hw2.right.setRow (bv (digest ls.flatten))).right)
      have HS2 := hide (HSt.out.trans hs2)
      have HsD : Hid ((Tryd.prog.info? 71).map (·.size) = some (bv (digest ls.flatten)).size) := hide (by rw [bv_size, hdl]; kernel_rfl)
      have HzD : Hid ((bv zD).size = (bv (digest ls.flatten)).size) := hide (by rw [bv_size, bv_size, hdl]; rfl)
      have HoD := hide (bv_one (digest ls.flatten))
      generalize hDg : bv (digest ls.flatten) = Dg at *
      have HDg := hide hDg
      clear hw2 hs2 hdl hDg
      go_wp2_with (refine wpList_store_row rfl _ _ _ rfl w.heap.size Dg rfl rfl _ _ Hr.out HsD.out HzD.out HoD.out ?_)
      refine bodyPost_ret (v := .agg Dg) (results_cell_row Tryd.results80 _ _ w.heap.size _ Dg (0, 0) _ rfl (setRow_heap_same _ _ _ _ _ _ Hr.out) hud rfl HsD.out) rfl ?_
      exact ⟨congrArg (fun d => Ending.returned (.agg d)) HDg.out.symm, all_below HW.out (HS2.out.setRow _ _)⟩
end Sha32
end Go.Proofs.YtgkofpfjbjnhfaaDoor
