/- Answers, requests, and lists of numbers as arguments. -/
import Derived.Test.YtgkofpfjbjnhfaaOpc4
import Derived.Test.YtgkofpfjbjnhfaaRecOpen
namespace Go.Proofs.Ytgkofpfjbjnhfaa
open Go.ChangeShapes Go.WideShapes Go.ChangeAt Go.RowKit
set_option linter.unusedVariables false
set_option linter.unusedSimpArgs false
section
variable {H : Type} {enc : TypeId × Value → H} {w : World} {base : Nat} {spare : Nat → Bool} {held : Bool}

set_option maxRecDepth 100000 in
theorem open_resp {v : Value} {d : DataW H} {p : List MemPlace} {r : _} {base' : Nat} (hv : Value.okWide Try.prog w r base' 68 v) (h : DataW.Trod enc Try.prog w base spare held 68 v d p) : ∃ q dv, v = .agg (respCells q dv) ∧ IsBytes w dv q.data := by
  have hu := Try.underlying68
  have h8 := Try.underlying5
  have hs8 := Try.underlying28
  have c8 : Try.prog.cellsOf 5 = 1 := by kernel_rfl
  have cs8 : Try.prog.cellsOf 28 = 1 := by kernel_rfl
  have c3 : Try.prog.cellsOf 68 = 3 := by kernel_rfl
  obtain ⟨cs, rfl, hsz⟩ := okWide_struct hu hv
  obtain ⟨fuel, hf⟩ := h
  obtain ⟨xs, n, rfl, _, hl, hxl, hfs⟩ := DataW.trod_struct hu hf
  rw [c3] at hsz
  match xs, hxl with
  | [x0, x1, x2], _ =>
    have g0 := hfs 0 _ rfl
    have g1 := hfs 1 _ rfl
    have g2 := hfs 2 _ rfl
    simp only [Value.cells] at g0 g1 g2
    obtain ⟨n0, e0⟩ := trod_b8 h8 g0
    obtain ⟨n1, e1⟩ := trod_b8 h8 g1
    obtain ⟨iv, l, e2, hb, _⟩ := trod_bytes hs8 h8 c8 g2
    refine ⟨⟨n0, n1, l⟩, iv, ?_, hb⟩
    clear g0 g1 g2 hfs hf hl hv
    obtain ⟨csl⟩ := cs
    match csl, hsz with
    | [y0, y1, y2], _ =>
      simp only [List.drop_succ_cons, List.drop_zero] at e0 e1 e2
      change List.take (Try.prog.cellsOf 5) _ = _ at e0
      rw [c8] at e0
      change List.take (Try.prog.cellsOf 5) _ = _ at e1
      rw [c8] at e1
      change List.take (Try.prog.cellsOf 28) _ = _ at e2
      rw [cs8] at e2
      simp at e0 e1 e2
      subst e0 e1 e2
      rfl

theorem open_words {P : Program} {t e : TypeId} {v : Value} {d : DataW H} {p : List MemPlace} {r : _} {base' : Nat} (ht : P.underlying t = some (.slice e)) (he : P.underlying e = some (.int .u32)) (hc : P.cellsOf e = 1)
    (hv : Value.okWide P w r base' t v) (h : DataW.Trod enc P w base spare held t v d p) : ∃ l, IsWords w v l := by
  obtain ⟨a, len, cap, rfl⟩ := okWide_slice ht hv
  obtain ⟨fuel, hf⟩ := h
  rcases open_ints ht he hc hf with ⟨hcs, hx⟩ | ⟨a', len', cap', zs, hcs, _, hl, hm, hz, hx, hcell, hwz⟩
  · simp [Value.cells] at hcs
    obtain ⟨rfl, rfl, rfl⟩ := hcs
    exact ⟨[], _, _, rfl, Nat.le_refl _, Nat.zero_le _, Lay.nil _ _, fun _ => rfl, fun n hn => by simp at hn⟩
  · simp [Value.cells] at hcs
    obtain ⟨rfl, rfl, rfl⟩ := hcs
    have hzl : len ≤ zs.length := by rw [hz]; split <;> omega
    have hpos : ∀ i (hi : i < zs.length), 0 ≤ zs[i] ∧ zs[i] ≤ 4294967295 := fun i hi => wf_u32 (hwz zs[i] (List.getElem_mem _))
    refine ⟨(zs.take len).map Int.toNat, some a', cap, by simp; omega, by simp; omega, hm, ?_, fun h => (nomatch h), ?_⟩
    · intro i v hvv
      simp only [List.getElem?_map] at hvv
      have hi : i < len := by
        rcases Nat.lt_or_ge i len with h | h
        · exact h
        · rw [List.getElem?_eq_none (by simp; omega)] at hvv; simp at hvv
      have hce := hcell i (by omega)
      obtain ⟨b, off, rfl, hadd⟩ := addr_add_spot (hcell 0 (by omega))
      refine ⟨b, off, rfl, ?_⟩
      rw [← hadd, hce]
      rw [List.getElem?_take, if_pos hi, List.getElem?_eq_getElem (by omega)] at hvv
      simp only [Option.map_some, Option.some.injEq] at hvv
      rw [← hvv]
      have hw := hpos i (by omega)
      simp only [List.getD_eq_getElem?_getD, List.getElem?_eq_getElem (show i < zs.length by omega), Option.getD_some]
      simp only [u32v]
      rw [Int.toNat_of_nonneg hw.1]
    · intro n hn
      obtain ⟨z, hz1, rfl⟩ := List.mem_map.1 hn
      obtain ⟨i, hi, rfl⟩ := List.mem_iff_getElem.1 (List.mem_of_mem_take hz1)
      have := hpos i hi
      omega
end
end Go.Proofs.Ytgkofpfjbjnhfaa
