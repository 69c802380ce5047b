/- How arguments read: bytes, lists of bytes. No Go function is spoken of here. -/
import Derived.Test.YtgkofpfjbjnhfaaDoorBytes
import Derived.ProofKit
import Derived.OpenShut
import Derived.ChangeOld
import Derived.SizedLaws
namespace Go.Proofs.YtgkofpfjbjnhfaaDoor
open Go.ChangeShapes Go.WideShapes Go.ChangeAt Go.RowKit
set_option linter.unusedVariables false
variable {H : Type} {enc : TypeId × Value → H} {P : Program} {w : World} {base : Nat} {spare : Nat → Bool} {held : Bool}

theorem addr_add_spot {w : World} {a : Addr} {v : Value} (h : w.cell? (a.add 0) = some v) : ∃ b off, a = ⟨b, off, Option.none⟩ ∧ ∀ i, a.add i = ⟨b, off + i, Option.none⟩ := by
  obtain ⟨b, off, spot⟩ := a
  have hs := World.cell?_spot h
  have : spot = Option.none := by simpa [Addr.add] using hs
  subst this
  exact ⟨b, off, rfl, fun i => by unfold Addr.add; split <;> simp_all⟩

/-- what is read is so long -/
def LenOf (d : DataW H) (n : Nat) : Prop := n = 0 ∨ ∃ es sp, d = .slice es sp ∧ n = es.length
theorem LenOf.reach {P : Program} {ts : List TypeId} {ds : List (DataW H)} {d : DataW H} {n : Nat} (h : LenOf d n) (hsz : (DataW.weightsEach P ts ds).all (· ≤ reachBytes) = true) {j : Nat} {t e : TypeId} (ht : ts[j]? = some t) (hd : ds[j]? = some d)
    (hu : P.underlying t = some (.slice e)) (hb : 1 ≤ P.bytesOf e) : n ≤ 140737488351232 := by
  rcases h with rfl | ⟨es, sp, rfl, rfl⟩
  · omega
  · have := sized_slice hsz ht hd hu
    have h2 : es.length * 1 ≤ (es.length + sp.length) * P.bytesOf e := Nat.mul_le_mul (by omega) hb
    unfold reachBytes at this
    omega

theorem trod_bytes {t e : TypeId} {fuel : Nat} {cs : List Value} {x : DataW H × List MemPlace} (ht : P.underlying t = some (.slice e)) (he : P.underlying e = some (.int .u8)) (hc : P.cellsOf e = 1)
    (h : DataW.trod enc P w base spare held fuel t cs = some x) : ∃ v l, cs = [v] ∧ IsBytes w v l ∧ LenOf x.1 l.length := by
  rcases open_ints ht he hc h with ⟨hcs, hx⟩ | ⟨a, len, cap, zs, hcs, _, hl, hm, hz, hx, hcell, hwz⟩
  · exact ⟨_, [], hcs, IsBytes.nil w, .inl rfl⟩
  · have hzl : len ≤ zs.length := by rw [hz]; split <;> omega
    refine ⟨_, (zs.take len).map fun n => UInt8.ofNat n.toNat, hcs, ⟨some a, cap, by simp; omega, by simp; omega, hm, ?_, fun h => (nomatch h)⟩, .inr ⟨_, _, by rw [hx], by simp [lits]⟩⟩
    intro i v hv
    simp only [List.getElem?_map] at hv
    have hi : i < len := by
      rcases Nat.lt_or_ge i len with h | h
      · exact h
      · rw [List.getElem?_eq_none (by simp; omega)] at hv; simp at hv
    have hce := hcell i (by omega)
    obtain ⟨b, off, rfl, hadd⟩ := addr_add_spot (hcell 0 (by omega))
    refine ⟨b, off, rfl, ?_⟩
    rw [← hadd, hce]
    rw [List.getElem?_take, if_pos hi, List.getElem?_eq_getElem (by omega)] at hv
    simp only [Option.map_some, Option.some.injEq] at hv
    rw [← hv]
    have hw := hwz zs[i] (List.getElem_mem _)
    simp only [List.getD_eq_getElem?_getD, List.getElem?_eq_getElem (show i < zs.length by omega), Option.getD_some]
    generalize zs[i] = n at hw
    simp [Lit.wf, IntKind.min, IntKind.max, IntKind.bits, IntKind.signed] at hw
    obtain ⟨m, rfl⟩ := Int.eq_ofNat_of_zero_le hw.1
    have : (UInt8.ofNat m).toNat = m := by simp; omega
    simp [vb, this]

theorem trod_rows {t e : TypeId} {e1 : TypeId} {fuel : Nat} {cs : List Value} {x : DataW H × List MemPlace} (ht : P.underlying t = some (.slice e)) (ht1 : P.underlying e = some (.slice e1)) (he : P.underlying e1 = some (.int .u8)) (hc1 : P.cellsOf e1 = 1) (hc : P.cellsOf e = 1)
    (h : DataW.trod enc P w base spare held fuel t cs = some x) : ∃ v ls, cs = [v] ∧ IsRows w v ls ∧ LenOf x.1 ls.length := by
  rcases DataW.trod_slice ht h with ⟨hcs, _⟩ | ⟨a, len, cap, elems, rest, n, _, hcs, hx, _, hl, hm, hlen, hel, _, _⟩
  · exact ⟨_, [], hcs, ⟨_, _, [], rfl, Nat.le_refl _, Nat.zero_le _, Lay.nil _ _, rfl, fun i v l h => by simp at h⟩, .inl rfl⟩
  · have each : ∀ i, i < len → ∃ v l, w.cell? (a.add i) = some v ∧ IsBytes w v l := by
      intro i hi
      have := hel i hi
      rw [List.getElem?_eq_getElem (by omega), hc, Nat.mul_one, Option.bind_eq_some_iff] at this
      obtain ⟨cs', hcs', hy⟩ := this
      obtain ⟨v, l, rfl, hb, _⟩ := trod_bytes ht1 he hc1 hy
      exact ⟨v, l, cell_of_cells?_one hcs', hb⟩
    have pick : ∀ n, n ≤ len → ∃ (vs : List Value) (ls : List (List UInt8)), vs.length = n ∧ ls.length = n ∧ (∀ (i : Nat) (v : Value), vs[i]? = some v → w.cell? (a.add i) = some v) ∧ ∀ (i : Nat) (v : Value) (l : List UInt8), vs[i]? = some v → ls[i]? = some l → IsBytes w v l := by
      intro n
      induction n with
      | zero => intro _; exact ⟨[], [], rfl, rfl, fun i v h => by simp at h, fun i v l h => by simp at h⟩
      | succ n ih =>
        intro hn
        obtain ⟨vs, ls, h1, h2, h3, h4⟩ := ih (by omega)
        obtain ⟨v, l, g1, g2⟩ := each n (by omega)
        refine ⟨vs ++ [v], ls ++ [l], by simp [h1], by simp [h2], ?_, ?_⟩
        · intro i u hu
          rcases Nat.lt_trichotomy i n with hi | hi | hi
          · rw [List.getElem?_append_left (by omega)] at hu; exact h3 i u hu
          · subst hi
            rw [List.getElem?_append_right (by omega), h1, Nat.sub_self] at hu
            simp at hu; subst hu; exact g1
          · rw [List.getElem?_eq_none (by simp; omega)] at hu; cases hu
        · intro i u m hu hm
          rcases Nat.lt_trichotomy i n with hi | hi | hi
          · rw [List.getElem?_append_left (by omega)] at hu hm; exact h4 i u m hu hm
          · subst hi
            rw [List.getElem?_append_right (by omega), h1, Nat.sub_self] at hu
            rw [List.getElem?_append_right (by omega), h2, Nat.sub_self] at hm
            simp at hu hm; subst hu; subst hm; exact g2
          · rw [List.getElem?_eq_none (by simp; omega)] at hu; cases hu
    obtain ⟨vs, ls, h1, h2, h3, h4⟩ := pick len (Nat.le_refl _)
    refine ⟨_, ls, hcs, ⟨some a, cap, vs, by rw [h2], by omega, hm, ?_, by omega, h4⟩, .inr ⟨_, _, by rw [hx], by simp; omega⟩⟩
    intro i v hv
    have hl0 : 0 < vs.length := by
      have := (List.getElem?_eq_some_iff.1 hv).1
      omega
    obtain ⟨b, off, rfl, hadd⟩ := addr_add_spot (h3 0 vs[0] (List.getElem?_eq_getElem hl0))
    exact ⟨b, off, rfl, by rw [← hadd]; exact h3 i v hv⟩

theorem open_bytes {t e : TypeId} {v : Value} {d : DataW H} {p : List MemPlace} {r : _} {base' : Nat} (ht : P.underlying t = some (.slice e)) (he : P.underlying e = some (.int .u8)) (hc : P.cellsOf e = 1)
    (hv : Value.okWide P w r base' t v) (h : DataW.Trod enc P w base spare held t v d p) : ∃ l, IsBytes w v l ∧ LenOf d l.length := by
  obtain ⟨a, len, cap, rfl⟩ := okWide_slice ht hv
  obtain ⟨fuel, hf⟩ := h
  obtain ⟨v, l, hcs, hb, hn⟩ := trod_bytes ht he hc hf
  simp [Value.cells] at hcs
  subst hcs
  exact ⟨l, hb, hn⟩
theorem open_rows {t e e1 : TypeId} {v : Value} {d : DataW H} {p : List MemPlace} {r : _} {base' : Nat} (ht : P.underlying t = some (.slice e)) (ht1 : P.underlying e = some (.slice e1)) (he : P.underlying e1 = some (.int .u8)) (hc1 : P.cellsOf e1 = 1) (hc : P.cellsOf e = 1)
    (hv : Value.okWide P w r base' t v) (h : DataW.Trod enc P w base spare held t v d p) : ∃ ls, IsRows w v ls ∧ LenOf d ls.length := by
  obtain ⟨a, len, cap, rfl⟩ := okWide_slice ht hv
  obtain ⟨fuel, hf⟩ := h
  obtain ⟨v, l, hcs, hb, hn⟩ := trod_rows ht ht1 he hc1 hc hf
  simp [Value.cells] at hcs
  subst hcs
  exact ⟨l, hb, hn⟩

theorem wf_i64 {n : Int} (h : (Lit.int .i64 n).wf = true) : -9223372036854775808 ≤ n ∧ n ≤ 9223372036854775807 := by
  simpa [Lit.wf, IntKind.min, IntKind.max, IntKind.bits, IntKind.signed] using h
theorem wf_u8 {n : Int} (h : (Lit.int .u8 n).wf = true) : 0 ≤ n ∧ n ≤ 255 := by
  simpa [Lit.wf, IntKind.min, IntKind.max, IntKind.bits, IntKind.signed] using h
theorem wf_u32 {n : Int} (h : (Lit.int .u32 n).wf = true) : 0 ≤ n ∧ n ≤ 4294967295 := by
  simpa [Lit.wf, IntKind.min, IntKind.max, IntKind.bits, IntKind.signed] using h
theorem wf_u64 {n : Int} (h : (Lit.int .u64 n).wf = true) : 0 ≤ n ∧ n ≤ 18446744073709551615 := by
  simpa [Lit.wf, IntKind.min, IntKind.max, IntKind.bits, IntKind.signed] using h
end Go.Proofs.YtgkofpfjbjnhfaaDoor
