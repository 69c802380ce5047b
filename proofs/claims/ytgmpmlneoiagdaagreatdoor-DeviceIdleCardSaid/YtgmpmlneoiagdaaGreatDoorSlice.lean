/- Bytes from a place on. No Go function is spoken of. -/
import Derived.Test.YtgmpmlneoiagdaaGreatDoorGBase
import Derived.Laws.Slices
namespace Go.Proofs.YtgmpmlneoiagdaaGreatDoor
open Go.RowKit Go.WideShapes Go.ChangeShapes
set_option linter.unusedVariables false
set_option linter.unusedSimpArgs false
variable {P : Program}

theorem IsBytes.sliced {w : World} {a : Option Addr} {n c : Nat} {l : List UInt8} (h : IsBytes w (.slice a n c) l) (k : Nat) (hk : k ≤ l.length) : IsBytes w (sliced a k n c 1) (l.drop k) := by
  obtain ⟨a', c', e, h1, h2, h3, h4⟩ := h
  simp only [Value.slice.injEq] at e
  obtain ⟨rfl, rfl, rfl⟩ := e
  unfold Go.sliced
  by_cases hc : c = k
  · rw [if_pos hc]
    have hl : l.length = k := by omega
    have hd : l.drop k = [] := List.drop_of_length_le (by omega)
    rw [hd]
    refine ⟨a, c - k, by simp [hl], by simp, by omega, Lay.nil _ _, fun _ => by omega⟩
  · rw [if_neg hc]
    refine ⟨a.map (·.add (k * 1)), c - k, by rw [List.length_drop], by rw [List.length_drop]; omega, by omega, ?_, ?_⟩
    · rcases Nat.eq_zero_or_pos l.length with h0 | h0
      · have : l.drop k = [] := List.drop_of_length_le (by omega)
        rw [this]; exact Lay.nil _ _
      · obtain ⟨b, off, rfl⟩ := h3.isAddr 0 (by simpa using h0)
        have : (⟨b, off, Option.none⟩ : Addr).add (k * 1) = ⟨b, off + k, Option.none⟩ := by unfold Addr.add; split <;> simp_all
        simp only [Option.map_some, this]
        have h5 := h3.drop k
        rwa [← List.map_drop] at h5
    · intro hn
      have : a = Option.none := by cases a <;> simp_all
      have := h4 this
      omega

theorem run_slice_from {w : World} {v : Value} {l : List UInt8} (h : IsBytes w v l) (k : Nat) (hk : k ≤ l.length) (t e : TypeId) (ht : P.underlying t = some (.slice e)) (hi : (P.info? e).map (fun i => (i.zero, i.size, i.bytes)) = some (some (.int .u8 0), 1, 1)) :
    ∃ v', (Instr.sliceAt t v (some (.int .i64 (k : Int))) Option.none Option.none).run P w = .ok v' w ∧ ∀ w', IsBytes w' v l → IsBytes w' v' (l.drop k) := by
  obtain ⟨a, c, rfl, h1, h2, h3, h4⟩ := h
  have he : P.elem t = e := by simp [Program.elem, ht]
  have ht' : P.underlying t = some (.slice (P.elem t)) := by rw [he]; exact ht
  obtain ⟨i, hq, _, hs, _⟩ := info_some hi
  refine ⟨_, ?_, fun w' h => h.sliced k hk⟩
  rw [run_sliceAt_slice w t _ _ _ _ ht', run_slice_l w t a l.length c ht' .i64 (k : Int) (by omega) (by omega)]
  simp [sizeOf, typeInfo, he, hq, hs]

theorem wpList_slice_from {w : World} {ops : Array Oper} {rest : List Oper} {o : Oper} {a : Act} {Q : Exit → Act → World → Prop} (hgd : o.guard = Option.none) (t e : TypeId) (x lo : Operand) (ho : o.op = .slice t x (some lo) Option.none Option.none)
    (ht : P.underlying t = some (.slice e)) (hi : (P.info? e).map (fun i => (i.zero, i.size, i.bytes)) = some (some (.int .u8 0), 1, 1)) (v : Value) (l : List UInt8) (hx : a.eval x = v) (k : Nat) (hlo : a.eval lo = .int .i64 (k : Int)) (h : IsBytes w v l) (hk : k ≤ l.length)
    (hK : ∀ v', (∀ w', IsBytes w' v l → IsBytes w' v' (l.drop k)) → wpList P ops Q rest (a.put o.dst v') w) : wpList P ops Q (o :: rest) a w :=
  wpList_plain hgd fun _ hK' => by
    obtain ⟨v', hr, h2⟩ := run_slice_from (P := P) h k hk t e ht hi
    unfold Oper.wp execOp
    simp only [ho, hx, hlo, Option.map_some, Option.map_none, Sem.run_bind, Sem.run_pure, Result.andThen_ok, hr]
    exact hK' _ _ (hK v' h2)
end Go.Proofs.YtgmpmlneoiagdaaGreatDoor
