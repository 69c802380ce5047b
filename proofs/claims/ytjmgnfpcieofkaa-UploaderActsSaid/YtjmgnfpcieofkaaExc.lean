/- All but one block; append where there is no room. No Go function is spoken of. -/
import Derived.Test.YtjmgnfpcieofkaaGBase
namespace Go.Proofs.Ytjmgnfpcieofkaa
open Go.RowKit
set_option linter.unusedVariables false
variable {P : Program}

/-- all that lies in a world, but one block -/
def exc (X : World) (g : Nat) : SP := ⟨fun h => ∀ k, k < X.heap.size → k ≠ g → h k = X.heap[k]?⟩
theorem exc_le {X : World} {g : Nat} {o : Obj} {T : SP} (h : (blk g o * T).on X) : (exc X g).le T := by
  obtain ⟨a, b, h1, h2, h3, p, q⟩ := SP.on_mul.1 h
  intro y hy
  refine ⟨b, fun k o' ho => ?_, q⟩
  have hk := h3 k o' ho
  have hne : k ≠ g := by
    rintro rfl
    rcases h1 k with h | h
    · rw [show a k = some o from p] at h; cases h
    · rw [h] at ho; cases ho
  rw [hy k (Array.getElem?_eq_some_iff.1 hk).1 hne]
  exact hk
theorem exc_of {X : World} {g : Nat} {o : Obj} (h : X.heap[g]? = some o) : (blk g o * exc X g).on X :=
  SP.on_mul.2 ⟨fun k => if k = g then some o else Option.none, fun k => if k = g then Option.none else X.heap[k]?, fun k => by
    by_cases hk : k = g <;> simp [hk], fun k o' ho => by
    by_cases hk : k = g
    · subst hk; simp at ho; subst ho; exact h
    · simp [hk] at ho, fun k o' ho => by
    by_cases hk : k = g
    · simp [hk] at ho
    · show X.heap[k]? = some o'; simpa [hk] using ho, by show (if g = g then some o else Option.none) = some o; simp, fun k _ hk => by show (if k = g then Option.none else X.heap[k]?) = _; simp [hk]⟩
theorem exc_on {X W : World} {g k : Nat} (h : (exc X g).on W) (hk : k < X.heap.size) (hne : k ≠ g) : W.heap[k]? = X.heap[k]? := by
  obtain ⟨x, hs, p⟩ := h
  have e : X.heap[k]? = some X.heap[k] := by simp [hk]
  rw [e]
  exact hs k _ ((p k hk hne).trans e)
theorem own_exc {T : SP} {X : World} {e : TypeId} {v : Value} {l : List Value} (hl : 0 < l.length) (h : (own e 1 v l.length l * T).on X) :
    ∃ g cap cur, v = .slice (some ⟨g, 0, Option.none⟩) l.length cap ∧ l.length ≤ cap ∧ X.heap[g]? = some (.cells cur e (0, 0)) ∧ cur.size = cap ∧ (own e 1 v l.length l * exc X g).on X ∧ (exc X g).le T := by
  obtain ⟨hx, hv⟩ := own_cases h
  rcases hv with ⟨_, h0⟩ | ⟨g, cap, cur, rfl, e2, e3, e4, e5, e6⟩
  · omega
  · exact ⟨g, cap, cur, rfl, e2, on_blk_mul e6, by rw [e4, Nat.mul_one], own_of_blk (exc_of (on_blk_mul e6)) hx e2 e3 e4 e5, exc_le e6⟩
theorem run_append_full {F : SP} {w : World} (t ty e : TypeId) (ht : P.underlying t = some (.slice e)) (hi : (P.info? e).map (fun i => (i.zero, i.size, i.bytes)) = some (some (.int .u8 0), 1, 1))
    (g : Nat) (l : List UInt8) (hg : w.heap[g]? = some (.cells (vbs l).toArray e (0, 0))) (hF : F.on w) (vx : Value) (m : List UInt8) (hm : IsBytes w vx m) (h0 : 0 < m.length) (hb : l.length + m.length ≤ 140737488355328) :
    ∃ v' w', (Builtin.append_ #[t, t] ty #[.slice (some ⟨g, 0, Option.none⟩) l.length l.length, vx]).run P w = .ok v' w' ∧ (own e 1 v' (l ++ m).length (vbs (l ++ m)) * F).on w' ∧ Below w.heap.size w w' := by
  obtain ⟨i, hq, hz, hsize, hby⟩ := info_some hi
  obtain ⟨ad, c, rfl, hc1, hc2, hl, hn⟩ := hm
  cases ad with
  | none => have := hn rfl; omega
  | some ad =>
    have hnews' : ∀ j u, (vbs m)[j]? = some u → w.cell? (ad.add j) = some u := by
      intro j u hu
      obtain ⟨b, off, e1, e2⟩ := hl j u hu
      cases e1
      have : (⟨b, off, Option.none⟩ : Addr).add j = ⟨b, off + j, Option.none⟩ := by unfold Addr.add; split <;> simp_all
      rw [this]; exact e2
    have holds : ∀ j u, (vbs l)[j]? = some u → w.cell? ((⟨g, 0, Option.none⟩ : Addr).add j) = some u := by
      intro j u hu
      have : (⟨g, 0, Option.none⟩ : Addr).add j = ⟨g, j, Option.none⟩ := by unfold Addr.add; split <;> simp_all
      rw [this, cell_of_row w g j _ _ _ hg]
      simpa using hu
    have hr := run_append_grow (P := P) w t ty e i (.int .u8 0) ht hq hz ⟨g, 0, Option.none⟩ l.length l.length (vbs l) (by rw [hsize]; simp) holds ad m.length c (vbs m) (by rw [hsize]; simp) hnews' (by omega) (by omega) (growslice_fits (by omega) (by rw [hby]; omega))
    have hge := grownCap_ge w (l.length + m.length) l.length e
    have hle := grownCap_le_maxLen w (l.length + m.length) l.length e (by unfold maxLen; omega)
    refine ⟨_, _, hr, ?_, (Below.refl _ _).drew.alloc (by simp) _⟩
    rw [List.length_append]
    refine own_of_blk (SP.on.alloc (w := w.drew) hF.drew _) (by simp) hge hle ?_ ?_
    · simp only [Array.size_append, List.size_toArray, size_zeroCells, Value.cells]
      simp
      omega
    · simp only [Array.toList_append, Nat.mul_one]
      rw [List.take_append_of_le_length (by simp)]
      rw [List.take_of_length_le (by simp)]
      simp
theorem OpOk.append_bytes9 {P : Program} {o : Oper} {ev : Operand → Value} {W : World} {R : Value → World → Prop} {F : SP} (s x : Operand) (t : TypeId)
    (ho : o.op = .call { callee := .builtin .append, args := #[s, x], argTypes := #[t, t] })
    (e : TypeId) (ht : P.underlying t = some (.slice e)) (hi : (P.info? e).map (fun i => (i.zero, i.size, i.bytes)) = some (some (.int .u8 0), 1, 1))
    (v : Value) (l m : List UInt8) (hs : ev s = v) (hown : (own e 1 v l.length (vbs l) * F).on W) (hm : IsBytes W (ev x) m) (hb : l.length + m.length ≤ 140737488355328)
    (h : ∀ v' w', (own e 1 v' (l ++ m).length (vbs (l ++ m)) * F).on w' → Str W w' → R v' w') : OpOk P o ev W R := by
  obtain ⟨ad, c, hx, _, _, hl, hc⟩ := hm
  obtain ⟨i, hq, hz, hsz, hby⟩ := info_some hi
  obtain ⟨v', w', hr, h2, h3⟩ := run_append_sp (P := P) t o.type e i (.int .u8 0) 1 1 ht hq hz hsz hby rfl (by decide) v l.length (vbs l) hown ad m.length c (vbs m) hc (by simp) hl (vbs_one m) (by unfold maxLen; omega) (by omega)
  unfold OpOk execOp
  simp only [ho, resolve, invoke, builtin, Sem.run_bind, Sem.run_pure, Result.andThen_ok, List.map_toArray, List.map_cons, List.map_nil, hs, hx, hr]
  refine h v' w' ?_ h3
  have e1 : vbs (l ++ m) = vbs l ++ vbs m := by simp
  rw [e1, List.length_append]
  exact h2
end Go.Proofs.Ytjmgnfpcieofkaa
