/- Rows of events that are made empty and then written, one by one. -/
import Derived.Test.YtdbnjejpejmmjaaDeslipSame
import Derived.Deep.OwnRows
namespace Go.Proofs.Ytdbnjejpejmmjaa
open Go.ChangeShapes Go.WideShapes Go.ChangeAt Go.RowKit
set_option linter.unusedVariables false

def zeros (n : Nat) : List (Value × Ev) := List.replicate n (.slice Option.none 0 0, zev)
def zcell : Array Value := #[.int .i64 0, .slice Option.none 0 0, .int .i64 0]
theorem zeros_cell : ∀ n j, j < n * 3 → (evCells (zeros n))[j]? = some (zcell[j % 3]!) := by
  intro n
  induction n with
  | zero => intro j h; omega
  | succ n ih =>
    intro j h
    have e : evCells (zeros (n + 1)) = [.int .i64 0, .slice Option.none 0 0, .int .i64 0] ++ evCells (zeros n) := rfl
    rw [e]
    by_cases hj : j < 3
    · rw [List.getElem?_append_left (by simpa using hj)]
      rcases (show j = 0 ∨ j = 1 ∨ j = 2 by omega) with rfl | rfl | rfl <;> rfl
    · rw [List.getElem?_append_right (by simp; omega)]
      have := ih (j - 3) (by omega)
      rw [show (j - 3) % 3 = j % 3 by omega] at this
      exact this
theorem zeros_made (n : Nat) : madeCells zcell (n * 3) = (evCells (zeros n)).toArray := by
  apply Array.ext
  · rw [size_madeCells, List.size_toArray, evCells_length]; simp [zeros]
  · intro j h1 h2
    rw [size_madeCells] at h1
    have := zeros_cell n j h1
    rw [List.getElem?_eq_getElem (by simpa using h2)] at this
    simp only [Option.some.injEq] at this
    show _ = (evCells (zeros n))[j]
    rw [this]
    simp only [madeCells, Array.getElem_map, Array.getElem_range]
    rfl
theorem stars_zeros {F : SP} {w : World} (h : F.on w) : ∀ n, (stars (zeros n) * F).on w
  | 0 => on_emp_mul.2 h
  | n + 1 => by
    show ((ownD (.slice Option.none 0 0) [] * stars (zeros n)) * F).on w
    rw [SP.mul_assoc]
    exact ownD_nil (stars_zeros h n)
theorem Evs.make (w : World) (n : Nat) (hn : n ≤ 1000000) : (Evs (.slice (some ⟨w.heap.size, 0, Option.none⟩) n n) (zeros n) * all w).on (w.alloc (.cells (madeCells zcell (n * 3)) 59)) := by
  unfold Evs
  rw [zeros_made, SP.mul_assoc]
  have e : (zeros n).length = n := by simp [zeros]
  rw [e]
  exact own_new 59 3 n (evCells (zeros n)) (stars_zeros (on_all w) n) (by rw [evCells_length, e]) (by unfold maxLen; omega)

theorem own_storeS {F : SP} {w : World} {e : TypeId} {size g n cap j : Nat} {xs : List Value} (h : (own e size (.slice (some ⟨g, 0, Option.none⟩) n cap) n xs * F).on w) (hj : j < n * size) (u : Value) :
    (own e size (.slice (some ⟨g, 0, Option.none⟩) n cap) n (xs.set j u) * F).on (w.setCell ⟨g, j, Option.none⟩ u) := by
  obtain ⟨hx, hv⟩ := own_cases h
  rcases hv with ⟨hv, _⟩ | ⟨g', cap', cur, hv, e2, e3, e4, e5, e6⟩
  · cases hv
  · simp only [Value.slice.injEq, Option.some.injEq, Addr.mk.injEq] at hv
    obtain ⟨⟨rfl, _⟩, _, rfl⟩ := hv
    have h2 := e6.setCell (i := j) u
    refine own_of_blk h2 (by simpa using hx) e2 e3 (by simpa using e4) ?_
    rw [← e5]
    simp [List.take_set]
theorem evCells_set : ∀ (L : List (Value × Ev)) (i : Nat) (x : Value) (ev : Ev), i < L.length → evCells (L.set i (x, ev)) = (((evCells L).set (i * 3) (.int .i64 (ev.kind : Int))).set (i * 3 + 1) x).set (i * 3 + 2) (.int .i64 (ev.err : Int))
  | [], i, x, ev, h => by simp at h
  | y :: t, 0, x, ev, h => rfl
  | y :: t, i + 1, x, ev, h => by
    have := evCells_set t i x ev (by simpa using h)
    rw [List.set_cons_succ]
    show [_, _, _] ++ evCells (t.set i (x, ev)) = (((([_, _, _] : List Value) ++ evCells t).set ((i + 1) * 3) _).set ((i + 1) * 3 + 1) _).set ((i + 1) * 3 + 2) _
    rw [this, show (i + 1) * 3 = i * 3 + 3 by omega, show i * 3 + 3 + 1 = (i * 3 + 1) + 3 by omega, show i * 3 + 3 + 2 = (i * 3 + 2) + 3 by omega]
    rfl
theorem stars_set {F : SP} {w : World} (x : Value) (ev : Ev) : ∀ (L : List (Value × Ev)) (i : Nat), i < L.length → ∀ {G : SP}, (stars L * (ownD x ev.frame * G)).on w → (stars (L.set i (x, ev)) * G).on w
  | [], i, h, G, _ => by simp at h
  | y :: t, 0, h, G, k => by
    have k2 : ((ownD y.1 y.2.frame * stars t) * (ownD x ev.frame * G)).on w := k
    rw [SP.mul_assoc] at k2
    have k3 := k2.right
    rw [SP.mul_left_comm] at k3
    show ((ownD x ev.frame * stars t) * G).on w
    rw [SP.mul_assoc]
    exact k3
  | y :: t, i + 1, h, G, k => by
    have k2 : ((ownD y.1 y.2.frame * stars t) * (ownD x ev.frame * G)).on w := k
    have e : ((ownD y.1 y.2.frame * stars t) * (ownD x ev.frame * G)) = (stars t * (ownD x ev.frame * (ownD y.1 y.2.frame * G))) := by ac_rfl
    rw [e] at k2
    have k3 := stars_set (F := F) x ev t i (by simpa using h) k2
    show ((ownD y.1 y.2.frame * stars (t.set i (x, ev))) * G).on w
    rw [SP.mul_assoc, SP.mul_left_comm]
    exact k3
/-- an event is written -/
theorem Evs.set {g cap : Nat} {L : List (Value × Ev)} {i : Nat} {x : Value} {ev : Ev} {G : SP} {w : World} (hi : i < L.length) (h : (Evs (.slice (some ⟨g, 0, Option.none⟩) L.length cap) L * (ownD x ev.frame * G)).on w) :
    (Evs (.slice (some ⟨g, 0, Option.none⟩) L.length cap) (L.set i (x, ev)) * G).on (((w.setCell ⟨g, i * 3, Option.none⟩ (.int .i64 (ev.kind : Int))).setCell ⟨g, i * 3 + 1, Option.none⟩ x).setCell ⟨g, i * 3 + 2, Option.none⟩ (.int .i64 (ev.err : Int))) := by
  unfold Evs at h ⊢
  rw [SP.mul_assoc] at h ⊢
  rw [List.length_set, evCells_set L i x ev hi]
  have h1 := own_storeS h (j := i * 3) (by omega) (.int .i64 (ev.kind : Int))
  have h2 := own_storeS h1 (j := i * 3 + 1) (by omega) x
  have h3 := own_storeS h2 (j := i * 3 + 2) (by omega) (.int .i64 (ev.err : Int))
  generalize (((evCells L).set (i * 3) (.int .i64 (ev.kind : Int))).set (i * 3 + 1) x).set (i * 3 + 2) (.int .i64 (ev.err : Int)) = cs at *
  rw [SP.mul_left_comm (own 59 3 _ _ cs), SP.mul_left_comm (own 59 3 _ _ cs)] at h3
  rw [SP.mul_left_comm]
  exact stars_set (F := emp) x ev L i hi h3
end Go.Proofs.Ytdbnjejpejmmjaa
