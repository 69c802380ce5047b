/- The small Go functions of tlv: which item may follow, and a copy of bytes; items in memory. -/
import Derived.Test.YtgkofpfjbjnhfaaDoorRows
import Derived.Test.YtgkofpfjbjnhfaaDoorOwn
import Derived.Handy
namespace Go.Proofs.YtgkofpfjbjnhfaaDoor
open Go.ChangeShapes Go.WideShapes Go.ChangeAt Go.RowKit
set_option linter.unusedVariables false

abbrev ownT (v : Value) (l : List UInt8) : SP := own 5 1 v l.length (vbs l)
theorem infoT : (Tryd.prog.info? 5).map (fun i => (i.zero, i.size, i.bytes)) = some (some (.int .u8 0), 1, 1) := by kernel_rfl

/-- may an item follow? -/
def fitsN (tag last : UInt8) (size before : Nat) : Nat := if tag.toNat ≤ last.toNat then 7 else if 200 < size ∨ 16 ≤ before then 17 else 0
theorem fits_any (tag last : UInt8) (size before : Nat) (w : World) :
    Calls Tryd.prog 104 #[vb tag, vb last, .int .i64 size, .int .i64 before] w fun e w' => e = .returned (.int .i64 (fitsN tag last size before : Int)) ∧ w = w' := by
  by_cases h1 : tag.toNat ≤ last.toNat
  · have HF := hide (show fitsN tag last size before = 7 by unfold fitsN; rw [if_pos h1])
    go_enter Tryd.func104, Tryd.ntmps104
    go_wp2_with fail
    go_ret
    exact ⟨by rw [HF.out]; rfl, rfl⟩
  · have hd : decide (((tag.toNat : Nat) : Int) ≤ ((last.toNat : Nat) : Int)) = false := by simp; omega
    by_cases h2 : 200 < size
    · have HF := hide (show fitsN tag last size before = 17 by unfold fitsN; rw [if_neg h1, if_pos (.inl h2)])
      go_enter Tryd.func104, Tryd.ntmps104
      go_wp2_with fail
      go_ret
      exact ⟨by rw [HF.out]; rfl, rfl⟩
    · by_cases h3 : 16 ≤ before
      · have HF := hide (show fitsN tag last size before = 17 by unfold fitsN; rw [if_neg h1, if_pos (.inr h3)])
        go_enter Tryd.func104, Tryd.ntmps104
        go_wp2_with fail
        go_ret
        exact ⟨by rw [HF.out]; rfl, rfl⟩
      · have HF := hide (show fitsN tag last size before = 0 by unfold fitsN; rw [if_neg h1, if_neg (by omega)])
        go_enter Tryd.func104, Tryd.ntmps104
        go_wp2_with fail
        go_ret
        exact ⟨by rw [HF.out]; rfl, rfl⟩

set_option maxRecDepth 100000 in
theorem copied_any (v : Value) (l : List UInt8) (w : World) (h : IsBytes w v l) (hlen : l.length ≤ 140737488351232) :
    Calls Tryd.prog 105 #[v] w (Makes w fun v => ownT v l) := by
  have hu := Tryd.underlying63
  have H := hide h
  obtain ⟨a, c, rfl, _, _, _, _⟩ := h
  go_enter Tryd.func105, Tryd.ntmps105
  go_wp2_with (at_builtin; refine wpList_append_bytes (F := all w) rfl _ _ 63 rfl 5 hu infoT _ [] l rfl (own_nil _ _ (on_all w)) _ rfl H.out (by simp; omega) ?_; intro v2 w2 ho2 hs2)
  go_wp2_with fail
  go_ret
  exact ⟨_, rfl, ho2, hs2⟩

structure TItem where
  tag : UInt8
  value : List UInt8
/-- the items' cells, and their values' bytes -/
def itCells (L : List (Value × TItem)) : List Value := L.flatMap fun y => [vb y.2.tag, y.1]
def itStars : List (Value × TItem) → SP
  | [] => emp
  | y :: t => ownT y.1 y.2.value * itStars t
theorem itStars_snoc (L : List (Value × TItem)) (y : Value × TItem) : itStars (L ++ [y]) = itStars L * ownT y.1 y.2.value := by
  induction L with
  | nil => exact SP.mul_comm _ _
  | cons z t ih => show _ * itStars (t ++ [y]) = _; rw [ih, ← SP.mul_assoc]; rfl
theorem itStars_get {F : SP} {w : World} : ∀ (L : List (Value × TItem)) (i : Nat) (v : Value) (e : TItem), (itStars L * F).on w → L[i]? = some (v, e) → IsBytes w v e.value
  | [], i, v, e, _, h => by simp at h
  | y :: t, 0, v, e, h, hi => by
    simp only [List.getElem?_cons_zero, Option.some.injEq] at hi
    subst hi
    have h2 : ((ownT v e.value * itStars t) * F).on w := h
    rw [SP.mul_assoc] at h2
    exact own_bytes h2
  | y :: t, i + 1, v, e, h, hi => by
    have h2 : ((ownT y.1 y.2.value * itStars t) * F).on w := h
    rw [SP.mul_assoc] at h2
    exact itStars_get t i v e h2.right (by simpa using hi)
theorem itCells_snoc (L : List (Value × TItem)) (y : Value × TItem) : itCells (L ++ [y]) = itCells L ++ [vb y.2.tag, y.1] := by simp [itCells]
theorem itCells_get : ∀ (L : List (Value × TItem)) (i : Nat) (v : Value) (e : TItem), L[i]? = some (v, e) → (itCells L)[i * 2]? = some (vb e.tag) ∧ (itCells L)[i * 2 + 1]? = some v
  | [], i, v, e, h => by simp at h
  | y :: t, 0, v, e, hi => by
    simp only [List.getElem?_cons_zero, Option.some.injEq] at hi
    subst hi
    exact ⟨rfl, rfl⟩
  | y :: t, i + 1, v, e, hi => by
    have := itCells_get t i v e (by simpa using hi)
    rw [show (i + 1) * 2 = i * 2 + 2 by omega, show i * 2 + 2 + 1 = (i * 2 + 1) + 2 by omega]
    exact this
/-- items in memory, of an item's type ty -/
def Its (ty : TypeId) (v : Value) (L : List (Value × TItem)) : SP := own ty 2 v L.length (itCells L) * itStars L
theorem Its.nil {ty : TypeId} {F : SP} {w : World} (h : F.on w) : (Its ty (.slice Option.none 0 0) [] * F).on w := by
  show ((own ty 2 (.slice Option.none 0 0) 0 [] * emp) * F).on w
  rw [SP.mul_assoc]
  exact own_nil _ 2 (on_emp_mul.2 h)
theorem Its.push {ty : TypeId} {v2 x : Value} {L : List (Value × TItem)} {it : TItem} {F : SP} {w : World} (h : (own ty 2 v2 (L.length + 1) (itCells L ++ [vb it.tag, x]) * (itStars L * (ownT x it.value * F))).on w) :
    (Its ty v2 (L ++ [(x, it)]) * F).on w := by
  unfold Its
  rw [itCells_snoc, itStars_snoc, List.length_append, SP.mul_assoc, SP.mul_assoc]
  exact h

/-- the items of bytes: behind so many items, the last of which has the tag last -/
def parseF : Nat → List UInt8 → UInt8 → List TItem → List TItem × Nat
  | _, [], _, acc => (acc, 0)
  | _, [_], _, _ => ([], 18)
  | 0, _ :: _ :: _, _, _ => ([], 18)
  | f + 1, tag :: sz :: rest, last, acc => if fitsN tag last sz.toNat acc.length ≠ 0 then ([], fitsN tag last sz.toNat acc.length)
    else if rest.length < sz.toNat then ([], 18) else parseF f (rest.drop sz.toNat) tag (acc ++ [⟨tag, rest.take sz.toNat⟩])
end Go.Proofs.YtgkofpfjbjnhfaaDoor
