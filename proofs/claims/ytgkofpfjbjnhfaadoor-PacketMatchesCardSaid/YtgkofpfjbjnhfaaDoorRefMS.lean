/- SHA-2 on words of 32 bits: small laws for the document's rounds. -/
import Derived.Test.YtgkofpfjbjnhfaaDoorRef3S
namespace Go.Proofs.YtgkofpfjbjnhfaaDoor
open Go.ChangeShapes Go.WideShapes Go.ChangeAt Go.RowKit
namespace Sha32
set_option linter.unusedVariables false
set_option linter.unusedSimpArgs false

theorem andw (x y : UInt32) : bits .and .u64 ((x.toNat : Nat) : Int) ((y.toNat : Nat) : Int) = (((x &&& y).toNat : Nat) : Int) := by
  have h1 := UInt32.toNat_lt x
  have h2 := UInt32.toNat_lt y
  rw [u64_and_nat _ _ (by omega) (by omega), UInt32.toNat_and]
theorem orw (x y : UInt32) : bits .or .u64 ((x.toNat : Nat) : Int) ((y.toNat : Nat) : Int) = (((x ||| y).toNat : Nat) : Int) := by
  have h1 := UInt32.toNat_lt x
  have h2 := UInt32.toNat_lt y
  rw [u64_or_nat _ _ (by omega) (by omega), UInt32.toNat_or]
theorem notw (x : UInt32) : bits .xor .u64 IntKind.u64.max ((x.toNat : Nat) : Int) = ((18446744073709551615 - x.toNat : Nat) : Int) := by
  have h1 := UInt32.toNat_lt x
  rw [not_u64 _ (by omega)]
theorem not_cut (x : UInt32) : (18446744073709551615 - x.toNat) % 4294967296 = (~~~x).toNat := by
  have h1 := UInt32.toNat_lt x
  rw [UInt32.toNat_not]
  simp only [UInt32.size] at h1 ⊢
  omega
theorem ch_eq (x y z : UInt32) : (x &&& y) ^^^ (~~~x &&& z) = (x &&& y) ||| (~~~x &&& z) := by
  apply UInt32.toBitVec_inj.1
  apply BitVec.eq_of_getLsbD_eq
  intro i hi
  simp only [UInt32.toBitVec_xor, UInt32.toBitVec_and, UInt32.toBitVec_or, UInt32.toBitVec_not, BitVec.getLsbD_xor, BitVec.getLsbD_and, BitVec.getLsbD_or, BitVec.getLsbD_not]
  generalize x.toBitVec.getLsbD i = p
  generalize y.toBitVec.getLsbD i = q
  generalize z.toBitVec.getLsbD i = r
  generalize decide (i < 32) = d
  cases p <;> cases q <;> cases r <;> cases d <;> rfl
theorem maj_eq (x y z : UInt32) : ((x &&& y) ^^^ (x &&& z)) ^^^ (y &&& z) = ((x &&& y) ||| (x &&& z)) ||| (y &&& z) := by
  apply UInt32.toBitVec_inj.1
  apply BitVec.eq_of_getLsbD_eq
  intro i hi
  simp only [UInt32.toBitVec_xor, UInt32.toBitVec_and, UInt32.toBitVec_or, BitVec.getLsbD_xor, BitVec.getLsbD_and, BitVec.getLsbD_or]
  generalize x.toBitVec.getLsbD i = p
  generalize y.toBitVec.getLsbD i = q
  generalize z.toBitVec.getLsbD i = r
  cases p <;> cases q <;> cases r <;> rfl
def chW (s : St) : UInt32 := (s.e &&& s.f) ||| (~~~s.e &&& s.g)
def maW (s : St) : UInt32 := ((s.a &&& s.b) ||| (s.a &&& s.c)) ||| (s.b &&& s.c)
abbrev m64 (n : Nat) : Nat := n % 18446744073709551616
theorem p_nat (s : St) (k w : UInt32) : (pOf s k w).toNat = m64 (m64 (m64 (m64 (s.h.toNat + (big1 s.e).toNat) + (chW s).toNat) + k.toNat) + w.toNat) % 4294967296 := by
  unfold pOf chW m64
  rw [ch_eq]
  simp only [UInt32.toNat_add]
  omega
theorem pq_nat (s : St) (k w : UInt32) : (pOf s k w + qOf s).toNat = m64 (m64 (m64 (m64 (m64 (s.h.toNat + (big1 s.e).toNat) + (chW s).toNat) + k.toNat) + w.toNat) + m64 ((big0 s.a).toNat + (maW s).toNat)) % 4294967296 := by
  rw [UInt32.toNat_add, p_nat]
  unfold qOf maW m64
  rw [maj_eq]
  simp only [UInt32.toNat_add]
  omega
theorem dp_nat (s : St) (k w : UInt32) : (s.d + pOf s k w).toNat = m64 (s.d.toNat + m64 (m64 (m64 (m64 (s.h.toNat + (big1 s.e).toNat) + (chW s).toNat) + k.toNat) + w.toNat)) % 4294967296 := by
  rw [UInt32.toNat_add, p_nat]
  unfold m64
  omega
/-- a state, as eight values -/
def stN (s : St) : List Value := [w64 s.a, w64 s.b, w64 s.c, w64 s.d, w64 s.e, w64 s.f, w64 s.g, w64 s.h]
theorem stN_list (s : St) : stN s = (s.list.map (·.toNat)).map nv := rfl
/-- what is read in a round: the form, the state, a word of the schedule, a constant -/
def RQ (g gs gw gk j : Nat) (s : St) (xw : UInt32) (kj : Nat) (Y : World) : Prop :=
  Y.heap[g]? = some (.cells fc 112 (0, 0)) ∧ (∀ t x, (stN s)[t]? = some x → Y.cell? ⟨gs, t, Option.none⟩ = some x) ∧ Y.cell? ⟨gw, j, Option.none⟩ = some (w64 xw) ∧ Y.cell? ⟨gk, j, Option.none⟩ = some (nv kj)
theorem fc_big0 {X : World} {g : Nat} (h : X.heap[g]? = some (.cells fc 112 (0, 0))) : ∀ j v, (tc 2 13 22)[j]? = some v → X.cell? ⟨g, 2 + j, Option.none⟩ = some v := by
  intro j v hj
  rw [cell_of_row _ _ _ _ _ _ h]
  match j, hj with
  | 0, hj => exact hj
  | 1, hj => exact hj
  | 2, hj => exact hj
  | n + 3, hj => simp [tc] at hj
theorem fc_big1 {X : World} {g : Nat} (h : X.heap[g]? = some (.cells fc 112 (0, 0))) : ∀ j v, (tc 6 11 25)[j]? = some v → X.cell? ⟨g, 5 + j, Option.none⟩ = some v := by
  intro j v hj
  rw [cell_of_row _ _ _ _ _ _ h]
  match j, hj with
  | 0, hj => exact hj
  | 1, hj => exact hj
  | 2, hj => exact hj
  | n + 3, hj => simp [tc] at hj
theorem wrap_m64 (a b : Nat) : IntKind.u64.wrap ((a : Int) + (b : Int)) = ((m64 (a + b) : Nat) : Int) := by
  rw [IntKind.wrap_u64]
  unfold m64
  omega
theorem m64_lt (n : Nat) : m64 n < 18446744073709551616 := by unfold m64; omega
/-- the first so many of one list, and the others of another -/
theorem mix_step {α : Type} (A S : List α) (hl : A.length = S.length) (j : Nat) (x : α) (hx : A[j]? = some x) : (A.take j ++ S.drop j).set j x = A.take (j + 1) ++ S.drop (j + 1) := by
  have hj : j < A.length := (List.getElem?_eq_some_iff.1 hx).1
  apply List.ext_getElem?
  intro i
  rw [List.getElem?_set, List.getElem?_append, List.getElem?_append]
  have h1 : (A.take j).length = j := by rw [List.length_take]; omega
  have h2 : (A.take (j + 1)).length = j + 1 := by rw [List.length_take]; omega
  rw [h1, h2]
  by_cases e : j = i
  · subst e
    rw [if_pos rfl, if_pos (by simp; omega), if_pos (by omega), List.getElem?_take, if_pos (by omega), hx]
  · rw [if_neg e]
    by_cases e2 : i < j
    · rw [if_pos e2, if_pos (by omega), List.getElem?_take, List.getElem?_take, if_pos e2, if_pos (by omega)]
    · rw [if_neg e2, if_neg (by omega), List.getElem?_drop, List.getElem?_drop]
      congr 1
      omega
theorem mix_get {α : Type} (A S : List α) (hl : A.length = S.length) (j : Nat) (hj : j < A.length) : (A.take j ++ S.drop j)[j]? = S[j]? := by
  have h1 : (A.take j).length = j := by rw [List.length_take]; omega
  rw [List.getElem?_append, h1, if_neg (by omega), List.getElem?_drop]
  congr 1
  omega
theorem shr_out (x q : Nat) (hq : q < 4) : Op.shift .shr .u64 (x : Int) .i64 (8 * ((4 - 1 : Int) - (q : Int))) = (Pure.pure (.int .u64 ((x : Int) / 2 ^ (24 - 8 * q))) : Sem Value) := by
  have e : 8 * ((4 - 1 : Int) - (q : Int)) = 24 - 8 * (q : Int) := by omega
  rw [e, shift_shr_any _ _ _ _ (by omega)]
  congr 2
  have e : (24 - 8 * (q : Int)).toNat = 24 - 8 * q := by omega
  rw [e]
  have hb : IntKind.u64.bits = 64 := rfl
  rw [hb, Nat.min_eq_left (by omega)]
/-- the bytes of the first so many words of a state -/
def outN (s : St) (i : Nat) : List UInt8 := (s.list.take i).flatMap (fun x => outW x 4)
theorem outN_step (s : St) (i : Nat) (x : UInt32) (hx : s.list[i]? = some x) : outN s (i + 1) = outN s i ++ outW x 4 := by
  unfold outN
  rw [List.take_add_one, hx, List.flatMap_append]
  simp
theorem outN_all (s : St) : outN s 8 = outS s := by
  simp [outN, outS, St.list, List.flatMap]
theorem outN_len (s : St) : ∀ i, i ≤ 8 → (outN s i).length = 4 * i
  | 0, _ => rfl
  | i + 1, h => by
    have hx : s.list[i]? = some (s.list.getD i 0) := by
      rw [List.getD_eq_getElem?_getD, List.getElem?_eq_getElem (show i < s.list.length by simp [St.list]; omega)]; rfl
    rw [outN_step s i _ hx, List.length_append, outN_len s i (by omega), outW_len]
    omega
end Sha32
end Go.Proofs.YtgkofpfjbjnhfaaDoor
