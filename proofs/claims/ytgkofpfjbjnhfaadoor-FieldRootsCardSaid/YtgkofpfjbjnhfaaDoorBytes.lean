/- Slices of bytes, as lists: what is read of them. No Go function is spoken of here. -/
import Derived.Test.YtgkofpfjbjnhfaaDoorSep
import Derived.Laws.BytesArg
import Derived.Carry
import Derived.Lib.SlBytesConst
namespace Go.Proofs.YtgkofpfjbjnhfaaDoor
open Go.RowKit
set_option linter.unusedVariables false

/-- a byte, in a cell -/
abbrev vb (x : UInt8) : Value := .int .u8 ((x.toNat : Nat) : Int)

/-- from an address on lie these values -/
def Lay (w : World) (a : Option Addr) (l : List Value) : Prop := ∀ i v, l[i]? = some v → ∃ b off, a = some ⟨b, off, Option.none⟩ ∧ w.cell? ⟨b, off + i, Option.none⟩ = some v

theorem Lay.nil (w : World) (a : Option Addr) : Lay w a [] := fun i v h => by simp at h
theorem Lay.below {w w' : World} {a : Option Addr} {l : List Value} (h : Lay w a l) (hb : Below w.heap.size w w') : Lay w' a l := fun i v e => by
  obtain ⟨b, off, ha, hc⟩ := h i v e
  exact ⟨b, off, ha, (hb.cell (p := ⟨b, off + i, Option.none⟩) (World.block_lt_of_cell? w _ hc)).trans hc⟩
theorem Lay.drop {w : World} {b off : Nat} {l : List Value} (h : Lay w (some ⟨b, off, Option.none⟩) l) (k : Nat) : Lay w (some ⟨b, off + k, Option.none⟩) (l.drop k) := fun i v e => by
  rw [List.getElem?_drop] at e
  obtain ⟨b', off', ha, hc⟩ := h (k + i) v e
  cases ha
  exact ⟨b, off + k, rfl, by rw [Nat.add_assoc]; exact hc⟩
theorem Lay.take {w : World} {a : Option Addr} {l : List Value} (h : Lay w a l) (k : Nat) : Lay w a (l.take k) := fun i v e => by
  rw [List.getElem?_take] at e
  split at e
  · exact h i v e
  · cases e
theorem Lay.isAddr {w : World} {a : Option Addr} {l : List Value} (h : Lay w a l) (k : Nat) (hk : k < l.length) : ∃ b off, a = some ⟨b, off, Option.none⟩ := by
  obtain ⟨b, off, e, _⟩ := h k l[k] (by simp [hk])
  exact ⟨b, off, e⟩
theorem Lay.cell {w : World} {b off : Nat} {l : List Value} (h : Lay w (some ⟨b, off, Option.none⟩) l) (k : Nat) {v : Value} (hk : l[k]? = some v) : w.cell? ⟨b, off + k, Option.none⟩ = some v := by
  obtain ⟨b', off', e, hc⟩ := h k v hk
  cases e
  exact hc

abbrev vbs (l : List UInt8) : List Value := l.map vb
theorem vbs_get (l : List UInt8) (k : Nat) (h : k < l.length) : (vbs l)[k]? = some (vb l[k]) := by simp [vbs, h]

/-- a value reads as bytes -/
def IsBytes (w : World) (v : Value) (l : List UInt8) : Prop := ∃ a c, v = .slice a l.length c ∧ l.length ≤ c ∧ c ≤ maxLen ∧ Lay w a (vbs l) ∧ (a = Option.none → c = 0)
theorem IsBytes.below {w w' : World} {v : Value} {l : List UInt8} (h : IsBytes w v l) (hb : Below w.heap.size w w') : IsBytes w' v l := by
  obtain ⟨a, c, h1, h2, h3, h4, h5⟩ := h
  exact ⟨a, c, h1, h2, h3, h4.below hb, h5⟩
theorem IsBytes.nil (w : World) : IsBytes w (.slice Option.none 0 0) [] := ⟨_, _, rfl, Nat.le_refl _, Nat.zero_le _, Lay.nil _ _, fun _ => rfl⟩

/-- a value reads as a list of lists of bytes -/
def IsRows (w : World) (v : Value) (ls : List (List UInt8)) : Prop := ∃ (a : Option Addr) (c : Nat) (vs : List Value), v = .slice a ls.length c ∧ ls.length ≤ c ∧ c ≤ maxLen ∧ Lay w a vs ∧ vs.length = ls.length ∧
  ∀ (i : Nat) (v : Value) (l : List UInt8), vs[i]? = some v → ls[i]? = some l → IsBytes w v l
theorem IsRows.below {w w' : World} {v : Value} {ls : List (List UInt8)} (h : IsRows w v ls) (hb : Below w.heap.size w w') : IsRows w' v ls := by
  obtain ⟨a, c, vs, h1, h2, h3, h4, h5, h6⟩ := h
  exact ⟨a, c, vs, h1, h2, h3, h4.below hb, h5, fun i v l e e' => (h6 i v l e e').below hb⟩

theorem IsRows.nil (w : World) : IsRows w (.slice Option.none 0 0) [] := ⟨_, _, [], rfl, Nat.le_refl _, Nat.zero_le _, Lay.nil _ _, rfl, fun i v l h => by simp at h⟩

/-- the string of bytes -/
abbrev strOf (l : List UInt8) : ByteArray := ⟨l.toArray⟩
theorem strOf_eq {a b : List UInt8} : (strOf a = strOf b) ↔ a = b := by
  constructor
  · intro h
    have : (strOf a).data.toList = (strOf b).data.toList := by rw [h]
    simpa using this
  · intro h; rw [h]
/-- all bits turned -/
theorem xor_ones (n s : Nat) (h : s < 2 ^ n) : (2 ^ n - 1) ^^^ s = 2 ^ n - 1 - s := by
  rw [show 2 ^ n - 1 - s = 2 ^ n - (s + 1) by omega]
  apply Nat.eq_of_testBit_eq
  intro i
  rw [Nat.testBit_xor, Nat.testBit_two_pow_sub_one, Nat.testBit_two_pow_sub_succ h]
  by_cases hi : i < n
  · simp [hi]
  · have : s.testBit i = false := Nat.testBit_lt_two_pow (Nat.lt_of_lt_of_le h (Nat.pow_le_pow_right (by decide) (by omega)))
    simp [hi, this]
theorem not_u32 (s : Nat) (h : s < 4294967296) : bits .xor .u32 IntKind.u32.max (s : Int) = ((4294967295 - s : Nat) : Int) := by
  rw [show IntKind.u32.max = ((4294967295 : Nat) : Int) by decide, u32_xor_nat _ _ (by omega) h]
  rw [show (4294967295 : Nat) = 2 ^ 32 - 1 from rfl, xor_ones 32 s (by omega)]
theorem not_u8 (s : Nat) (h : s < 256) : bits .xor .u8 IntKind.u8.max (s : Int) = ((255 - s : Nat) : Int) := by
  rw [show IntKind.u8.max = ((255 : Nat) : Int) by decide, u8_xor_nat _ _ (by omega) h]
  rw [show (255 : Nat) = 2 ^ 8 - 1 from rfl, xor_ones 8 s (by omega)]
theorem not_u64 (s : Nat) (h : s < 18446744073709551616) : bits .xor .u64 IntKind.u64.max (s : Int) = ((18446744073709551615 - s : Nat) : Int) := by
  rw [show IntKind.u64.max = ((18446744073709551615 : Nat) : Int) by decide, u64_xor_nat _ _ (by omega) h]
  rw [show (18446744073709551615 : Nat) = 2 ^ 64 - 1 from rfl, xor_ones 64 s (by omega)]

theorem ofNat_toNat_int (x : UInt8) : UInt8.ofNat ((x.toNat : Int)).toNat = x := by simp

theorem run_string_of {P : Program} {w : World} {src e : TypeId} {a : Option Addr} {c : Nat} {l : List UInt8} (hs : P.underlying src = some (.slice e)) (he : P.underlying e = some (.int .u8)) (h : Lay w a (vbs l))
    (dst : TypeId) (hd : P.underlying dst = some .string) : (convert src dst (.slice a l.length c)).run P w = .ok (.string (strOf l)) w := by
  cases l with
  | nil =>
    cases a with
    | none => exact run_convert_bytes_nil (P := P) w src e hs he _ _ dst hd
    | some ad =>
      rw [run_convert_bytes_string w src dst e _ _ c hs he hd]
      exact run_bytesToString (P := P) w ad 0 c [] rfl
  | cons x l =>
    obtain ⟨b, off, rfl⟩ := h.isAddr 0 (by simp)
    have hx : ((x :: l).map fun y => ((y.toNat : Nat) : Int)).length = (x :: l).length := by simp
    rw [run_convert_bytes_arg (P := P) w src e hs he b off (x :: l).length c ((x :: l).map fun y => ((y.toNat : Nat) : Int)) hx (fun i hi => by
      rw [Lay.cell h i (vbs_get _ i hi)]
      simp only [List.getD_eq_getElem?_getD, List.getElem?_map, List.getElem?_eq_getElem hi, Option.map_some, Option.getD_some]) dst hd]
    congr 2
    have : (strOfNums ((x :: l).map fun y => ((y.toNat : Nat) : Int))).data.toList = x :: l := by
      rw [strOfNums_data, List.map_map]
      conv => rhs; rw [← List.map_id (x :: l)]
      apply List.map_congr_left
      intro y _
      simp
    cases hh : strOfNums ((x :: l).map fun y => ((y.toNat : Nat) : Int)) with
    | mk d => rw [hh] at this; simp only at this; rw [← this]

/-- a row of bytes that was just made -/
theorem Lay.new (w : World) (l : List Value) (t : TypeId) : Lay (w.alloc (.cells l.toArray t)) (some ⟨w.heap.size, 0, Option.none⟩) l := by
  intro i v hv
  exact ⟨_, _, rfl, by rw [Nat.zero_add, World.cell?_alloc_new]; simpa using hv⟩
theorem IsBytes.new (w : World) (l : List UInt8) (h : l.length ≤ maxLen) (t : TypeId) : IsBytes (w.alloc (.cells (vbs l).toArray t)) (.slice (some ⟨w.heap.size, 0, Option.none⟩) l.length l.length) l :=
  ⟨_, _, rfl, Nat.le_refl _, h, Lay.new w _ t, fun h => (nomatch h)⟩
theorem IsRows.new (w : World) (vs : List Value) (ls : List (List UInt8)) (hl : vs.length = ls.length) (h : ls.length ≤ maxLen) (hin : ∀ (i : Nat) (v : Value) (l : List UInt8), vs[i]? = some v → ls[i]? = some l → IsBytes w v l) (t : TypeId) :
    IsRows (w.alloc (.cells vs.toArray t)) (.slice (some ⟨w.heap.size, 0, Option.none⟩) ls.length ls.length) ls :=
  ⟨_, _, vs, rfl, Nat.le_refl _, h, Lay.new w vs t, hl, fun i v l e e' => (hin i v l e e').below ((Below.refl _ _).alloc (Nat.le_refl _) _)⟩

theorem Lay.newM (w : World) (l : List Value) (t : TypeId) (fr : Nat × Nat) : Lay (w.alloc (.cells l.toArray t fr)) (some ⟨w.heap.size, 0, Option.none⟩) l := by
  intro i v hv
  refine ⟨_, _, rfl, ?_⟩
  rw [Nat.zero_add, cell_of_row _ _ _ _ _ _ (heap_alloc_new w _)]
  simpa using hv
theorem IsBytes.newM (w : World) (l : List UInt8) (h : l.length ≤ maxLen) (t : TypeId) (fr : Nat × Nat) : IsBytes (w.alloc (.cells (vbs l).toArray t fr)) (.slice (some ⟨w.heap.size, 0, Option.none⟩) l.length l.length) l :=
  ⟨_, _, rfl, Nat.le_refl _, h, Lay.newM w _ t fr, fun h => (nomatch h)⟩
theorem IsRows.new2 {w : World} {v1 v2 : Value} {l1 l2 : List UInt8} (h1 : IsBytes w v1 l1) (h2 : IsBytes w v2 l2) (t : TypeId) : IsRows (w.alloc (.cells #[v1, v2] t)) (.slice (some ⟨w.heap.size, 0, Option.none⟩) 2 2) [l1, l2] :=
  IsRows.new w [v1, v2] [l1, l2] rfl (by simp [maxLen]) (fun i v l e e' => by
    match i, e, e' with
    | 0, e, e' => simp at e e'; subst e; subst e'; exact h1
    | 1, e, e' => simp at e e'; subst e; subst e'; exact h2
    | i + 2, e, _ => simp at e) t

theorem run_bytes_const {P : Program} (w : World) (b : Nat) (hb : b = w.heap.size) (t e : TypeId) (C : Array Value) (n c : Nat) (ht : P.underlying t = some (.slice e)) (he : P.underlying e = some (.int .u8)) :
    (convert t t (.slice (some ⟨b, 0, Option.none⟩) n c)).run P (w.alloc (.cells C e)) = .ok (.slice (some ⟨b, 0, Option.none⟩) n c) (w.alloc (.cells C e (C.size, C.size + 1))) := by
  subst hb
  exact Lib.run_convert_bytes_const w t e C n c ht he
theorem IsRows.one {w : World} {v : Value} {l : List UInt8} (h : IsBytes w v l) (t : TypeId) : IsRows (w.alloc (.cells #[v] t)) (.slice (some ⟨w.heap.size, 0, Option.none⟩) 1 1) [l] :=
  IsRows.new w [v] [l] rfl (by simp [maxLen]) (fun i v l e e' => by
    match i, e, e' with
    | 0, e, e' => simp at e e'; subst e; subst e'; exact h
    | i + 1, e, _ => simp at e) t

end Go.Proofs.YtgkofpfjbjnhfaaDoor
