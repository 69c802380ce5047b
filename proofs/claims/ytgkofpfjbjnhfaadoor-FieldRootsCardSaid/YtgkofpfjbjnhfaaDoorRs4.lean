/- the document's scalar: numbers as bytes; bytes as bits. -/
import Derived.Test.YtgkofpfjbjnhfaaDoorRs3
namespace Go.Proofs.YtgkofpfjbjnhfaaDoor
open Go.ChangeShapes Go.WideShapes Go.ChangeAt Go.RowKit
set_option linter.unusedVariables false
set_option linter.unusedSimpArgs false

abbrev iv (x : Nat) : Value := .int .i64 (x : Int)
abbrev ownI (v : Value) (l : List Nat) : SP := own 3 1 v l.length (l.map iv)
theorem infoInt : (Tryd.prog.info? 3).map (fun i => (i.zero, i.size, i.bytes)) = some (some (.int .i64 0), 1, 8) := by kernel_rfl
theorem iv_one (l : List Nat) : ∀ u ∈ l.map iv, u.oneCell' = true := by
  intro u hu
  obtain ⟨_, _, rfl⟩ := List.mem_map.1 hu
  rfl
theorem wpList_append_ints {F : SP} {w : World} {ops : Array Oper} {rest : List Oper} {o : Oper} {a : Act} {Q : Exit → Act → World → Prop} (hgd : o.guard = Option.none) (s x : Operand) (t : TypeId)
    (ho : o.op = .call { callee := .builtin .append, args := #[s, x], argTypes := #[t, t] }) (ht : Tryd.prog.underlying t = some (.slice 3))
    (v : Value) (l m : List Nat) (hs : a.eval s = v) (hown : (ownI v l * F).on w)
    (ad : Option Addr) (c : Nat) (hx : a.eval x = .slice ad m.length c) (hac : ad = Option.none → c = 0) (hl : Lay w ad (m.map iv)) (hb : l.length + m.length ≤ 10000000)
    (h : ∀ v' w', (ownI v' (l ++ m) * F).on w' → Str w w' → wpList Tryd.prog ops Q rest (a.put o.dst v') w') : wpList Tryd.prog ops Q (o :: rest) a w := by
  obtain ⟨i, hq, hz, hsz, hby⟩ := info_some infoInt
  refine wpList_append_sp hgd s x t ho 3 i (.int .i64 0) 1 8 ht hq hz hsz hby rfl (by decide) v l.length (l.map iv) hs hown ad m.length c (m.map iv) hx hac (by simp) hl (iv_one m) (by unfold maxLen; omega) (by omega) ?_
  intro v' w' h2 h3
  refine h v' w' ?_ h3
  show (own 3 1 v' (l ++ m).length ((l ++ m).map iv) * F).on w'
  rw [List.map_append, List.length_append]
  exact h2

/-- the bit of bytes with this number -/
def bitAt (l : List UInt8) (i : Nat) : Nat := (l.getD (i / 8) 0).toNat / 2 ^ (i % 8) % 2
def bitsL (l : List UInt8) (n : Nat) : List Nat := (List.range n).map (bitAt l)
theorem bitsL_len (l : List UInt8) (n : Nat) : (bitsL l n).length = n := by simp [bitsL]
theorem bitsL_succ (l : List UInt8) (n : Nat) : bitsL l (n + 1) = bitsL l n ++ [bitAt l n] := by
  unfold bitsL; rw [List.range_succ, List.map_append]; rfl
theorem bitsL_get (l : List UInt8) (n k : Nat) (h : k < n) : (bitsL l n)[k]? = some (bitAt l k) := by simp [bitsL, h]
theorem bitAt_le (l : List UInt8) (k : Nat) : bitAt l k ≤ 1 := by
  unfold bitAt; have := Nat.mod_lt ((l.getD (k / 8) 0).toNat / 2 ^ (k % 8)) (show 0 < 2 by decide); omega
theorem leN_at (l : List UInt8) (q : Nat) (h : q < l.length) : leN l / 256 ^ q % 256 = (l.getD q 0).toNat := by
  induction q generalizing l with
  | zero =>
    cases l with
    | nil => simp at h
    | cons x l =>
      have := UInt8.toNat_lt x
      simp only [leN, Nat.pow_zero, Nat.div_one, List.getD_cons_zero]
      omega
  | succ q ih =>
    cases l with
    | nil => simp at h
    | cons x l =>
      have hx := UInt8.toNat_lt x
      have := ih l (by simpa using h)
      simp only [List.getD_cons_succ]
      rw [← this, Nat.pow_succ, Nat.mul_comm, ← Nat.div_div_eq_div_mul]
      congr 2
      simp only [leN]
      omega
theorem bit_of (V k : Nat) : V / 2 ^ k % 2 = V / 256 ^ (k / 8) % 256 / 2 ^ (k % 8) % 2 := by
  have h8 : k % 8 < 8 := Nat.mod_lt _ (by decide)
  have e : (2 : Nat) ^ k = 256 ^ (k / 8) * 2 ^ (k % 8) := by
    rw [show (256 : Nat) = 2 ^ 8 from rfl, ← Nat.pow_mul, ← Nat.pow_add, Nat.div_add_mod]
  rw [e, ← Nat.div_div_eq_div_mul]
  generalize V / 256 ^ (k / 8) = n
  generalize k % 8 = r at *
  match r, h8 with
  | 0, _ => simp only [Nat.reducePow]; omega
  | 1, _ => simp only [Nat.reducePow]; omega
  | 2, _ => simp only [Nat.reducePow]; omega
  | 3, _ => simp only [Nat.reducePow]; omega
  | 4, _ => simp only [Nat.reducePow]; omega
  | 5, _ => simp only [Nat.reducePow]; omega
  | 6, _ => simp only [Nat.reducePow]; omega
  | 7, _ => simp only [Nat.reducePow]; omega
theorem leN_bit (l : List UInt8) (k : Nat) (h : k < 8 * l.length) : leN l / 2 ^ k % 2 = bitAt l k := by
  rw [bit_of, leN_at l (k / 8) (by omega)]; rfl

set_option maxRecDepth 100000 in
set_option maxHeartbeats 4000000 in
theorem rbits_any (v : Value) (l : List UInt8) (w : World) (h : IsBytes w v l) (hl : l.length ≤ 100000) :
    Calls Tryd.prog 74 #[v] w (Makes w fun v => ownI v (bitsL l (8 * l.length))) := by
  obtain ⟨a, c, rfl, hc1, hc2, hlay, hnone⟩ := h
  have hu8 := Tryd.underlying5
  have hui := Tryd.underlying3
  have hus := Tryd.underlying63
  have hut := Tryd.underlying103
  have Hl := hide hlay
  have H0 := hide (own_nil 3 1 (on_all w))
  have Hb : Hid (IsBytes w (.slice a l.length c) l) := hide ⟨a, c, rfl, hc1, hc2, hlay, hnone⟩
  clear hlay hnone
  go_enter Tryd.func74, Tryd.ntmps74
  go_wp2
  go_loopw [3, 4] (fun v i wr => ∃ k : Nat, k ≤ 8 * l.length ∧ i = .int .i64 k ∧ (ownI v (bitsL l k) * all w).on wr ∧ Str w wr) (fun _ i _ => 8 * l.length - (intOf i).toNat)
  case atStart => exact ⟨0, by omega, rfl, H0.out, Str.refl _⟩
  case round =>
    obtain ⟨k, hk, rfl, how, hstr⟩ := hrel
    have How := hide how
    have Hstr := hide hstr
    have hB : Below w.heap.size w wr := all_below how.right hstr
    clear how hstr
    have s8 : IntKind.i64.wrap (8 * ((l.length : Nat) : Int)) = ((8 * l.length : Nat) : Int) := by rw [IntWalk.i64_in _ (by omega)]; omega
    by_cases hlt : k < 8 * l.length
    · have hq : k / 8 < l.length := by omega
      obtain ⟨b, off, rfl⟩ := Lay.isAddr Hl.out (k / 8) (by simpa using hq)
      have hc0 := Lay.cell (Hl.out.below hB) (k / 8) (vbs_get l (k / 8) hq)
      have HS := hide (bitsL_succ l k)
      have hln : (bitsL l k).length ≤ 800000 := by rw [bitsL_len]; omega
      have hbit : (l[k / 8].toNat : Int) / 2 ^ (k % 8) = ((l[k / 8].toNat / 2 ^ (k % 8) : Nat) : Int) := by rw [Int.natCast_ediv, Int.natCast_pow]; rfl
      have hbv : ((l[k / 8].toNat / 2 ^ (k % 8) : Nat) : Int) % 2 = ((bitAt l k : Nat) : Int) := by
        unfold bitAt
        rw [show l.getD (k / 8) 0 = l[k / 8] by simp [List.getD, hq]]
        omega
      have c1 : IntKind.i64.wrap ((k : Int) / 8) = ((k / 8 : Nat) : Int) := by rw [IntWalk.i64_in _ (by omega)]; omega
      have c2 : ((k : Int)).tmod 8 = ((k % 8 : Nat) : Int) := by rw [Int.tmod_eq_emod_of_nonneg (by omega)]; omega
      have hble := bitAt_le l k
      have hbl : ((bitAt l k : Nat) : Int) ≤ 1 := by omega
      have c3 : IntKind.i64.wrap ((bitAt l k : Nat) : Int) = ((bitAt l k : Nat) : Int) := by rw [IntWalk.i64_in _ (by omega)]
      have C4 : Hid (wrap64 (((l[k / 8].toNat : Nat) : Int) / 2 ^ (k % 8) |>.tmod 2) = ((bitAt l k : Nat) : Int)) := hide (by
        rw [hbit, Int.tmod_eq_emod_of_nonneg (Int.natCast_nonneg _), hbv]
        exact IntWalk.wrap64_in _ (by omega))
      have hkl : (k : Int) < ((8 * l.length : Nat) : Int) := by omega
      have hql : ((k / 8 : Nat) : Int) < (l.length : Int) := by omega
      clear hbit hbv hB
      generalize l[k / 8] = x at *
      go_wp2_with (at_builtin; rw [C4.out]; refine wpList_append_ints (F := all w) rfl _ _ 103 rfl hut _ (bitsL l k) [bitAt l k] rfl (How.out.alloc' _) (some ⟨wr.heap.size, 0, Option.none⟩) 1 rfl (fun h => nomatch h) (Lay.new wr [iv (bitAt l k)] 3) (by simp only [List.length_cons, List.length_nil]; omega) ?_; intro v2 w2 ho2 hs2)
      go_roundw
      case rel => exact ⟨k + 1, by omega, by go_num, by rw [HS.out]; exact ho2, (Hstr.out.alloc _).trans hs2⟩
      case measure => simp [intOf]; omega
    · obtain rfl : k = 8 * l.length := by omega
      go_wp2_with fail
      go_ret
      exact ⟨_, rfl, How.out, Hstr.out⟩
end Go.Proofs.YtgkofpfjbjnhfaaDoor
