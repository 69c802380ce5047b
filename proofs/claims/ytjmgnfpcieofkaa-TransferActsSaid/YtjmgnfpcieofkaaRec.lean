/- The Go functions of record: numbers that are put and read, the check sum, and equal bytes. -/
import Derived.Test.YtjmgnfpcieofkaaCrc2
import Derived.Test.YtjmgnfpcieofkaaRecMath
import Derived.Test.YtjmgnfpcieofkaaGBase
namespace Go.Proofs.Ytjmgnfpcieofkaa
open Go.ChangeShapes Go.WideShapes Go.ChangeAt Go.RowKit
set_option linter.unusedVariables false

abbrev ownR (v : Value) (l : List UInt8) : SP := own 5 1 v l.length (vbs l)
theorem infoR : (Try.prog.info? 5).map (fun i => (i.zero, i.size, i.bytes)) = some (some (.int .u8 0), 1, 1) := by kernel_rfl

set_option maxRecDepth 100000 in
set_option maxHeartbeats 2000000 in
theorem put_any (g cap : Nat) (l : List UInt8) (at' n : Nat) (hn : n < 4294967296) (ha : at' + 4 ≤ l.length) (hl : l.length ≤ 1000000) (F : SP) (w : World) (h : (ownR (.slice (some ⟨g, 0, Option.none⟩) l.length cap) l * F).on w) :
    Calls Try.prog 87 #[.slice (some ⟨g, 0, Option.none⟩) l.length cap, .int .i64 at', .int .u32 n] w fun e w' => (∃ v, e = .returned v) ∧ (ownR (.slice (some ⟨g, 0, Option.none⟩) l.length cap) (putL l at' n 4) * F).on w' ∧ Str w w' := by
  obtain ⟨_, _, ev, hc1, hc2, _, _⟩ := own_value h
  simp only [Value.slice.injEq] at ev
  obtain ⟨rfl, _, rfl⟩ := ev
  unfold maxLen at hc2
  have H := hide h
  clear h
  go_enter Try.func87, Try.ntmps87
  go_wp2_with fail
  go_loopw [7] (fun i wr => ∃ k : Nat, k ≤ 4 ∧ i = .int .i64 k ∧ (own 5 1 (.slice (some ⟨g, 0, Option.none⟩) l.length cap) l.length (vbs (putL l at' n k)) * F).on wr ∧ Str w wr) (fun i _ => 4 - (intOf i).toNat)
  case atStart => exact ⟨0, by omega, rfl, H.out, Str.refl _⟩
  case round =>
    obtain ⟨k, hk, rfl, hw, hstr⟩ := hrel
    by_cases hlt : k < 4
    · have hpl := putL_len l at' n k
      have hp : ((n : Int) / 2 ^ (8 * k)) = ((n / 2 ^ (8 * k) : Nat) : Int) := by simp
      have hml : n / 2 ^ (8 * k) ≤ n := Nat.div_le_self _ _
      have hb := b4_toNat n k
      have cb := own_cell hw (at' + k) _ (vbs_get _ (at' + k) (by rw [hpl]; omega))
      have fr := own_free hw (at' + k)
      have Hst := hide (own_store hw (j := at' + k) (by omega) (vb (b4 n k)))
      have Hn := hide (show putL l at' n (k + 1) = (putL l at' n k).set (at' + k) (b4 n k) from rfl)
      have Hstr := hide hstr
      rw [vbs_set, ← Hn.out] at Hst
      have hvb : vb (b4 n k) = .int .u8 ((n / 2 ^ (8 * k) % 256 : Nat) : Int) := by simp only [vb, hb]
      rw [hvb] at Hst
      generalize (putL l at' n k)[at' + k]'(by rw [hpl]; omega) = old at cb
      clear hw hstr hb hvb hpl
      generalize n / 2 ^ (8 * k) = m at *
      go_wp2_with fail
      exact ⟨⟨k + 1, by omega, by simp, Hst.out, Hstr.out.setCell _ _⟩, by simp [intOf]; omega⟩
    · obtain rfl : k = 4 := by omega
      have Hw := hide hw
      have Hstr := hide hstr
      clear hw hstr
      go_wp2_with fail
      go_end0
      have hpl := putL_len l at' n 4
      exact ⟨⟨_, rfl⟩, by unfold ownR; rw [hpl]; exact Hw.out, Hstr.out⟩

set_option maxRecDepth 100000 in
set_option maxHeartbeats 2000000 in
theorem number_any (v : Value) (l : List UInt8) (at' : Nat) (w : World) (h : IsBytes w v l) (ha : at' + 4 ≤ l.length) (hl : l.length ≤ 1000000) :
    Calls Try.prog 110 #[v, .int .i64 at'] w fun e w' => e = .returned (.int .u32 (numS l at' 4 : Nat)) ∧ w = w' := by
  obtain ⟨a, c, rfl, hc, hm, hla, _⟩ := h
  unfold maxLen at hm
  have Hl := hide hla
  clear hla
  go_enter Try.func110, Try.ntmps110
  go_wp2_with fail
  go_loop [5, 7] (fun q i => ∃ k : Nat, k ≤ 4 ∧ i = .int .i64 k ∧ q = .int .u32 (numS l at' k : Nat)) (fun _ i => 4 - (intOf i).toNat)
  case atStart => exact ⟨0, by omega, rfl, rfl⟩
  case round =>
    obtain ⟨k, hk, rfl, rfl⟩ := hrel
    by_cases hlt : k < 4
    · obtain ⟨b, off, rfl⟩ := Lay.isAddr Hl.out (at' + k) (by simp; omega)
      have cb := Lay.cell Hl.out (at' + k) (vbs_get l (at' + k) (by omega))
      have hg : l[at' + k]'(by omega) = l.getD (at' + k) 0 := by rw [List.getD_eq_getElem?_getD, List.getElem?_eq_getElem (by omega)]; rfl
      rw [hg] at cb
      have HS := hide (show numS l at' (k + 1) = numS l at' k + (l.getD (at' + k) 0).toNat * 2 ^ (8 * k) from rfl)
      have hlt1 := numS_lt l at' k
      have hx := UInt8.toNat_lt (l.getD (at' + k) 0)
      have hk2 : 2 ^ (8 * k) ≤ 16777216 := by
        match k, hlt with
        | 0, _ => decide
        | 1, _ => decide
        | 2, _ => decide
        | 3, _ => decide
      clear hg
      generalize (l.getD (at' + k) 0) = x at *
      generalize numS l at' k = q at *
      have hor : q ||| x.toNat * 2 ^ (8 * k) = q + x.toNat * 2 ^ (8 * k) := by
        rw [Nat.or_comm, ← Nat.shiftLeft_eq, ← Nat.shiftLeft_add_eq_or_of_lt hlt1, Nat.add_comm]
      have hmul : x.toNat * 2 ^ (8 * k) ≤ 255 * 16777216 := Nat.mul_le_mul (by omega) hk2
      have hp : ((x.toNat : Nat) : Int) * 2 ^ (8 * k) = ((x.toNat * 2 ^ (8 * k) : Nat) : Int) := by simp
      have hp2 : (x.toNat * 2 ^ (8 * k) : Nat) % 4294967296 = x.toNat * 2 ^ (8 * k) := Nat.mod_eq_of_lt (by omega)
      have e1 : bits .or .u32 (q : Int) ((x.toNat * 2 ^ (8 * k) : Nat) : Int) = ((q + x.toNat * 2 ^ (8 * k) : Nat) : Int) := by rw [u32_or_nat _ _ (by omega) (by omega), hor]
      clear hor
      generalize x.toNat * 2 ^ (8 * k) = y at *
      go_wp2_with fail
      go_round
      case rel => exact ⟨k + 1, by omega, by go_num, by rw [HS.out]; simp⟩
      case measure => simp [intOf]; omega
    · obtain rfl : k = 4 := by omega
      go_wp2_with fail
      go_ret
      exact ⟨rfl, rfl⟩
end Go.Proofs.Ytjmgnfpcieofkaa
