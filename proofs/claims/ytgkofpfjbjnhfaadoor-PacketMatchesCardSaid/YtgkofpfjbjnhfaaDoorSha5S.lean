/- SHA-2 on words of 32 bits: a new hash; the last block; the digest. -/
import Derived.Test.YtgkofpfjbjnhfaaDoorSha4S
namespace Go.Proofs.YtgkofpfjbjnhfaaDoor
open Go.ChangeShapes Go.WideShapes Go.ChangeAt Go.RowKit
namespace Sha32
set_option linter.unusedVariables false
set_option linter.unusedSimpArgs false

def zLeft : List UInt8 := List.replicate 64 0
set_option maxRecDepth 100000 in
set_option maxHeartbeats 4000000 in
theorem new_any (w : World) (hT : Tab w) :
    Calls Tryd.prog 99 #[] w (Makes w fun v => ex fun p => pure (v = .pointer (some ⟨p, 0, Option.none⟩)) * Sha p []) := by
  have hu8 := Tryd.underlying145
  have huh := Tryd.underlying147
  have hz : ∀ w, (zeroValue 147).run Tryd.prog w = .ok (.agg (cellsG (List.replicate 8 0) zLeft 0).toArray) w := fun w => by kernel_rfl
  have Hg8 : Hid ((Tryd.prog.info? 145).map (·.size) = some (stc H0).size) := hide (by kernel_rfl)
  have Hpart : Hid (∀ j v, (stc H0)[j]? = some v → w.cell? ⟨6, 0 + j, Option.none⟩ = some v) := hide fun j v hj => by
    rw [Nat.zero_add]
    have hj8 : j < 8 := by
      have := (Array.getElem?_eq_some_iff.1 hj).1
      rwa [stc_size] at this
    have h1 := hT.first j _ (List.getElem?_eq_getElem (by rw [list_len]; exact hj8))
    rw [h1, ← hj]
    unfold stc
    rw [wv_get _ j (List.getElem?_eq_getElem (by rw [list_len]; exact hj8))]
  go_enter Tryd.func99, Tryd.ntmps99
  go_wp2_with (refine wpList_load_part rfl _ _ rfl 6 0 rfl (stc H0) _ Hpart.out hu8 rfl Hg8.out ?_)
  go_ret
  have e0 : (Array.foldl (fun cs x => cs.setIfInBounds x.snd x.fst) (cellsG [0, 0, 0, 0, 0, 0, 0, 0] zLeft 0).toArray (stc H0).zipIdx 0 (stc H0).size) = cells H0 zLeft 0 := by kernel_rfl
  rw [e0]
  refine ⟨_, rfl, on_ex_mul.2 ⟨w.heap.size, ?_⟩, (Str.refl w).alloc _⟩
  rw [SP.mul_assoc]
  refine on_pure_mul.2 ⟨rfl, Sha.shut (left := zLeft) ⟨rfl, rfl⟩ ?_⟩
  exact (on_all w).alloc _

theorem byte_shr (n sh : Nat) : IntKind.u8.wrap ((n : Int) / ((2 ^ sh : Nat) : Int)) = (((byteK n sh).toNat : Nat) : Int) := by
  rw [IntKind.wrap_u8]
  unfold byteK
  generalize 2 ^ sh = d
  simp

theorem write_one (p : Nat) (l : List UInt8) (c : UInt8) (F : SP) (w : World) (h : (Sha p l * F).on w) (hT : ∀ X, F.on X → Tab X) (k : Nat) (hk : k = w.heap.size) (v : Value) (hv : v = vb c) (hlen : l.length + 1 ≤ 1099511627776) :
    Calls Tryd.prog 100 #[.pointer (some ⟨p, 0, Option.none⟩), .slice (some ⟨k, 0, Option.none⟩) 1 1] (w.alloc (.cells #[v] 5)) fun e w' => (∃ u, e = .returned u) ∧ (Sha p (l ++ [c]) * F).on w' ∧ Str w w' := by
  subst hk hv
  have h1 : (Sha p l * (blk w.heap.size (.cells #[vb c] 5 (0, 0)) * F)).on (w.alloc (.cells #[vb c] 5)) := by
    refine (SP.le_of_eq ?_).on (h.alloc (.cells #[vb c] 5))
    ac_rfl
  refine (write_any p l _ [c] _ _ h1 (fun X hX => hT X hX.right) (fun X hX => ⟨_, _, rfl, Nat.le_refl _, by unfold maxLen; simp, ?_, by intro h; cases h⟩) hlen).mono ?_
  · intro i u hu
    refine ⟨_, _, rfl, ?_⟩
    rw [Nat.zero_add, cell_of_row _ _ _ _ _ _ (on_blk_mul hX)]
    simpa using hu
  · rintro e w' ⟨hu, h2, h3⟩
    refine ⟨hu, (SP.le.mul (SP.le.refl _) (SP.le_right _ _)).on h2, ((Str.refl w).alloc _).trans h3⟩

theorem shr_len (n k : Nat) (hn : n ≤ 1000000000) (hk : k < 8) : Op.shift .shr .u64 (8 * (n : Int)) .i64 (56 - 8 * (k : Int)) = (Pure.pure (.int .u64 (8 * (n : Int) / 2 ^ (56 - 8 * k))) : Sem Value) := by
  rw [shift_shr_any _ _ _ _ (by omega)]
  congr 2
  have e : (56 - 8 * (k : Int)).toNat = 56 - 8 * k := by omega
  rw [e]
  have hb : IntKind.u64.bits = 64 := rfl
  rw [hb]
  rcases Nat.le_total (56 - 8 * k) 64 with h | h
  · rw [Nat.min_eq_left h]
  · rw [Nat.min_eq_right h]
    have h1 : (8 * (n : Int)) / 2 ^ 64 = 0 := Int.ediv_eq_zero_of_lt (by omega) (by omega)
    have h2 : (2 : Int) ^ 64 ≤ 2 ^ (56 - 8 * k) := by
      have := Nat.pow_le_pow_right (show 0 < 2 by decide) h
      exact_mod_cast this
    have h3 : (8 * (n : Int)) / 2 ^ (56 - 8 * k) = 0 := Int.ediv_eq_zero_of_lt (by omega) (by omega)
    rw [h1, h3]
def nOf (w : World) (p : Nat) : Nat := match w.cell? ⟨p, 72, Option.none⟩ with
  | some (.int _ n) => n.toNat
  | _ => 0
theorem Sha.n {p : Nat} {l : List UInt8} {F : SP} {w : World} (h : (Sha p l * F).on w) : w.cell? ⟨p, 72, Option.none⟩ = some (.int .u64 (l.length : Int)) := by
  obtain ⟨left, hL, hw⟩ := Sha.open h
  exact cell_of_blk hw 72 (cells_n _ left l.length hL.1)
theorem Sha.nOf {p : Nat} {l : List UInt8} {F : SP} {w : World} (h : (Sha p l * F).on w) : nOf w p = l.length := by
  unfold Sha32.nOf
  rw [Sha.n h]
  simp

set_option maxRecDepth 100000 in
set_option maxHeartbeats 8000000 in
theorem pad_any (p : Nat) (l : List UInt8) (F : SP) (w : World) (h : (Sha p l * F).on w) (hT : ∀ X, F.on X → Tab X) (hlen : l.length ≤ 1000000000) :
    Calls Tryd.prog 109 #[.pointer (some ⟨p, 0, Option.none⟩)] w fun e w' => (∃ u, e = .returned u) ∧ (Sha p (padded l) * F).on w' ∧ Str w w' := by
  have cn := Sha.n h
  have Hh := hide h
  have HT := hide hT
  clear h hT
  go_enter Tryd.func109, Tryd.ntmps109
  go_wp2_with fail
  refine (write_one p l 128 F w Hh.out HT.out _ rfl _ rfl (by omega)).mono ?_
  rintro e w1 ⟨⟨u, rfl⟩, hw1, hs1⟩
  have H1 := hide hw1
  have HS1 := hide hs1
  clear hw1 hs1 Hh cn
  go_wp2_with fail
  go_loopw [12] (fun _ wr => ∃ z : Nat, z ≤ padZ l.length ∧ (Sha p (l ++ [128] ++ List.replicate z 0) * F).on wr ∧ Str w wr) (fun _ wr => (56 + 64 - nOf wr p % 64) % 64)
  case atStart => exact ⟨0, Nat.zero_le _, by rw [List.replicate_zero, List.append_nil]; exact H1.out, HS1.out⟩
  case round =>
    obtain ⟨z, hz, hw, hstr⟩ := hrel
    have cn := Sha.n hw
    have hzB : padZ l.length < 64 := by unfold padZ; omega
    have hzP : (l.length + 1 + padZ l.length) % 64 = 56 := by unfold padZ; omega
    have hll : (l ++ [128] ++ List.replicate z 0).length = l.length + 1 + z := by simp; omega
    rw [hll] at cn
    by_cases hP : (l.length + 1 + z) % 64 = 56
    · obtain rfl : z = padZ l.length := by unfold padZ at hz ⊢; omega
      have hne : (((l.length : Int) + 1 + (padZ l.length : Int)) % 64 != 56) = false := by simp; omega
      have HD := hide (show padded l = (l ++ [128] ++ List.replicate (padZ l.length) 0) ++ lenB (8 * l.length) 8 from rfl)
      have hX : (l ++ [128] ++ List.replicate (padZ l.length) 0).length ≤ 1000001000 := by rw [hll]; omega
      have HX := hide hX
      have H2 := hide hw
      have HS2 := hide hstr
      clear hw hstr hP hzP hzB hll hX H1 HS1 hz
      generalize l ++ [128] ++ List.replicate (padZ l.length) 0 = X0 at *
      go_wp2_with fail
      clear hne cn
      go_loopw [21] (fun i wr => ∃ k : Nat, k ≤ 8 ∧ i = .int .i64 k ∧ (Sha p (X0 ++ lenB (8 * l.length) k) * F).on wr ∧ Str w wr) (fun i _ => 8 - (intOf i).toNat)
      case atStart => exact ⟨0, Nat.zero_le _, rfl, by unfold lenB; rw [List.append_nil]; exact H2.out, HS2.out⟩
      case round =>
        obtain ⟨k, hk, rfl, hw, hstr⟩ := hrel
        by_cases hlt : k < 8
        · have HN := hide (show X0 ++ lenB (8 * l.length) (k + 1) = (X0 ++ lenB (8 * l.length) k) ++ [byteK (8 * l.length) (56 - 8 * k)] by rw [List.append_assoc]; rfl)
          have HL : Hid ((X0 ++ lenB (8 * l.length) k).length + 1 ≤ 1099511627776) := hide (by have := HX.out; rw [List.length_append, lenB_len]; omega)
          have HW := hide hw
          have HSt := hide hstr
          have hshr := shr_len l.length k hlen hlt
          clear hw hstr H2 HS2
          generalize X0 ++ lenB (8 * l.length) k = Y at *
          go_wp2_with fail
          refine Calls.mono (write_one p Y (byteK (8 * l.length) (56 - 8 * k)) F wr HW.out HT.out _ rfl _ ?hv HL.out) ?_
          case hv => refine congrArg (Value.int _) ?_; unfold byteK; simp [IntKind.wrap_u8]
          rintro e w2 ⟨⟨u, rfl⟩, hw2, hs2⟩
          rw [← HN.out] at hw2
          have HW2 := hide hw2
          have HS2 := hide (HSt.out.trans hs2)
          clear hw2 hs2
          go_wp2_with fail
          exact ⟨⟨k + 1, by omega, by simp, HW2.out, HS2.out⟩, by simp [intOf]; omega⟩
        · obtain rfl : k = 8 := by omega
          rw [← HD.out] at hw
          have HW := hide hw
          have HSt := hide hstr
          clear hw hstr H2 HS2
          go_wp2_with fail
          go_end0
          exact ⟨⟨_, rfl⟩, HW.out, HSt.out⟩
    · have hne : (((l.length + 1 + z : Nat) : Int) % 64 != 56) = true := by simp; omega
      have hzz : z + 1 ≤ padZ l.length := by
        rcases Nat.lt_or_ge z (padZ l.length) with h | h
        · omega
        · have : z = padZ l.length := by omega
          rw [this] at hP
          exact absurd hzP hP
      have hnb := Sha.nOf hw
      have Hnb := hide hnb
      have HW := hide hw
      have HSt := hide hstr
      have Hll := hide hll
      have HPP := hide hP
      have hzb : z < 64 := by omega
      clear hw hstr hnb hll hP hzP hzB H1 HS1
      go_wp2_with fail
      refine (write_one p (l ++ [128] ++ List.replicate z 0) 0 F wr HW.out HT.out _ rfl _ rfl (by rw [Hll.out]; omega)).mono ?_
      rintro e w2 ⟨⟨u, rfl⟩, hw2, hs2⟩
      have HW2 := hide hw2
      have HS2 := hide (HSt.out.trans hs2)
      clear hw2 hs2
      go_wp2_with fail
      refine ⟨⟨z + 1, hzz, by rw [List.replicate_succ', ← List.append_assoc]; exact HW2.out, HS2.out⟩, ?_⟩
      have e1 := Sha.nOf HW2.out
      rw [List.length_append, Hll.out] at e1
      have e2 := Hnb.out
      rw [Hll.out] at e2
      have e3 := HPP.out
      rw [e1, e2]
      simp only [List.length_cons, List.length_nil]
      omega
end Sha32
end Go.Proofs.YtgkofpfjbjnhfaaDoor
