/- The document's own check sum: bit by bit. -/
import Derived.Test.YtjmgnfpcieofkaaCrc2
namespace Go.Proofs.Ytjmgnfpcieofkaa
open Go.ChangeShapes Go.WideShapes Go.ChangeAt Go.RowKit
set_option linter.unusedVariables false

/-- the register behind k bits of a byte x, c having been ahead of it -/
def refBits (c x k : Nat) : Nat := crcSteps k (c ^^^ x) ^^^ (x / 2 ^ k)
theorem refBits_zero (c x : Nat) : refBits c x 0 = c := by
  simp [refBits, crcSteps, Nat.xor_assoc]
theorem refBits_end (c x : Nat) (hx : x < 256) : refBits c x 8 = crcByte c x := by
  rw [crcByte_steps c x hx, refBits, show x / 2 ^ 8 = 0 from Nat.div_eq_of_lt hx, Nat.xor_zero]
theorem refBits_succ (c x k : Nat) : refBits c x (k + 1) = if refBits c x k % 2 ≠ x / 2 ^ k % 2 then (refBits c x k / 2) ^^^ 3988292384 else refBits c x k / 2 := by
  have hy : crcSteps k (c ^^^ x) = refBits c x k ^^^ (x / 2 ^ k) := by rw [refBits, Nat.xor_assoc, Nat.xor_self, Nat.xor_zero]
  rw [refBits, crcSteps, hy]
  generalize refBits c x k = z
  rw [Nat.pow_succ, ← Nat.div_div_eq_div_mul]
  generalize x / 2 ^ k = y
  unfold crcStep
  rw [xor_mod2, xor_div2]
  rcases Nat.mod_two_eq_zero_or_one z with ha | ha <;> rcases Nat.mod_two_eq_zero_or_one y with hb | hb <;> simp [ha, hb]
  · rw [Nat.xor_assoc, Nat.xor_self, Nat.xor_zero]
  · rw [Nat.xor_assoc, Nat.xor_assoc, Nat.xor_comm (y / 2), Nat.xor_assoc, Nat.xor_self, Nat.xor_zero]
  · rw [Nat.xor_assoc, Nat.xor_assoc, Nat.xor_comm (y / 2), Nat.xor_assoc, Nat.xor_self, Nat.xor_zero]
  · rw [Nat.xor_assoc, Nat.xor_self, Nat.xor_zero]
theorem refBits_lt {c x : Nat} (hc : c < 4294967296) (hx : x < 256) (k : Nat) : refBits c x k < 4294967296 := by
  have h1 := crcSteps_lt (c := c ^^^ x) (Nat.xor_lt_two_pow (n := 32) (by omega) (by omega)) k
  have h2 : x / 2 ^ k ≤ x := Nat.div_le_self _ _
  exact Nat.xor_lt_two_pow (n := 32) (by omega) (by omega)

set_option maxHeartbeats 1000000 in
theorem refUpdate_any (s : Nat) (hs : s < 4294967296) (v : Value) (l : List UInt8) (w : World) (h : IsBytes w v l) :
    Calls Try.prog 73 #[.int .u32 s, v] w fun e w' => e = .returned (.int .u32 (crcUpd s l : Nat)) ∧ w = w' := by
  obtain ⟨a, c, rfl, hc, hm, hl, _⟩ := h
  unfold maxLen at hm
  have Hl := hide hl
  clear hl
  go_enter Try.func73, Try.ntmps73
  go_wp2
  go_loop [5, 6] (fun q i => ∃ k : Nat, k ≤ l.length ∧ i = .int .i64 k ∧ q = .int .u32 (crcBytes (4294967295 - s) (l.take k) : Nat)) (fun _ i => l.length - (intOf i).toNat)
  case atStart => exact ⟨0, by omega, rfl, by simp [crcBytes]; omega⟩
  case round =>
    obtain ⟨k, hk, rfl, rfl⟩ := hrel
    by_cases hlt : k < l.length
    · obtain ⟨b, off, rfl⟩ := Lay.isAddr Hl.out k (by simpa using hlt)
      have hc1 := Lay.cell Hl.out k (vbs_get l k hlt)
      have HS := hide (crcBytes_snoc (4294967295 - s) l k hlt)
      have hq := crcBytes_lt (r := 4294967295 - s) (by omega) (l.take k)
      generalize crcBytes (4294967295 - s) (l.take k) = q at hq HS
      have hx := u8lt l[k]
      generalize l[k] = xx at hc1 HS hx
      go_wp2
      go_loop [5, 7] (fun p j => ∃ m : Nat, m ≤ 8 ∧ j = .int .i64 m ∧ p = .int .u32 (refBits q xx.toNat m : Nat)) (fun _ j => 8 - (intOf j).toNat)
      case atStart => exact ⟨0, by omega, rfl, by rw [refBits_zero]⟩
      case round =>
        obtain ⟨m, hm', rfl, rfl⟩ := hrel
        by_cases hlm : m < 8
        · have hr := refBits_lt (c := q) hq hx m
          have hS := hide (refBits_succ q xx.toNat m)
          have hy : xx.toNat / 2 ^ m ≤ xx.toNat := Nat.div_le_self _ _
          have hp : ((xx.toNat : Int) / 2 ^ m) = ((xx.toNat / 2 ^ m : Nat) : Int) := by simp
          generalize refBits q xx.toNat m = z at hr hS
          generalize xx.toNat / 2 ^ m = y at hS hy hp
          have e2 : bits .xor .u32 ((z : Int) / 2) 3988292384 = (((z / 2) ^^^ 3988292384 : Nat) : Int) := by
            rw [show (3988292384 : Int) = ((3988292384 : Nat) : Int) from rfl, show ((z : Int) / 2) = ((z / 2 : Nat) : Int) by omega, u32_xor_nat _ _ (by omega) (by omega)]
          by_cases hne : z % 2 = y % 2
          · have e3 : ((z : Int) % 2 != (y : Int) % 2) = false := by rw [bne_eq_false_iff_eq]; omega
            go_wp2
            go_round
            case rel => exact ⟨m + 1, by omega, by go_num, by rw [hS.out, if_neg (by omega)]; go_num⟩
            case measure => simp [intOf]; omega
          · have e3 : ((z : Int) % 2 != (y : Int) % 2) = true := by rw [bne_iff_ne]; omega
            go_wp2
            go_round
            case rel => exact ⟨m + 1, by omega, by go_num, by rw [hS.out, if_pos (by omega)]⟩
            case measure => simp [intOf]; omega
        · obtain rfl : m = 8 := by omega
          go_wp2
          go_round
          case rel => exact ⟨k + 1, by omega, by go_num, by rw [HS.out, refBits_end _ _ hx]⟩
          case measure => simp [intOf]; omega
    · obtain rfl : k = l.length := by omega
      have hq := crcBytes_lt (r := 4294967295 - s) (by omega) l
      have HU := hide (show crcUpd s l = 4294967295 - crcBytes (4294967295 - s) l from rfl)
      have HT := hide (List.take_length (l := l))
      rw [HT.out]
      generalize crcBytes (4294967295 - s) l = z at hq HU
      go_wp2
      go_ret
      refine ⟨?_, rfl⟩
      rw [HU.out]
      simp
      omega
end Go.Proofs.Ytjmgnfpcieofkaa
