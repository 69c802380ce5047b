/- record: what its bytes say; a bit that is turned is found. No call is spoken of. -/
import Derived.Test.YtjmgnfpcieofkaaRec8
import Derived.Test.YtjmgnfpcieofkaaCrcFindsMath
namespace Go.Proofs.Ytjmgnfpcieofkaa
set_option linter.unusedVariables false
set_option linter.unusedSimpArgs false

theorem recErr_zero {d : List UInt8} (h : recErr d = 0) : d.length = 160 ∧ numS d 156 4 = chkN (d.take 156) := by
  unfold recErr at h
  split at h
  · cases h
  · rename_i h1
    split at h
    · cases h
    · rename_i h2
      exact ⟨by omega, by omega⟩
theorem recBytes_eq (s : RecS) : recBytes s = wordB 827216706 ++ (wordB s.seq ++ (wordB s.floor ++ (wordB s.bytes ++ (wordB s.sum ++ ([s.phase, UInt8.ofNat s.init.length, 0, 0] ++ (wordB s.done ++ (s.init ++ (List.replicate (128 - s.init.length) 0 ++ wordB (chkN (recHead s)))))))))) := by
  simp only [recBytes, recHead, List.append_assoc]
theorem recBytes_20 (s : RecS) : (recBytes s).getD 20 0 = s.phase := by
  unfold recBytes recHead wordB
  simp
theorem read_bytes (s : RecS) (ok : s.Ok) (h : s.init.length ≤ 128) : readS (recBytes s) = s := by
  have e := recBytes_eq s
  have h21 := recBytes_21 s
  have h20 := recBytes_20 s
  have w (n : Nat) : (wordB n).length = 4 := rfl
  obtain ⟨o1, o2, o3, o4, o5, _⟩ := ok
  have a1 : numS (recBytes s) 4 4 = s.seq := by
    rw [e]; exact numS_word _ _ _ o1 4 rfl
  have a2 : numS (recBytes s) 8 4 = s.floor := by
    rw [e, ← List.append_assoc]; exact numS_word _ _ _ o2 8 (by simp [w])
  have a3 : numS (recBytes s) 12 4 = s.bytes := by
    rw [e, ← List.append_assoc, ← List.append_assoc]; exact numS_word _ _ _ o3 12 (by simp [w])
  have a4 : numS (recBytes s) 16 4 = s.sum := by
    rw [e, ← List.append_assoc, ← List.append_assoc, ← List.append_assoc]; exact numS_word _ _ _ o4 16 (by simp [w])
  have a5 : numS (recBytes s) 24 4 = s.done := by
    rw [e, ← List.append_assoc, ← List.append_assoc, ← List.append_assoc, ← List.append_assoc, ← List.append_assoc]; exact numS_word _ _ _ o5 24 (by simp [w])
  have a6 : ((recBytes s).drop 28).take (min ((recBytes s).getD 21 0).toNat 128) = s.init := by
    rw [h21]
    have : min (UInt8.ofNat s.init.length).toNat 128 = s.init.length := by simp; omega
    rw [this, e, ← List.append_assoc, ← List.append_assoc, ← List.append_assoc, ← List.append_assoc, ← List.append_assoc, ← List.append_assoc]
    rw [List.drop_left' (by simp [w])]
    exact List.take_left' rfl
  unfold readS
  rw [a1, a2, a3, a4, a5, a6, h20]
theorem numS_mark' (q : Nat) (hq : q < 4294967296) (B : List UInt8) : numS (wordB q ++ B) 0 4 = q := numS_word [] B q hq 0 rfl
theorem numS_mark (s : RecS) : numS (recBytes s) 0 4 = 827216706 := (congrArg (fun l => numS l 0 4) (recBytes_eq s)).trans (numS_mark' 827216706 (by omega) _)
theorem recErr_bytes (s : RecS) (ok : s.Ok) (hr : s.right = true) : recErr (recBytes s) = 0 := by
  have h : s.init.length ≤ 128 := by simp only [RecS.right, decide_eq_true_eq] at hr; omega
  have hl := recBytes_len s h
  have h0 : numS (recBytes s) 0 4 = 827216706 := numS_mark s
  have ht : (recBytes s).take 156 = recHead s := List.take_left' (recHead_len s h)
  have hc : numS (recBytes s) 156 4 = chkN (recHead s) := by
    have := numS_word (recHead s) [] _ (chkN_lt (recHead s)) 156 (recHead_len s h).symm
    simpa [recBytes] using this
  unfold recErr
  rw [if_neg (by rw [hl, h0]; omega), ht, if_neg (by rw [hc]; omega), read_bytes s ok h, if_pos ⟨hr, rfl⟩]
theorem chkN_two {a b : List UInt8} (h : chkN a = chkN b) (hne : crcUpd 0 a ≠ crcUpd 0 b) : chkN a = 0 := by
  unfold chkN at h ⊢
  split
  · rfl
  · rename_i h1
    rw [if_neg h1] at h
    split at h
    · exact h
    · exact absurd h hne
theorem xor_pow_ne (x m : Nat) : x ^^^ 2 ^ m ≠ x := by
  intro h
  have h1 : (x ^^^ 2 ^ m).testBit m = x.testBit m := by rw [h]
  rw [Nat.testBit_xor, Nat.testBit_two_pow_self] at h1
  cases hx : x.testBit m <;> simp [hx] at h1
theorem numS_four (l : List UInt8) (at' : Nat) : numS l at' 4 = (l.getD at' 0).toNat + (l.getD (at' + 1) 0).toNat * 256 + (l.getD (at' + 2) 0).toNat * 65536 + (l.getD (at' + 3) 0).toNat * 16777216 := by
  simp [numS]
theorem numS_inj {l m : List UInt8} {at' : Nat} (h : numS l at' 4 = numS m at' 4) (j : Nat) (hj : j < 4) : l.getD (at' + j) 0 = m.getD (at' + j) 0 := by
  rw [numS_four, numS_four] at h
  have a0 := UInt8.toNat_lt (l.getD at' 0)
  have a1 := UInt8.toNat_lt (l.getD (at' + 1) 0)
  have a2 := UInt8.toNat_lt (l.getD (at' + 2) 0)
  have a3 := UInt8.toNat_lt (l.getD (at' + 3) 0)
  have b0 := UInt8.toNat_lt (m.getD at' 0)
  have b1 := UInt8.toNat_lt (m.getD (at' + 1) 0)
  have b2 := UInt8.toNat_lt (m.getD (at' + 2) 0)
  have b3 := UInt8.toNat_lt (m.getD (at' + 3) 0)
  apply UInt8.toNat_inj.1
  match j, hj with
  | 0, _ => simp only [Nat.add_zero]; omega
  | 1, _ => omega
  | 2, _ => omega
  | 3, _ => omega
theorem recErr_turned (s : RecS) (h : s.init.length ≤ 128) (j m : Nat) (hj : j < 160) (hm : m < 8) (y : UInt8) (hy : y.toNat = ((recBytes s).getD j 0).toNat ^^^ 2 ^ m) :
    recErr ((recBytes s).set j y) ≠ 0 ∨ chkN (recHead s) = 0 := by
  rcases Nat.eq_zero_or_pos (recErr ((recBytes s).set j y)) with h0 | h0
  · right
    obtain ⟨_, hc⟩ := recErr_zero h0
    have hh := recHead_len s h
    have hl := recBytes_len s h
    have hs : numS (recBytes s) 156 4 = chkN (recHead s) := by
      have := numS_word (recHead s) [] _ (chkN_lt (recHead s)) 156 hh.symm
      simpa [recBytes] using this
    have hne : y ≠ (recBytes s).getD j 0 := fun e => by
      rw [e] at hy
      exact xor_pow_ne _ _ hy.symm
    by_cases hj2 : j < 156
    · have e1 : (recBytes s).set j y = (recHead s).set j y ++ wordB (chkN (recHead s)) := by
        unfold recBytes
        rw [List.set_append_left _ _ (by omega)]
      have hg : (recBytes s).getD j 0 = (recHead s)[j]'(by omega) := by
        rw [List.getD_eq_getElem?_getD]
        unfold recBytes
        rw [List.getElem?_append_left (by omega), List.getElem?_eq_getElem (by omega)]
        rfl
      rw [hg] at hy
      rw [e1, List.take_left' (by simp [hh])] at hc
      have := numS_word ((recHead s).set j y) [] _ (chkN_lt (recHead s)) 156 (by simp [hh])
      rw [List.append_nil] at this
      rw [this] at hc
      have hn := numOf_set (recHead s) j m (by omega) hm y hy
      have hb : crcBytes 4294967295 ((recHead s).set j y) ≠ crcBytes 4294967295 (recHead s) := by
        by_cases hi : 8 * j + m + 32 ≤ 1248
        · exact burst_found 4294967295 (recHead s) _ (8 * j + m) 1 (by simp) (by omega) (by decide) (by decide) (by rw [hn, Nat.mul_one])
        · obtain ⟨A, hA⟩ : ∃ A : Nat, A = 1216 := ⟨_, rfl⟩
          refine burst_found 4294967295 (recHead s) _ A (2 ^ (8 * j + m - A)) (by simp) (by omega) (Nat.lt_of_lt_of_le (Nat.pow_lt_pow_right (by decide) (show 8 * j + m - A < 32 by omega)) (by decide)) (by have := Nat.two_pow_pos (8 * j + m - A); omega) ?_
          rw [hn, ← Nat.pow_add]
          exact congrArg (fun z => numOf (recHead s) ^^^ 2 ^ z) (show 8 * j + m = A + (8 * j + m - A) by omega)
      refine chkN_two hc fun e => hb ?_
      have q1 := crcBytes_lt (r := 4294967295) (by omega) (recHead s)
      have q2 := crcBytes_lt (r := 4294967295) (by omega) ((recHead s).set j y)
      unfold crcUpd at e
      simp only [Nat.sub_zero] at e
      omega
    · exfalso
      have ht : ((recBytes s).set j y).take 156 = recHead s := by
        rw [List.take_set_of_le (by omega)]
        exact List.take_left' hh
      rw [ht, ← hs] at hc
      have hg := numS_inj hc (j - 156) (by omega)
      rw [show 156 + (j - 156) = j by omega] at hg
      rw [List.getD_eq_getElem?_getD, List.getElem?_set_self (by omega)] at hg
      exact hne hg
  · left; omega
end Go.Proofs.Ytjmgnfpcieofkaa
