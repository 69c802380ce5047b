/- The document's four bytes of a number. -/
import Derived.Test.YtjmgnfpcieofkaaGRecA
import Derived.Test.YtjmgnfpcieofkaaGBase
namespace Go.Proofs.Ytjmgnfpcieofkaa
open Go.ChangeShapes Go.WideShapes Go.ChangeAt Go.RowKit
set_option linter.unusedVariables false
set_option linter.unusedSimpArgs false

abbrev n32v (n : Nat) : Value := .int .u32 (n : Int)
theorem wordB_snoc12 (n k : Nat) (h : k < 4) : (wordB n).take (k + 1) = (wordB n).take k ++ [b4 n k] := by
  match k, h with
  | 0, _ => rfl
  | 1, _ => rfl
  | 2, _ => rfl
  | 3, _ => rfl

set_option maxRecDepth 100000 in
set_option maxHeartbeats 4000000 in
theorem rword12_any (n : Nat) (hn : n < 4294967296) (w : World) :
    Calls Try.prog 72 #[n32v n] w (Makes w fun v => ownT v (wordB n)) := by
  have hu := Try.underlying33
  have H0 := hide (own_nil 5 1 (on_all w))
  go_enter Try.func72, Try.ntmps72
  go_wp2_with fail
  go_loopw [0, 3, 4] (fun nv v i wr => ∃ k : Nat, k ≤ 4 ∧ i = .int .i64 k ∧ nv = n32v (n / 2 ^ (8 * k)) ∧ (ownT v ((wordB n).take k) * all w).on wr ∧ Str w wr) (fun _ _ i _ => 4 - (intOf i).toNat)
  case atStart => exact ⟨0, by omega, rfl, by simp, H0.out, Str.refl _⟩
  case round =>
    obtain ⟨k, hk, rfl, rfl, how, hstr⟩ := hrel
    by_cases hlt : k < 4
    · have HS := hide (wordB_snoc12 n k hlt)
      have hl : ((wordB n).take k).length ≤ 4 := by rw [List.length_take]; omega
      have hml : n / 2 ^ (8 * k) ≤ n := Nat.div_le_self _ _
      have Hm := hide (show n / 2 ^ (8 * (k + 1)) = n / 2 ^ (8 * k) / 256 by rw [Nat.div_div_eq_div_mul, show 8 * (k + 1) = 8 * k + 8 by omega, Nat.pow_add])
      have hb := b4_toNat n k
      have hv : (vbs [b4 n k]).toArray = #[.int .u8 ((n / 2 ^ (8 * k) % 256 : Nat) : Int)] := by simp [vbs, vb, hb]
      have Hv := hide hv
      clear hb hv
      generalize (wordB n).take k = acc at *
      generalize n / 2 ^ (8 * k) = m at *
      obtain ⟨oa, oc, rfl, _, _, _, _⟩ := own_value how
      have How := hide how
      have Hstr := hide hstr
      clear how hstr
      have hm2 : m % 256 < 256 := by omega
      have hm4 : m / 256 ≤ m := Nat.div_le_self _ _
      go_wp2_with (at_builtin; refine wpList_append_bytes (F := all w) rfl _ _ 33 rfl 5 hu infoT _ acc [b4 n k] rfl (How.out.alloc' _) _ rfl (by have := IsBytes.new wr [b4 n k] (by simp [maxLen]) 5; rw [Hv.out] at this; exact this) (by simp; omega) ?_; intro v2 w2 ho2 hs2; obtain ⟨oa2, oc2, rfl, _, _, _, _⟩ := own_value ho2; have Ho2 := hide ho2; have Hs2 := hide hs2; clear ho2 hs2)
      refine ⟨⟨k + 1, by omega, by simp, ?_, ?_, (Hstr.out.alloc _).trans Hs2.out⟩, by simp [intOf]; omega⟩
      · rw [Hm.out]; rfl
      · rw [HS.out]
        have h2 := Ho2.out
        have e : (acc ++ [b4 n k]).length = acc.length + 1 := by simp
        unfold ownT
        rw [e] at h2 ⊢
        exact h2
    · obtain rfl : k = 4 := by omega
      have How := hide how
      have Hstr := hide hstr
      clear how hstr
      go_wp2_with fail
      go_ret
      exact ⟨_, rfl, How.out, Hstr.out⟩

theorem numS_step12 (l : List UInt8) (n : Nat) (k : Nat) (hk : k < 4) : numS (l.drop k) 0 (4 - k) = (numS (l.drop (k + 1)) 0 (4 - (k + 1))) * 256 + (l.getD k 0).toNat := by
  match k, hk with
  | 0, _ => simp [numS]; omega
  | 1, _ => simp [numS]; omega
  | 2, _ => simp [numS]; omega
  | 3, _ => simp [numS]

set_option maxRecDepth 100000 in
set_option maxHeartbeats 4000000 in
theorem rnumber12_any (v : Value) (l : List UInt8) (w : World) (h : IsBytes w v l) (hl : l.length = 4) :
    Calls Try.prog 95 #[v] w fun e w' => e = .returned (n32v (numS l 0 4)) ∧ w = w' := by
  obtain ⟨a, c, rfl, hc, hm, hla, _⟩ := h
  unfold maxLen at hm
  have Hl := hide hla
  clear hla
  go_enter Try.func95, Try.ntmps95
  go_wp2_with fail
  go_loop [3, 4] (fun q i => ∃ k : Nat, k ≤ 4 ∧ i = .int .i64 ((k : Int) - 1) ∧ q = n32v (numS (l.drop k) 0 (4 - k))) (fun _ i => (intOf i + 1).toNat)
  case atStart => exact ⟨4, by omega, by simp, rfl⟩
  case round =>
    obtain ⟨k, hk, rfl, rfl⟩ := hrel
    by_cases hlt : 0 < k
    · obtain ⟨k, rfl⟩ : ∃ j, k = j + 1 := ⟨k - 1, by omega⟩
      have HS := hide (numS_step12 l 0 k (by omega))
      have hb := numS_lt (l.drop (k + 1)) 0 (4 - (k + 1))
      obtain ⟨b, off, rfl⟩ := Lay.isAddr Hl.out k (by simp; omega)
      have cb := Lay.cell Hl.out k (vbs_get l k (by omega))
      have hg : l[k]'(by omega) = l.getD k 0 := by rw [List.getD_eq_getElem?_getD, List.getElem?_eq_getElem (by omega)]; rfl
      rw [hg] at cb
      clear hg
      have hx := UInt8.toNat_lt (l.getD k 0)
      have hb2 : numS (l.drop (k + 1)) 0 (4 - (k + 1)) < 16777216 := by
        refine Nat.lt_of_lt_of_le hb ?_
        match k, hk with
        | 0, _ => decide
        | 1, _ => decide
        | 2, _ => decide
        | 3, _ => decide
      clear hb
      generalize l.getD k 0 = x at *
      generalize numS (l.drop (k + 1)) 0 (4 - (k + 1)) = q at *
      have e1 : (((k + 1 : Nat) : Int) - 1) = (k : Int) := by omega
      rw [e1]
      have d1 : (0 : Int) ≤ (k : Int) := by omega
      go_wp2_with fail
      go_round
      case rel => exact ⟨k, by omega, by go_num, by rw [HS.out]; simp⟩
      case measure => simp [intOf]
    · obtain rfl : k = 0 := by omega
      go_wp2_with fail
      go_ret
      exact ⟨rfl, rfl⟩

theorem IsBytes.mid12 {w : World} {g off n cap : Nat} {l : List UInt8} (h : IsBytes w (.slice (some ⟨g, off, Option.none⟩) n cap) l) (a k : Nat) (hk : a + k ≤ l.length) : IsBytes w (.slice (some ⟨g, off + a, Option.none⟩) k (cap - a)) ((l.drop a).take k) := by
  obtain ⟨ad, c, e, h1, h2, h3, _⟩ := h
  simp only [Value.slice.injEq] at e
  obtain ⟨rfl, rfl, rfl⟩ := e
  refine ⟨_, _, by rw [List.length_take, List.length_drop, Nat.min_eq_left (by omega)], by simp; omega, by omega, ?_, by simp⟩
  have := (h3.drop a).take k
  rwa [← List.map_drop, ← List.map_take] at this

theorem numS_sub12 (l : List UInt8) (a : Nat) (h : a + 4 ≤ l.length) : numS ((l.drop a).take 4) 0 4 = numS l a 4 := by
  have g : ∀ j, j < 4 → ((l.drop a).take 4).getD j 0 = l.getD (a + j) 0 := by
    intro j hj
    rw [List.getD_eq_getElem?_getD, List.getD_eq_getElem?_getD, List.getElem?_take, if_pos hj, List.getElem?_drop]
  simp only [numS, Nat.zero_add]
  rw [g 0 (by omega), g 1 (by omega), g 2 (by omega), g 3 (by omega)]
end Go.Proofs.Ytjmgnfpcieofkaa
