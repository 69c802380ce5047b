/- slip.Len, and the document's own frame. -/
import Derived.Test.YtdbnjejpejmmjaaSlip
namespace Go.Proofs.Ytdbnjejpejmmjaa
open Go.ChangeShapes Go.WideShapes Go.ChangeAt Go.RowKit
set_option linter.unusedVariables false

theorem frame_len (l : List UInt8) : (frame l).length = (encText l).length + 1 := by simp [frame]

set_option maxHeartbeats 2000000 in
theorem len_any (v : Value) (l : List UInt8) (w : World) (h : IsBytes w v l) (hlen : l.length ≤ 1099511627776) :
    Calls Try.prog 34 #[v] w fun e w' => e = .returned (.int .i64 ((frame l).length : Nat)) ∧ w = w' := by
  obtain ⟨a, c, rfl, hc, hm, hl, _⟩ := h
  unfold maxLen at hm
  have Hl := hide hl
  clear hl
  go_enter Try.func34, Try.ntmps34
  go_wp2
  go_loop [3, 11] (fun q i => ∃ k : Nat, k ≤ l.length ∧ i = .int .i64 k ∧ q = .int .i64 ((encText (l.take k)).length + (l.length - k) + 1 : Nat)) (fun _ i => l.length - (intOf i).toNat)
  case atStart => exact ⟨0, by omega, rfl, by simp [encText]⟩
  case round =>
    obtain ⟨k, hk, rfl, rfl⟩ := hrel
    have hl1 := encText_len (l.take k)
    have htl : (l.take k).length ≤ l.length := by rw [List.length_take]; omega
    by_cases hlt : k < l.length
    · obtain ⟨b, off, rfl⟩ := Lay.isAddr Hl.out k (by simpa using hlt)
      have hc1 := Lay.cell Hl.out k (vbs_get l k hlt)
      have HS := hide (encText_snoc l k hlt)
      generalize hxx : l[k] = cc at hc1 HS
      clear hxx
      generalize encText (l.take k) = z at HS hl1
      generalize (l.take k).length = tl at hl1 htl
      by_cases h192 : cc = 192
      · subst h192
        go_wp2
        go_round
        case rel => exact ⟨k + 1, by omega, by go_num, by rw [HS.out, encByte_192]; simp; omega⟩
        case measure => simp [intOf]; omega
      · have e1 : (((cc.toNat : Nat) : Int) == 192) = false := ne_int h192
        by_cases h219 : cc = 219
        · subst h219
          go_wp2
          go_round
          case rel => exact ⟨k + 1, by omega, by go_num, by rw [HS.out, encByte_219]; simp; omega⟩
          case measure => simp [intOf]; omega
        · have e2 : (((cc.toNat : Nat) : Int) == 219) = false := ne_int h219
          go_wp2
          go_round
          case rel => exact ⟨k + 1, by omega, by go_num, by rw [HS.out, encByte_other h192 h219]; simp; omega⟩
          case measure => simp [intOf]; omega
    · obtain rfl : k = l.length := by omega
      go_wp2
      go_ret
      refine ⟨?_, rfl⟩
      rw [frame_len]
      simp

set_option maxHeartbeats 4000000 in
theorem refEncode_any (v : Value) (x : List UInt8) (w : World) (h : IsBytes w v x) (hlen : x.length ≤ 1099511627776) :
    Calls Try.prog 32 #[v] w (Makes w fun v => ownB v (frame x)) := by
  obtain ⟨a, c, rfl, hc, hm, hl, _⟩ := h
  unfold maxLen at hm
  have Hl2 := hide hl
  clear hl
  have hu := Try.underlying22
  have H0 := hide (own_nil 5 1 (on_all w))
  go_enter Try.func32, Try.ntmps32
  go_wp2
  go_loopw [3, 4] (fun v j wr => ∃ m : Nat, m ≤ x.length ∧ j = .int .i64 m ∧ EncRel w (encText (x.take m)) v wr) (fun _ j _ => x.length - (intOf j).toNat)
  case atStart => exact ⟨0, by omega, rfl, H0.out, Str.refl _⟩
  case round =>
    obtain ⟨m, hm', rfl, how, hstr⟩ := hrel
    have hl1 := encText_len (x.take m)
    have htl : (x.take m).length ≤ x.length := by rw [List.length_take]; omega
    have hl3 := encText_snoc x m
    have How2 := hide how
    have Hstr2 := hide hstr
    have hB2 : Below w.heap.size w wr := all_below how.right hstr
    clear how hstr
    by_cases hlm : m < x.length
    · obtain ⟨b2, off2, rfl⟩ := Lay.isAddr Hl2.out m (by simpa using hlm)
      have hc1 := Lay.cell (Hl2.out.below hB2) m (vbs_get x m hlm)
      have HS2 := hide (hl3 hlm)
      clear hl3
      generalize x[m] = cc at hc1 HS2
      generalize encText (x.take m) = z at How2 HS2 hl1
      generalize (x.take m).length = tl at hl1 htl
      have Hc1 := hide hc1
      by_cases h192 : cc = 192
      · subst h192
        go_wp2_with (first
          | (at_builtin; refine wpList_append_bytes (F := all w) rfl _ _ 22 rfl 5 hu infoU8 _ (z ++ [219]) [220] rfl (ho2.alloc' _) _ rfl (IsBytes.new w2 [220] (by decide) 5) (by simp; omega) ?_; clear ho2; intro v3 w3 ho3 hs3)
          | (at_builtin; refine wpList_append_bytes (F := all w) rfl _ _ 22 rfl 5 hu infoU8 _ z [219] rfl (How2.out.alloc' _) _ rfl (IsBytes.new wr [219] (by decide) 5) (by simp; omega) ?_; intro v2 w2 ho2 hs2))
        go_roundw
        case rel => exact ⟨m + 1, by omega, by go_num, by rw [HS2.out, encByte_192]; have := ho3; rw [List.append_assoc] at this; exact this, ((((Hstr2.out.alloc _).trans hs2).alloc _).trans hs3)⟩
        case measure => simp [intOf]; omega
      · have e1 : (((cc.toNat : Nat) : Int) == 192) = false := ne_int h192
        by_cases h219 : cc = 219
        · subst h219
          go_wp2_with (first
            | (at_builtin; refine wpList_append_bytes (F := all w) rfl _ _ 22 rfl 5 hu infoU8 _ (z ++ [219]) [221] rfl (ho2.alloc' _) _ rfl (IsBytes.new w2 [221] (by decide) 5) (by simp; omega) ?_; clear ho2; intro v3 w3 ho3 hs3)
            | (at_builtin; refine wpList_append_bytes (F := all w) rfl _ _ 22 rfl 5 hu infoU8 _ z [219] rfl (How2.out.alloc' _) _ rfl (IsBytes.new wr [219] (by decide) 5) (by simp; omega) ?_; intro v2 w2 ho2 hs2))
          go_roundw
          case rel => exact ⟨m + 1, by omega, by go_num, by rw [HS2.out, encByte_219]; have := ho3; rw [List.append_assoc] at this; exact this, ((((Hstr2.out.alloc _).trans hs2).alloc _).trans hs3)⟩
          case measure => simp [intOf]; omega
        · have e2 : (((cc.toNat : Nat) : Int) == 219) = false := ne_int h219
          have Hb := hide (fun o => (show Below wr.heap.size wr (wr.alloc o) from (Below.refl _ _).alloc (Nat.le_refl _) o))
          go_wp2_with (at_builtin; refine wpList_append_bytes (F := all w) rfl _ _ 22 rfl 5 hu infoU8 _ z [cc] rfl (How2.out.alloc' _) _ rfl (IsBytes.new wr [cc] (by simp [maxLen]) 5) (by simp; omega) ?_; intro v2 w2 ho2 hs2)
          go_roundw
          case rel => exact ⟨m + 1, by omega, by go_num, by rw [HS2.out, encByte_other h192 h219]; exact ho2, (Hstr2.out.alloc _).trans hs2⟩
          case measure => simp [intOf]; omega
    · obtain rfl : m = x.length := by omega
      rw [List.take_length] at How2 hl1
      have HF := hide (show frame x = encText x ++ [192] from rfl)
      clear hl3
      generalize encText x = z at How2 hl1 HF
      go_wp2_with (at_builtin; refine wpList_append_bytes (F := all w) rfl _ _ 22 rfl 5 hu infoU8 _ z [192] rfl (How2.out.alloc' _) _ rfl (IsBytes.new wr [192] (by decide) 5) (by simp; omega) ?_; intro v2 w2 ho2 hs2)
      go_ret
      exact ⟨_, rfl, by rw [HF.out]; exact ho2, (Hstr2.out.alloc _).trans hs2⟩
end Go.Proofs.Ytdbnjejpejmmjaa
