/- LAID TOGETHER: SlipMath, Slip, Slip2. -/
import Derived.WalkKit
import Derived.Test.YtgmpmlneoiagdaaGreatDoorRows
import Derived.Test.YtgmpmlneoiagdaaGreatDoorGBase
import Derived.Handy
/- Frames, as lists of bytes. No Go function is spoken of. -/
namespace Go.Proofs.YtgmpmlneoiagdaaGreatDoor

/-- the bytes that stand for one -/
def encByte (c : UInt8) : List UInt8 := if c = 192 then [219, 220] else if c = 219 then [219, 221] else [c]
def encText (l : List UInt8) : List UInt8 := l.flatMap encByte
def frame (l : List UInt8) : List UInt8 := encText l ++ [192]
def frames (ls : List (List UInt8)) : List UInt8 := ls.flatMap frame

theorem encByte_len (c : UInt8) : 1 ≤ (encByte c).length ∧ (encByte c).length ≤ 2 := by
  unfold encByte; split
  · simp
  · split <;> simp
theorem encText_snoc (l : List UInt8) (k : Nat) (h : k < l.length) : encText (l.take (k + 1)) = encText (l.take k) ++ encByte l[k] := by
  rw [List.take_succ_eq_append_getElem h, encText, List.flatMap_append]; simp [encText]
theorem frames_snoc (ls : List (List UInt8)) (k : Nat) (h : k < ls.length) : frames (ls.take (k + 1)) = frames (ls.take k) ++ frame ls[k] := by
  rw [List.take_succ_eq_append_getElem h, frames, List.flatMap_append]; simp [frames]
theorem encText_len (l : List UInt8) : (encText l).length ≤ 2 * l.length ∧ l.length ≤ (encText l).length := by
  induction l with
  | nil => simp [encText]
  | cons c l ih =>
    have := encByte_len c
    simp only [encText, List.flatMap_cons, List.length_append, List.length_cons] at ih ⊢
    omega
theorem encText_take_len (l : List UInt8) (k : Nat) : (encText (l.take k)).length ≤ (encText l).length := by
  conv => rhs; rw [← List.take_append_drop k l, encText, List.flatMap_append, List.length_append]
  exact Nat.le_add_right _ _
theorem frames_take_len (ls : List (List UInt8)) (k : Nat) (h : k < ls.length) : (frames (ls.take k)).length + (frame ls[k]).length ≤ (frames ls).length := by
  rw [← List.length_append, ← frames_snoc ls k h]
  conv => rhs; rw [← List.take_append_drop (k + 1) ls, frames, List.flatMap_append, List.length_append]
  exact Nat.le_add_right _ _
theorem encByte_192 : encByte 192 = [219, 220] := rfl
theorem encByte_219 : encByte 219 = [219, 221] := rfl
theorem encByte_other {c : UInt8} (h1 : c ≠ 192) (h2 : c ≠ 219) : encByte c = [c] := by simp [encByte, h1, h2]
end Go.Proofs.YtgmpmlneoiagdaaGreatDoor

/- The Go functions of slip, and the document's own: what they return. -/
namespace Go.Proofs.YtgmpmlneoiagdaaGreatDoor
open Go.ChangeShapes Go.WideShapes Go.ChangeAt Go.RowKit
set_option linter.unusedVariables false

theorem infoU8 : (Tryz.prog.info? 5).map (fun i => (i.zero, i.size, i.bytes)) = some (some (.int .u8 0), 1, 1) := by kernel_rfl
/-- bytes of one's own -/
abbrev ownB (v : Value) (l : List UInt8) : SP := own 5 1 v l.length (vbs l)

def EncRel (w : World) (l : List UInt8) (v : Value) (wr : World) : Prop := (ownB v l * all w).on wr ∧ Str w wr

theorem ne_int {c d : UInt8} (h : c ≠ d) : (((c.toNat : Nat) : Int) == ((d.toNat : Nat) : Int)) = false := by
  rw [beq_eq_false_iff_ne]
  intro e
  exact h (UInt8.toNat_inj.1 (by omega))

set_option maxHeartbeats 2000000 in
theorem encode_any (v : Value) (ls : List (List UInt8)) (w : World) (h : IsRows w v ls) (hlen : (frames ls).length ≤ 1099511627776) :
    Calls Tryz.prog 53 #[v] w (Makes w fun v => ownB v (frames ls)) := by
  obtain ⟨a, c, vs, rfl, hc, hm, hl, hlv, hin⟩ := h
  unfold maxLen at hm
  have Hlv := hide hlv
  have Hl := hide hl
  have Hin := hide hin
  have Hlen := hide hlen
  clear hlv hl hin hlen
  have hu := Tryz.underlying22
  have H0 := hide (own_nil 5 1 (on_all w))
  go_enter Tryz.func53, Tryz.ntmps53
  go_wp2
  go_loopw [3, 10] (fun v i wr => ∃ k : Nat, k ≤ ls.length ∧ i = .int .i64 k ∧ EncRel w (frames (ls.take k)) v wr) (fun _ i _ => ls.length - (intOf i).toNat)
  case atStart => exact ⟨0, by omega, rfl, H0.out, Str.refl _⟩
  case round =>
    obtain ⟨k, hk, rfl, how, hstr⟩ := hrel
    have How := hide how
    have Hstr := hide hstr
    have hB : Below w.heap.size w wr := all_below how.right hstr
    clear how hstr
    by_cases hlt : k < ls.length
    · have hkv : k < vs.length := by rw [Hlv.out]; exact hlt
      obtain ⟨b, off, rfl⟩ := Lay.isAddr Hl.out k hkv
      have hc0 := Lay.cell (Hl.out.below hB) k (List.getElem?_eq_getElem hkv)
      obtain ⟨a2, c2, hv2, hc2, hm2, hl2, hn2⟩ := Hin.out k vs[k] ls[k] (List.getElem?_eq_getElem hkv) (List.getElem?_eq_getElem hlt)
      have HS := hide (frames_snoc ls k hlt)
      have HL := hide (frames_take_len ls k hlt)
      rw [hv2] at hc0
      clear hv2
      unfold maxLen at hm2
      generalize ls[k] = x at hc0 hc2 hl2 HS HL
      have Hl2 := hide hl2
      clear hl2 hn2
      generalize frames (ls.take k) = fk at How HS HL
      have hfl : fk.length + (frame x).length ≤ 1099511627776 := Nat.le_trans HL.out Hlen.out
      have HF := hide (show frame x = encText x ++ [192] from rfl)
      go_wp2
      go_loopw [3, 16] (fun v j wr => ∃ m : Nat, m ≤ x.length ∧ j = .int .i64 m ∧ EncRel w (fk ++ encText (x.take m)) v wr) (fun _ j _ => x.length - (intOf j).toNat)
      case atStart => exact ⟨0, by omega, rfl, by simpa [encText] using How.out, Hstr.out⟩
      case round =>
        obtain ⟨m, hm', rfl, how, hstr⟩ := hrel
        have hl1 := encText_take_len x m
        have hl3 := encText_snoc x m
        have HF2 := hide (show (frame x).length = (encText x).length + 1 by rw [HF.out]; simp)
        have How2 := hide how
        have Hstr2 := hide hstr
        have hB2 : Below w.heap.size w wr := all_below how.right hstr
        clear how hstr
        by_cases hlm : m < x.length
        · obtain ⟨b2, off2, rfl⟩ := Lay.isAddr Hl2.out m (by simpa using hlm)
          have hc1 := Lay.cell (Hl2.out.below hB2) m (vbs_get x m hlm)
          have HS2 := hide (hl3 hlm)
          have hl4 := encText_take_len x (m + 1)
          rw [HS2.out, List.length_append] at hl4
          have hl5 := encByte_len x[m]
          clear hl3
          generalize x[m] = cc at hc1 HS2 hl4 hl5
          generalize hz : encText (x.take m) = z at How2 HS2 hl1 hl4
          have Hz := hide hz
          have hsz : fk.length + z.length + 2 ≤ 1099511627777 := by rw [HF2.out] at hfl; omega
          clear hz hl4 hl5
          by_cases h192 : cc = 192
          · subst h192
            go_wp2_with (at_builtin; refine wpList_append_bytes (F := all w) rfl _ _ 22 rfl 5 hu infoU8 _ (fk ++ z) [219, 220] rfl (How2.out.alloc' _) _ rfl (IsBytes.new wr [219, 220] (by decide) 5) (by simp; omega) ?_; intro v2 w2 ho2 hs2)
            go_roundw
            case rel => exact ⟨m + 1, by omega, by go_num, by rw [HS2.out, encByte_192, ← List.append_assoc]; exact ho2, (Hstr2.out.alloc _).trans hs2⟩
            case measure => simp [intOf]; omega
          · have e1 := ne_int h192
            by_cases h219 : cc = 219
            · subst h219
              go_wp2_with (at_builtin; refine wpList_append_bytes (F := all w) rfl _ _ 22 rfl 5 hu infoU8 _ (fk ++ z) [219, 221] rfl (How2.out.alloc' _) _ rfl (IsBytes.new wr [219, 221] (by decide) 5) (by simp; omega) ?_; intro v2 w2 ho2 hs2)
              go_roundw
              case rel => exact ⟨m + 1, by omega, by go_num, by rw [HS2.out, encByte_219, ← List.append_assoc]; exact ho2, (Hstr2.out.alloc _).trans hs2⟩
              case measure => simp [intOf]; omega
            · have e2 := ne_int h219
              have e1 : (((cc.toNat : Nat) : Int) == 192) = false := e1
              have e2 : (((cc.toNat : Nat) : Int) == 219) = false := e2
              go_wp2_with (at_builtin; refine wpList_append_bytes (F := all w) rfl _ _ 22 rfl 5 hu infoU8 _ (fk ++ z) [cc] rfl (How2.out.alloc' _) _ rfl (IsBytes.new wr [cc] (by simp [maxLen]) 5) (by simp; omega) ?_; intro v2 w2 ho2 hs2)
              go_roundw
              case rel => exact ⟨m + 1, by omega, by go_num, by rw [HS2.out, encByte_other h192 h219, ← List.append_assoc]; exact ho2, (Hstr2.out.alloc _).trans hs2⟩
              case measure => simp [intOf]; omega
        · obtain rfl : m = x.length := by omega
          rw [List.take_length] at How2
          clear hl1 hl3
          have hsz : fk.length + (encText x).length + 1 ≤ 1099511627777 := by rw [HF2.out] at hfl; omega
          generalize hz : encText x = z at How2 hsz
          have Hz := hide hz
          clear hz
          go_wp2_with (at_builtin; refine wpList_append_bytes (F := all w) rfl _ _ 22 rfl 5 hu infoU8 _ (fk ++ z) [192] rfl (How2.out.alloc' _) _ rfl (IsBytes.new wr [192] (by decide) 5) (by simp; omega) ?_; intro v2 w2 ho2 hs2)
          go_roundw
          case rel => exact ⟨k + 1, by omega, by go_num, by rw [HS.out, HF.out, Hz.out, ← List.append_assoc]; exact ho2, (Hstr2.out.alloc _).trans hs2⟩
          case measure => simp [intOf]; omega
    · obtain rfl : k = ls.length := by omega
      rw [List.take_length] at How
      go_wp2
      go_ret
      exact ⟨_, rfl, How.out, Hstr.out⟩
end Go.Proofs.YtgmpmlneoiagdaaGreatDoor

/- slip.Len, and the document's own frame. -/
namespace Go.Proofs.YtgmpmlneoiagdaaGreatDoor
open Go.ChangeShapes Go.WideShapes Go.ChangeAt Go.RowKit
set_option linter.unusedVariables false

set_option maxHeartbeats 4000000 in
theorem refEncode_any (v : Value) (x : List UInt8) (w : World) (h : IsBytes w v x) (hlen : x.length ≤ 1099511627776) :
    Calls Tryz.prog 13 #[v] w (Makes w fun v => ownB v (frame x)) := by
  obtain ⟨a, c, rfl, hc, hm, hl, _⟩ := h
  unfold maxLen at hm
  have Hl2 := hide hl
  clear hl
  have hu := Tryz.underlying22
  have H0 := hide (own_nil 5 1 (on_all w))
  go_enter Tryz.func13, Tryz.ntmps13
  go_wp2
  go_loopw [3, 4] (fun v j wr => ∃ m : Nat, m ≤ x.length ∧ j = .int .i64 m ∧ EncRel w (encText (x.take m)) v wr) (fun _ j _ => x.length - (intOf j).toNat)
  case atStart => exact ⟨0, by omega, rfl, H0.out, Str.refl _⟩
  case round =>
    obtain ⟨m, hm', rfl, how, hstr⟩ := hrel
    have hl1 := encText_len (x.take m)
    have htl : (x.take m).length ≤ x.length := by rw [List.length_take]; omega
    have hl3 := encText_snoc x m
    have How2 := hide how
    have Hstr2 := hide hstr
    have hB2 : Below w.heap.size w wr := all_below how.right hstr
    clear how hstr
    by_cases hlm : m < x.length
    · obtain ⟨b2, off2, rfl⟩ := Lay.isAddr Hl2.out m (by simpa using hlm)
      have hc1 := Lay.cell (Hl2.out.below hB2) m (vbs_get x m hlm)
      have HS2 := hide (hl3 hlm)
      clear hl3
      generalize x[m] = cc at hc1 HS2
      generalize encText (x.take m) = z at How2 HS2 hl1
      generalize (x.take m).length = tl at hl1 htl
      have Hc1 := hide hc1
      by_cases h192 : cc = 192
      · subst h192
        go_wp2_with (first
          | (at_builtin; refine wpList_append_bytes (F := all w) rfl _ _ 22 rfl 5 hu infoU8 _ (z ++ [219]) [220] rfl (ho2.alloc' _) _ rfl (IsBytes.new w2 [220] (by decide) 5) (by simp; omega) ?_; clear ho2; intro v3 w3 ho3 hs3)
          | (at_builtin; refine wpList_append_bytes (F := all w) rfl _ _ 22 rfl 5 hu infoU8 _ z [219] rfl (How2.out.alloc' _) _ rfl (IsBytes.new wr [219] (by decide) 5) (by simp; omega) ?_; intro v2 w2 ho2 hs2))
        go_roundw
        case rel => exact ⟨m + 1, by omega, by go_num, by rw [HS2.out, encByte_192]; have := ho3; rw [List.append_assoc] at this; exact this, ((((Hstr2.out.alloc _).trans hs2).alloc _).trans hs3)⟩
        case measure => simp [intOf]; omega
      · have e1 : (((cc.toNat : Nat) : Int) == 192) = false := ne_int h192
        by_cases h219 : cc = 219
        · subst h219
          go_wp2_with (first
            | (at_builtin; refine wpList_append_bytes (F := all w) rfl _ _ 22 rfl 5 hu infoU8 _ (z ++ [219]) [221] rfl (ho2.alloc' _) _ rfl (IsBytes.new w2 [221] (by decide) 5) (by simp; omega) ?_; clear ho2; intro v3 w3 ho3 hs3)
            | (at_builtin; refine wpList_append_bytes (F := all w) rfl _ _ 22 rfl 5 hu infoU8 _ z [219] rfl (How2.out.alloc' _) _ rfl (IsBytes.new wr [219] (by decide) 5) (by simp; omega) ?_; intro v2 w2 ho2 hs2))
          go_roundw
          case rel => exact ⟨m + 1, by omega, by go_num, by rw [HS2.out, encByte_219]; have := ho3; rw [List.append_assoc] at this; exact this, ((((Hstr2.out.alloc _).trans hs2).alloc _).trans hs3)⟩
          case measure => simp [intOf]; omega
        · have e2 : (((cc.toNat : Nat) : Int) == 219) = false := ne_int h219
          have Hb := hide (fun o => (show Below wr.heap.size wr (wr.alloc o) from (Below.refl _ _).alloc (Nat.le_refl _) o))
          go_wp2_with (at_builtin; refine wpList_append_bytes (F := all w) rfl _ _ 22 rfl 5 hu infoU8 _ z [cc] rfl (How2.out.alloc' _) _ rfl (IsBytes.new wr [cc] (by simp [maxLen]) 5) (by simp; omega) ?_; intro v2 w2 ho2 hs2)
          go_roundw
          case rel => exact ⟨m + 1, by omega, by go_num, by rw [HS2.out, encByte_other h192 h219]; exact ho2, (Hstr2.out.alloc _).trans hs2⟩
          case measure => simp [intOf]; omega
    · obtain rfl : m = x.length := by omega
      rw [List.take_length] at How2 hl1
      have HF := hide (show frame x = encText x ++ [192] from rfl)
      clear hl3
      generalize encText x = z at How2 hl1 HF
      go_wp2_with (at_builtin; refine wpList_append_bytes (F := all w) rfl _ _ 22 rfl 5 hu infoU8 _ z [192] rfl (How2.out.alloc' _) _ rfl (IsBytes.new wr [192] (by decide) 5) (by simp; omega) ?_; intro v2 w2 ho2 hs2)
      go_ret
      exact ⟨_, rfl, by rw [HF.out]; exact ho2, (Hstr2.out.alloc _).trans hs2⟩
end Go.Proofs.YtgmpmlneoiagdaaGreatDoor
