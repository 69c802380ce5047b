/- scalar: words as bytes. -/
import Derived.Test.YtgkofpfjbjnhfaaDoorSc4
import Derived.Test.YtgkofpfjbjnhfaaDoorOwn
namespace Go.Proofs.YtgkofpfjbjnhfaaDoor
open Go.ChangeShapes Go.WideShapes Go.ChangeAt Go.RowKit
set_option linter.unusedVariables false
set_option linter.unusedSimpArgs false

/-- the eight bytes of a word, the lowest first -/
def wb (x : Nat) : List UInt8 := (List.range 8).map fun i => UInt8.ofNat (x / 2 ^ (8 * i))
def wbs (ws : List Nat) : List UInt8 := ws.flatMap wb
theorem wb_len (x : Nat) : (wb x).length = 8 := by simp [wb]
theorem wbs_len (ws : List Nat) : (wbs ws).length = 8 * ws.length := by
  induction ws with
  | nil => rfl
  | cons x l ih => rw [show wbs (x :: l) = wb x ++ wbs l from rfl, List.length_append, ih, wb_len, List.length_cons]; omega
theorem wb_snoc (x j : Nat) (hj : j < 8) : (wb x).take (j + 1) = (wb x).take j ++ [UInt8.ofNat (x / 2 ^ (8 * j))] := by
  rw [List.take_add_one]; congr 1; simp [wb, hj]
theorem wbs_snoc (ws : List Nat) (k : Nat) (hk : k < ws.length) : wbs (ws.take (k + 1)) = wbs (ws.take k) ++ wb ws[k] := by
  unfold wbs
  rw [List.take_add_one, List.getElem?_eq_getElem hk, List.flatMap_append, Option.toList_some, List.flatMap_singleton]
abbrev ownB6 (v : Value) (l : List UInt8) : SP := own 5 1 v l.length (vbs l)
theorem infoU86 : (Tryd.prog.info? 5).map (fun i => (i.zero, i.size, i.bytes)) = some (some (.int .u8 0), 1, 1) := by kernel_rfl
def BoRel (w : World) (l : List UInt8) (v : Value) (wr : World) : Prop := (ownB6 v l * all w).on wr ∧ Str w wr
theorem wb_byte (x j : Nat) : IntKind.u8.wrap ((x : Int) / 2 ^ (8 * j)) = ((UInt8.ofNat (x / 2 ^ (8 * j))).toNat : Int) := by
  rw [show (x : Int) / 2 ^ (8 * j) = ((x / 2 ^ (8 * j) : Nat) : Int) by rw [Int.natCast_ediv, Int.natCast_pow]; rfl, IntKind.wrap_u8, UInt8.toNat_ofNat']
  rfl

set_option maxHeartbeats 4000000 in
theorem bytesOf_any (a : Option Addr) (c : Nat) (ws : List Nat) (w : World) (hl : Lay w a (ws.map lv)) (hc : ws.length ≤ c) (hm : c ≤ 2 ^ 63 - 1) (hlen : ws.length ≤ 1000) :
    Calls Tryd.prog 67 #[.slice a ws.length c] w (Makes w fun v => ownB6 v (wbs ws)) := by
  have Hl := hide hl
  clear hl
  have hu := Tryd.underlying63
  have hu2 := Tryd.underlying96
  have H0 := hide (own_nil 5 1 (on_all w))
  go_enter Tryd.func67, Tryd.ntmps67
  go_wp2
  go_loopw [3, 9] (fun v i wr => ∃ k : Nat, k ≤ ws.length ∧ i = .int .i64 k ∧ BoRel w (wbs (ws.take k)) v wr) (fun _ i _ => ws.length - (intOf i).toNat)
  case atStart => exact ⟨0, by omega, rfl, H0.out, Str.refl _⟩
  case round =>
    obtain ⟨k, hk, rfl, how, hstr⟩ := hrel
    have How := hide how
    have Hstr := hide hstr
    have hB : Below w.heap.size w wr := all_below how.right hstr
    clear how hstr
    by_cases hlt : k < ws.length
    · obtain ⟨b, off, rfl⟩ := Lay.isAddr Hl.out k (by simpa using hlt)
      have hc0 := Lay.cell (Hl.out.below hB) k (show (ws.map lv)[k]? = some (lv ws[k]) by simp [hlt])
      have HS := hide (wbs_snoc ws k hlt)
      have HL := hide (show (wbs (ws.take k)).length ≤ 8000 by rw [wbs_len, List.length_take]; omega)
      generalize ws[k] = x at *
      generalize wbs (ws.take k) = fk at *
      go_wp2
      go_loopw [3, 13] (fun v j wr => ∃ m : Nat, m ≤ 8 ∧ j = .int .i64 m ∧ BoRel w (fk ++ (wb x).take m) v wr) (fun _ j _ => 8 - (intOf j).toNat)
      case atStart => exact ⟨0, by omega, rfl, by simpa using How.out, Hstr.out⟩
      case round =>
        obtain ⟨m, hm', rfl, how, hstr⟩ := hrel
        have How2 := hide how
        have Hstr2 := hide hstr
        clear how hstr
        by_cases hlm : m < 8
        · have m8 : (m : Int) < 8 := by omega
          have HS2 := hide (wb_snoc x m hlm)
          have sh1 : IntKind.i64.wrap (8 * (m : Int)) = ((8 * m : Nat) : Int) := by rw [IntWalk.i64_in _ (by omega)]; omega
          have q := wb_byte x m
          have hzl : ((wb x).take m).length ≤ 8 := by rw [List.length_take, wb_len]; omega
          have hsz : fk.length ≤ 8000 := HL.out
          generalize (wb x).take m = z at *
          generalize UInt8.ofNat (x / 2 ^ (8 * m)) = cc at *
          go_wp2_with (at_builtin; refine wpList_append_bytes (F := all w) rfl _ _ 63 rfl 5 hu infoU86 _ (fk ++ z) [cc] rfl (How2.out.alloc' _) _ rfl (IsBytes.new wr [cc] (by simp [maxLen]) 5) (by simp; omega) ?_; intro v2 w2 ho2 hs2)
          go_roundw
          case rel => exact ⟨m + 1, by omega, by go_num, by rw [HS2.out, ← List.append_assoc]; exact ho2, (Hstr2.out.alloc _).trans hs2⟩
          case measure => simp [intOf]; omega
        · obtain rfl : m = 8 := by omega
          rw [List.take_of_length_le (by rw [wb_len]; omega)] at How2
          go_wp2
          go_roundw
          case rel => exact ⟨k + 1, by omega, by go_num, by rw [HS.out]; exact How2.out, Hstr2.out⟩
          case measure => simp [intOf]; omega
    · obtain rfl : k = ws.length := by omega
      rw [List.take_length] at How
      go_wp2
      go_ret
      exact ⟨_, rfl, How.out, Hstr.out⟩
end Go.Proofs.YtgkofpfjbjnhfaaDoor
