/- The Go functions of crc: sums of parts. -/
import Derived.Test.YtjmgnfpcieofkaaCrc
import Derived.Test.YtjmgnfpcieofkaaGBase
import Derived.Handy
namespace Go.Proofs.Ytjmgnfpcieofkaa
open Go.ChangeShapes Go.WideShapes Go.ChangeAt Go.RowKit
set_option linter.unusedVariables false

set_option maxRecDepth 100000 in
set_option maxHeartbeats 1000000 in
theorem changed_any (r : Nat) (hr : r < 4294967296) (v : Value) (ls : List (List UInt8)) (w : World) (h : IsRows w v ls) :
    Calls Try.prog 120 #[.int .u32 r, v] w fun e w' => e = .returned (.int .u32 (crcBytes r ls.flatten : Nat)) ∧ Below w.heap.size w w' := by
  obtain ⟨a, c, vs, rfl, hc, hm, hl, hv, hin⟩ := h
  unfold maxLen at hm
  have hz : ∀ w : World, (zeroValue 185).run Try.prog w = .ok (.agg (tabCells 0)) w := fun w => by kernel_rfl
  have hu := Try.underlying185
  have hsz : (Try.prog.info? 185).map (·.size) = some 256 := by kernel_rfl
  have h1 := tabCells_one
  go_enter Try.func120, Try.ntmps120
  go_wp2_with (first
    | (go_at_call 122; refine (all_any _).mono ?_; rintro e w1 ⟨rfl, hb1⟩)
    | (refine wpList_store_row rfl _ _ _ rfl _ (tabCells 256) rfl rfl _ _ (heap_alloc_new _ _) (by rw [tabCells_size]; exact hsz) (by simp [tabCells_size]) h1 ?_))
  have hT : ((w1.alloc (.cells (tabCells 0) 185)).setRow w1.heap.size (tabCells 256)).heap[w1.heap.size]? = some (.cells (tabCells 256) 185 (0, 0)) := setRow_heap_same _ _ _ _ _ _ (heap_alloc_new _ _)
  have hB : Below w.heap.size w ((w1.alloc (.cells (tabCells 0) 185)).setRow w1.heap.size (tabCells 256)) := below_setRow (hb1.alloc hb1.size _) hb1.size _
  generalize (w1.alloc (.cells (tabCells 0) 185)).setRow w1.heap.size (tabCells 256) = W at hT hB
  generalize w1.heap.size = B at hT
  have Hl := hide (hl.below hB)
  have Hin := hide (fun i v l e e' => (hin i v l e e').below hB)
  clear hl hin hz hu hsz h1
  have Hv := hide hv
  clear hv
  have HT := hide hT
  clear hT
  go_loop [0, 13] (fun q i => ∃ k : Nat, k ≤ ls.length ∧ i = .int .i64 k ∧ q = .int .u32 (crcBytes r (ls.take k).flatten : Nat)) (fun _ i => ls.length - (intOf i).toNat)
  case atStart => exact ⟨0, by omega, rfl, rfl⟩
  case round =>
    obtain ⟨k, hk, rfl, rfl⟩ := hrel
    by_cases hlt : k < ls.length
    · have hlv : k < vs.length := by rw [Hv.out]; exact hlt
      obtain ⟨b, off, rfl⟩ := Lay.isAddr Hl.out k hlv
      have hc0 := Lay.cell Hl.out k (List.getElem?_eq_getElem hlv)
      obtain ⟨a2, c2, hv2, hc2, hm2, hl2, _⟩ := Hin.out k vs[k] ls[k] (List.getElem?_eq_getElem hlv) (List.getElem?_eq_getElem hlt)
      rw [hv2] at hc0
      clear hv2
      unfold maxLen at hm2
      have HS := hide (show (ls.take (k + 1)).flatten = (ls.take k).flatten ++ ls[k] by rw [List.take_succ_eq_append_getElem hlt, List.flatten_append]; simp)
      generalize ls[k] = l at hc0 hc2 hl2 HS
      have Hl2 := hide hl2
      have hq := crcBytes_lt hr (ls.take k).flatten
      generalize hqq : crcBytes r (ls.take k).flatten = q at hq
      have Hqq := hide hqq
      clear hl2 hqq
      go_wp2
      go_loop [0, 19] (fun p j => ∃ m : Nat, m ≤ l.length ∧ j = .int .i64 m ∧ p = .int .u32 (crcBytes q (l.take m) : Nat)) (fun _ j => l.length - (intOf j).toNat)
      case atStart => exact ⟨0, by omega, rfl, rfl⟩
      case round =>
        obtain ⟨m, hm, rfl, rfl⟩ := hrel
        by_cases hlm : m < l.length
        · obtain ⟨b2, off2, rfl⟩ := Lay.isAddr Hl2.out m (by simpa using hlm)
          have hc1 := Lay.cell Hl2.out m (vbs_get l m hlm)
          have HS2 := hide (crcBytes_snoc q l m hlm)
          have hp := crcBytes_lt hq (l.take m)
          generalize crcBytes q (l.take m) = p at hp HS2
          have hx := u8lt l[m]
          generalize l[m] = x at hc1 HS2 hx
          have ht : p % 256 ^^^ x.toNat < 256 := Nat.xor_lt_two_pow (n := 8) (by omega) (by omega)
          have e1 : bits .xor .u8 ((p : Int) % 256) ((x.toNat : Nat) : Int) = ((p % 256 ^^^ x.toNat : Nat) : Int) := by
            rw [show ((p : Int) % 256) = ((p % 256 : Nat) : Int) by omega, u8_xor_nat _ _ (by omega) (by omega)]
          have HS3 := hide (show crcByte p x.toNat = (p / 256) ^^^ crcTab (p % 256 ^^^ x.toNat) from rfl)
          have hc2 := cell_of_row W B (p % 256 ^^^ x.toNat) _ _ _ HT.out
          rw [tabCells_get _ _ ht, if_pos ht] at hc2
          have e2 : bits .xor .u32 ((p : Int) / 256) ((crcTab (p % 256 ^^^ x.toNat) : Nat) : Int) = (((p / 256) ^^^ crcTab (p % 256 ^^^ x.toNat) : Nat) : Int) := by
            rw [show ((p : Int) / 256) = ((p / 256 : Nat) : Int) by omega, u32_xor_nat _ _ (by omega) (crcTab_lt (by omega))]
          generalize p % 256 ^^^ x.toNat = t at ht e1 HS3 hc2 e2
          generalize crcTab t = u at HS3 hc2 e2
          go_wp2
          go_round
          case rel => exact ⟨m + 1, by omega, by go_num, by rw [HS2.out, HS3.out]⟩
          case measure => simp [intOf]; omega
        · obtain rfl : m = l.length := by omega
          go_wp2
          go_round
          case rel => exact ⟨k + 1, by omega, by go_num, by rw [HS.out, crcBytes_append, Hqq.out, List.take_length]⟩
          case measure => simp [intOf]; omega
    · obtain rfl : k = ls.length := by omega
      go_wp2
      go_ret
      exact ⟨rfl, hB⟩

def crcUpd (s : Nat) (l : List UInt8) : Nat := 4294967295 - crcBytes (4294967295 - s) l

theorem crcUpd_lt (s : Nat) (l : List UInt8) : crcUpd s l < 4294967296 := by unfold crcUpd; omega

set_option maxHeartbeats 1000000 in
theorem update_any (s : Nat) (hs : s < 4294967296) (v : Value) (l : List UInt8) (w : World) (h : IsBytes w v l) :
    Calls Try.prog 119 #[.int .u32 s, v] w fun e w' => e = .returned (.int .u32 (crcUpd s l : Nat)) ∧ Below w.heap.size w w' := by
  have hr := IsRows.one h 33
  obtain ⟨a, c, rfl, _⟩ := h
  have e1 := not_u32 s hs
  have hq := crcBytes_lt (r := 4294967295 - s) (by omega) l
  have e2 := not_u32 _ hq
  have HU := hide (show crcUpd s l = 4294967295 - crcBytes (4294967295 - s) l from rfl)
  have sg : IntKind.u32.signed = false := rfl
  go_enter Try.func119, Try.ntmps119
  go_wp2_with (go_at_call 120; refine (changed_any (4294967295 - s) (by omega) _ [l] _ hr).mono ?_; simp only [List.flatten_cons, List.flatten_nil, List.append_nil]; rintro e w1 ⟨rfl, hb1⟩)
  go_ret
  exact ⟨by rw [HU.out]; rfl, ((Below.refl _ _).alloc (Nat.le_refl _) _).trans (hb1.mono (by simp))⟩
set_option maxHeartbeats 1000000 in
theorem sum_any (v : Value) (ls : List (List UInt8)) (w : World) (h : IsRows w v ls) :
    Calls Try.prog 112 #[v] w fun e w' => e = .returned (.int .u32 (crcUpd 0 ls.flatten : Nat)) ∧ Below w.heap.size w w' := by
  have h' := h
  obtain ⟨a, c, vs, rfl, _⟩ := h
  have hq := crcBytes_lt (r := 4294967295) (by omega) ls.flatten
  have e2 := not_u32 _ hq
  have HU := hide (show crcUpd 0 ls.flatten = 4294967295 - crcBytes 4294967295 ls.flatten from rfl)
  have sg : IntKind.u32.signed = false := rfl
  go_enter Try.func112, Try.ntmps112
  go_wp2_with (go_at_call 120; refine (changed_any 4294967295 (by omega) _ ls _ h').mono ?_; rintro e w1 ⟨rfl, hb1⟩)
  go_ret
  exact ⟨by rw [HU.out]; rfl, hb1⟩
end Go.Proofs.Ytjmgnfpcieofkaa
