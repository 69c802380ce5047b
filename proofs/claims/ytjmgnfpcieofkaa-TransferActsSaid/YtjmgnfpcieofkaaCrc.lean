/- The Go functions of crc: what each returns. -/
import Derived.Test.YtjmgnfpcieofkaaRows
import Derived.Test.YtjmgnfpcieofkaaGBase
import Derived.Test.YtjmgnfpcieofkaaCrcMath
import Derived.WalkKit
import Derived.ProofKit
import Derived.OpenShut
import Derived.WalkSpells
namespace Go.Proofs.Ytjmgnfpcieofkaa
open Go.ChangeShapes Go.WideShapes Go.ChangeAt Go.RowKit
set_option linter.unusedVariables false

theorem beq_int_nat (a b : Nat) : ((a : Int) == (b : Int)) = (a == b) := by
  rw [Bool.eq_iff_iff]; simp; omega

set_option maxHeartbeats 1000000 in
theorem shifted_any (n : Nat) (h1 : n < 4294967296) (w : World) :
    Calls Try.prog 123 #[.int .u32 n] w fun e w' => e = .returned (.int .u32 (crcTab n : Nat)) ∧ w = w' := by
  go_enter Try.func123, Try.ntmps123
  go_wp2
  go_loop [0, 4] (fun r i => ∃ k : Nat, k ≤ 8 ∧ i = .int .i64 k ∧ r = .int .u32 (crcSteps k n : Nat)) (fun _ i => 8 - (intOf i).toNat)
  case atStart => exact ⟨0, by omega, rfl, rfl⟩
  case round =>
    obtain ⟨k, hk, rfl, rfl⟩ := hrel
    by_cases hlt : k < 8
    · have hb := crcSteps_lt h1 k
      have HS : Hid (crcSteps (k + 1) n = crcStep (crcSteps k n)) := rfl
      generalize crcSteps k n = y at hb HS
      have e1 : bits .and .u32 (y : Int) 1 = ((y % 2 : Nat) : Int) := by
        rw [show (1 : Int) = ((1 : Nat) : Int) from rfl, u32_and_nat y 1 hb (by omega), Nat.and_one_is_mod]
      have e2 : bits .xor .u32 ((y : Int) / 2) 3988292384 = (((y / 2) ^^^ 3988292384 : Nat) : Int) := by
        rw [show (3988292384 : Int) = ((3988292384 : Nat) : Int) from rfl, show ((y : Int) / 2) = ((y / 2 : Nat) : Int) by omega, u32_xor_nat _ _ (by omega) (by omega)]
      rcases Nat.mod_two_eq_zero_or_one y with hm | hm
      · have e3 : ((bits .and .u32 (y : Int) 1) == 1) = false := by rw [e1, hm]; rfl
        clear e1 e2
        go_wp2
        go_round
        case rel => exact ⟨k + 1, by omega, by go_num, by rw [HS.out]; unfold crcStep; rw [if_neg (by omega)]; go_num⟩
        case measure => simp [intOf]; omega
      · have e3 : ((bits .and .u32 (y : Int) 1) == 1) = true := by rw [e1, hm]; rfl
        clear e1
        go_wp2
        go_round
        case rel => exact ⟨k + 1, by omega, by go_num, by rw [HS.out]; unfold crcStep; rw [if_pos (by omega)]⟩
        case measure => simp [intOf]; omega
    · obtain rfl : k = 8 := by omega
      go_wp2
      go_ret
      exact ⟨rfl, rfl⟩

def tabCells (k : Nat) : Array Value := Array.ofFn (n := 256) fun i => .int .u32 ((if i.val < k then crcTab i.val else 0 : Nat) : Int)
theorem tabCells_size (k : Nat) : (tabCells k).size = 256 := by simp [tabCells]
theorem tabCells_get (k i : Nat) (h : i < 256) : (tabCells k)[i]? = some (.int .u32 ((if i < k then crcTab i else 0 : Nat) : Int)) := by
  simp [tabCells, h]
theorem tabCells_one : (tabCells 256).all (·.oneCell') = true := by rw [Array.all_eq_true]; intro i hi; simp [tabCells, Value.oneCell']
theorem tabCells_set (k : Nat) (h : k < 256) : (tabCells k).setIfInBounds k (.int .u32 (crcTab k : Nat)) = tabCells (k + 1) := by
  apply Array.ext (by simp [tabCells])
  intro i h1 h2
  simp only [tabCells, Array.size_ofFn, Array.size_setIfInBounds] at h1 h2
  rw [Array.getElem_setIfInBounds (by simpa [tabCells] using h1)]
  by_cases hi : k = i
  · subst hi; simp [tabCells]
  · have : (i < k) ↔ (i < k + 1) := by omega
    simp [tabCells, hi, this]

theorem tab_keep (w : World) (b i : Nat) (v : Value) (o : Option Obj) (h : w.heap[b]? = o) : (w.setCell ⟨b + 1, i, Option.none⟩ v).heap[b]? = o := by
  rw [heap_setCell_other _ _ _ _ (by simp)]; exact h
theorem tab_next {w : World} {b k : Nat} {t : TypeId} (hk : k < 256) (h : w.heap[b]? = some (.cells (tabCells k) t (0, 0))) :
    (w.setCell ⟨b, k, Option.none⟩ (.int .u32 (crcTab k : Nat))).heap[b]? = some (.cells (tabCells (k + 1)) t (0, 0)) := by
  rw [heap_setCell_same w b k _ t _ h, tabCells_set k hk]
/-- the lowest bit of k, as Go takes it -/
def lowBit (k : Nat) : Nat := (bits .and .i64 (k : Int) (-(k : Int))).toNat
theorem low_all : ∀ k : Nat, k < 256 → 1 ≤ k → bits .and .i64 (k : Int) (-(k : Int)) = (lowBit k : Nat) ∧ 1 ≤ lowBit k ∧ lowBit k ≤ k ∧ k = (k - lowBit k) ^^^ lowBit k := by decide +kernel
theorem low_ok (k : Nat) (h1 : 1 ≤ k) (h2 : k < 256) : bits .and .i64 (k : Int) (-(k : Int)) = (lowBit k : Nat) ∧ 1 ≤ lowBit k ∧ lowBit k ≤ k ∧ crcTab k = crcTab (k - lowBit k) ^^^ crcTab (lowBit k) := by
  obtain ⟨a, b, c, d⟩ := low_all k h2 h1
  refine ⟨a, b, c, ?_⟩
  conv => lhs; rw [d]
  exact crcSteps_xor 8 _ _

set_option maxRecDepth 100000 in
set_option maxHeartbeats 1000000 in
theorem all_any (w : World) :
    Calls Try.prog 122 #[] w fun e w' => e = .returned (.agg (tabCells 256)) ∧ Below w.heap.size w w' := by
  have hz : ∀ w : World, (zeroValue 185).run Try.prog w = .ok (.agg (tabCells 0)) w := fun w => by kernel_rfl
  go_enter Try.func122, Try.ntmps122
  go_wp2
  have hB : Below w.heap.size w ((w.alloc (Obj.cells (tabCells 0) 185)).alloc (Obj.cells (tabCells 0) 185)) := ((Below.refl _ _).alloc (Nat.le_refl _) _).alloc (by simp) _
  have hr0 := heap_alloc2_old w (Obj.cells (tabCells 0) 185) (Obj.cells (tabCells 0) 185)
  have hr1 := heap_alloc2_new w (Obj.cells (tabCells 0) 185) (Obj.cells (tabCells 0) 185)
  go_loopw [2] (fun n wr => ∃ k : Nat, 1 ≤ k ∧ k ≤ 256 ∧ n = .int .i64 k ∧ wr.heap[w.heap.size]? = some (.cells (tabCells 0) 185 (0, 0)) ∧ wr.heap[w.heap.size + 1]? = some (.cells (tabCells k) 185 (0, 0)) ∧ Below w.heap.size w wr) (fun n _ => 256 - (intOf n).toNat)
  case atStart => exact ⟨1, by omega, by omega, rfl, hr0, hr1, hB⟩
  case round =>
    obtain ⟨k, hk1, hk2, rfl, hb0, hb1, hbl⟩ := hrel
    clear hr0 hr1 hB
    by_cases hlt : k < 256
    · have hl := low_ok k hk1 hlt
      generalize hlow : lowBit k = low at hl
      obtain ⟨l1, l2, l3, l4⟩ := hl
      clear hlow
      have Hb0 := hide hb0
      have Hb1 := hide hb1
      have Hl := hide l4
      have c0 := cell_of_row wr (w.heap.size + 1) k _ _ _ hb1
      have c1 := cell_of_row wr (w.heap.size + 1) (k - low) _ _ _ hb1
      have c2 := cell_of_row wr (w.heap.size + 1) low _ _ _ hb1
      have fr := frozen_of_row wr (w.heap.size + 1) k _ _ hb1
      rw [tabCells_get _ _ (by omega)] at c0 c1 c2
      clear hb0 hb1 l4
      by_cases hlo : k = low
      · subst hlo
        clear c1 c2
        go_wp2_with (go_at_call 123; refine (shifted_any _ (by omega) _).mono ?_; rintro e w' ⟨rfl, rfl⟩)
        go_roundw
        case rel => exact ⟨k + 1, by omega, by omega, by go_num, tab_keep _ _ _ _ _ Hb0.out, tab_next hlt Hb1.out, hbl.setCell (by simp) _⟩
        case measure => simp [intOf]; omega
      · have Hx := hide (show bits .xor .u32 ((crcTab (k - low) : Nat) : Int) ((crcTab low : Nat) : Int) = ((crcTab (k - low) ^^^ crcTab low : Nat) : Int) from u32_xor_nat _ _ (crcTab_lt (by omega)) (crcTab_lt (by omega)))
        go_wp2_with fail
        go_region
        go_wp2
        go_roundw
        case rel => exact ⟨k + 1, by omega, by omega, by go_num, tab_keep _ _ _ _ _ Hb0.out, by rw [Hx.out, ← Hl.out]; exact tab_next hlt Hb1.out, (hbl.setCell (by simp) _).drew⟩
        case measure => simp [intOf]; omega
    · obtain rfl : k = 256 := by omega
      have hu := Try.underlying185
      have hsz : (Try.prog.info? 185).map (·.size) = some 256 := by kernel_rfl
      have h1 := tabCells_one
      go_wp2_with (first
        | (refine wpList_load_row rfl _ _ rfl (w.heap.size + 1) rfl _ (tabCells 256) _ _ hb1 hu rfl (by rw [tabCells_size]; exact hsz) ?_)
        | (refine wpList_store_row rfl _ _ _ rfl w.heap.size (tabCells 256) rfl rfl _ _ hb0 (by rw [tabCells_size]; exact hsz) (by simp [tabCells_size]) h1 ?_))
      refine bodyPost_ret (v := .agg (tabCells 256)) (results_cell_row Try.results122 _ _ w.heap.size _ (tabCells 256) (0, 0) _ rfl (setRow_heap_same _ _ _ _ _ _ hb0) hu rfl (by rw [tabCells_size]; exact hsz)) rfl ⟨rfl, below_setRow hbl (Nat.le_refl _) _⟩

end Go.Proofs.Ytjmgnfpcieofkaa
