/- LAID TOGETHER: CrcMath, Crc, Crc2, Crc3, CrcFindsMath. -/
import Derived.WalkKit
import Derived.Test.YtgmpmlneoiagdaaGreatDoorRows
import Derived.Test.YtgmpmlneoiagdaaGreatDoorGBase
import Derived.ProofKit
import Derived.OpenShut
import Derived.WalkSpells
import Derived.Handy
/- The check sum: bit by bit, and by a table. Plain numbers; no Go function is spoken of. -/
namespace Go.Proofs.YtgmpmlneoiagdaaGreatDoor

def crcStep (c : Nat) : Nat := if c % 2 = 1 then (c / 2) ^^^ 3988292384 else c / 2
def crcSteps : Nat → Nat → Nat
  | 0, c => c
  | k + 1, c => crcStep (crcSteps k c)
def crcTab (n : Nat) : Nat := crcSteps 8 n
/-- a byte more, by the table -/
def crcByte (r : Nat) (x : Nat) : Nat := (r / 256) ^^^ crcTab ((r % 256) ^^^ x)
def crcBytes (r : Nat) (l : List UInt8) : Nat := l.foldl (fun r x => crcByte r x.toNat) r

theorem crcStep_lt {c : Nat} (h : c < 4294967296) : crcStep c < 4294967296 := by
  unfold crcStep
  split
  · exact Nat.xor_lt_two_pow (n := 32) (by omega) (by omega)
  · omega
theorem crcSteps_lt {c : Nat} (h : c < 4294967296) (k : Nat) : crcSteps k c < 4294967296 := by
  induction k with
  | zero => exact h
  | succ k ih => exact crcStep_lt ih
theorem crcTab_lt {n : Nat} (h : n < 4294967296) : crcTab n < 4294967296 := crcSteps_lt h 8

theorem xor_mod2 (a b : Nat) : (a ^^^ b) % 2 = (a % 2 + b % 2) % 2 := by
  have h := Nat.xor_mod_two_pow (a := a) (b := b) (n := 1)
  simp only [Nat.pow_one] at h
  rw [h]
  rcases Nat.mod_two_eq_zero_or_one a with ha | ha <;> rcases Nat.mod_two_eq_zero_or_one b with hb | hb <;> simp [ha, hb]
theorem xor_div2 (a b : Nat) : (a ^^^ b) / 2 = (a / 2) ^^^ (b / 2) := by
  have h := Nat.xor_div_two_pow (a := a) (b := b) (n := 1)
  simpa using h

theorem crcStep_xor (a b : Nat) : crcStep (a ^^^ b) = crcStep a ^^^ crcStep b := by
  unfold crcStep
  rw [xor_mod2, xor_div2]
  rcases Nat.mod_two_eq_zero_or_one a with ha | ha <;> rcases Nat.mod_two_eq_zero_or_one b with hb | hb <;> simp [ha, hb]
  · rw [Nat.xor_assoc]
  · rw [Nat.xor_assoc, Nat.xor_assoc, Nat.xor_comm (b / 2)]
  · rw [Nat.xor_assoc, Nat.xor_comm 3988292384 (_ ^^^ _), Nat.xor_assoc, Nat.xor_self, Nat.xor_zero]
theorem crcSteps_xor (k a b : Nat) : crcSteps k (a ^^^ b) = crcSteps k a ^^^ crcSteps k b := by
  induction k with
  | zero => rfl
  | succ k ih => simp only [crcSteps, ih, crcStep_xor]
theorem crcSteps_shift (k q : Nat) : crcSteps k (q * 2 ^ k) = q := by
  induction k generalizing q with
  | zero => simp [crcSteps]
  | succ k ih =>
    have : q * 2 ^ (k + 1) = (q * 2) * 2 ^ k := by rw [Nat.pow_succ, Nat.mul_comm (2 ^ k) 2, Nat.mul_assoc]
    rw [crcSteps, this, ih]
    simp [crcStep]
/-- eight steps: by the table -/
theorem crcSteps8 (c : Nat) : crcSteps 8 c = (c / 256) ^^^ crcTab (c % 256) := by
  have h : c = ((c / 256) * 2 ^ 8) ^^^ (c % 256) := by
    have h1 := Nat.xor_div_two_pow (a := (c / 256) * 2 ^ 8) (b := c % 256) (n := 8)
    have h2 := Nat.xor_mod_two_pow (a := (c / 256) * 2 ^ 8) (b := c % 256) (n := 8)
    rw [Nat.mul_div_cancel _ (by decide), show c % 256 / 2 ^ 8 = 0 from Nat.div_eq_of_lt (by omega), Nat.xor_zero] at h1
    rw [Nat.mul_mod_left, Nat.zero_xor, show c % 256 % 2 ^ 8 = c % 256 from Nat.mod_eq_of_lt (by omega)] at h2
    generalize (c / 256 * 2 ^ 8) ^^^ (c % 256) = z at h1 h2 ⊢
    omega
  conv => lhs; rw [h]
  rw [crcSteps_xor, crcSteps_shift, crcTab]
theorem crcByte_steps (r x : Nat) (hx : x < 256) : crcByte r x = crcSteps 8 (r ^^^ x) := by
  rw [crcSteps8, crcByte]
  have h1 := Nat.xor_div_two_pow (a := r) (b := x) (n := 8)
  have h2 := Nat.xor_mod_two_pow (a := r) (b := x) (n := 8)
  simp only [show (2:Nat) ^ 8 = 256 from rfl] at h1 h2
  rw [h1, h2, Nat.div_eq_of_lt hx, Nat.xor_zero, Nat.mod_eq_of_lt hx]

theorem crcByte_lt {r x : Nat} (hr : r < 4294967296) (hx : x < 256) : crcByte r x < 4294967296 := by
  rw [crcByte_steps r x hx]
  exact crcSteps_lt (Nat.xor_lt_two_pow (n := 32) (by omega) (by omega)) 8
theorem u8lt (x : UInt8) : x.toNat < 256 := UInt8.toNat_lt x
theorem crcBytes_lt {r : Nat} (hr : r < 4294967296) (l : List UInt8) : crcBytes r l < 4294967296 := by
  induction l generalizing r with
  | nil => exact hr
  | cons x l ih => exact ih (crcByte_lt hr (u8lt x))
theorem crcBytes_append (r : Nat) (a b : List UInt8) : crcBytes r (a ++ b) = crcBytes (crcBytes r a) b := by simp [crcBytes]
theorem crcBytes_snoc (r : Nat) (l : List UInt8) (k : Nat) (h : k < l.length) : crcBytes r (l.take (k + 1)) = crcByte (crcBytes r (l.take k)) l[k].toNat := by
  rw [List.take_succ_eq_append_getElem h, crcBytes_append]; rfl

end Go.Proofs.YtgmpmlneoiagdaaGreatDoor

/- The Go functions of crc: what each returns. -/
namespace Go.Proofs.YtgmpmlneoiagdaaGreatDoor
open Go.ChangeShapes Go.WideShapes Go.ChangeAt Go.RowKit
set_option linter.unusedVariables false

set_option maxHeartbeats 1000000 in
theorem shifted_any (n : Nat) (h1 : n < 4294967296) (w : World) :
    Calls Tryz.prog 98 #[.int .u32 n] w fun e w' => e = .returned (.int .u32 (crcTab n : Nat)) ∧ w = w' := by
  go_enter Tryz.func98, Tryz.ntmps98
  go_wp2
  go_loop [0, 4] (fun r i => ∃ k : Nat, k ≤ 8 ∧ i = .int .i64 k ∧ r = .int .u32 (crcSteps k n : Nat)) (fun _ i => 8 - (intOf i).toNat)
  case atStart => exact ⟨0, by omega, rfl, rfl⟩
  case round =>
    obtain ⟨k, hk, rfl, rfl⟩ := hrel
    by_cases hlt : k < 8
    · have hb := crcSteps_lt h1 k
      have HS : Hid (crcSteps (k + 1) n = crcStep (crcSteps k n)) := rfl
      generalize crcSteps k n = y at hb HS
      have e1 : bits .and .u32 (y : Int) 1 = ((y % 2 : Nat) : Int) := by
        rw [show (1 : Int) = ((1 : Nat) : Int) from rfl, u32_and_nat y 1 hb (by omega), Nat.and_one_is_mod]
      have e2 : bits .xor .u32 ((y : Int) / 2) 3988292384 = (((y / 2) ^^^ 3988292384 : Nat) : Int) := by
        rw [show (3988292384 : Int) = ((3988292384 : Nat) : Int) from rfl, show ((y : Int) / 2) = ((y / 2 : Nat) : Int) by omega, u32_xor_nat _ _ (by omega) (by omega)]
      rcases Nat.mod_two_eq_zero_or_one y with hm | hm
      · have e3 : ((bits .and .u32 (y : Int) 1) == 1) = false := by rw [e1, hm]; rfl
        clear e1 e2
        go_wp2
        go_round
        case rel => exact ⟨k + 1, by omega, by go_num, by rw [HS.out]; unfold crcStep; rw [if_neg (by omega)]; go_num⟩
        case measure => simp [intOf]; omega
      · have e3 : ((bits .and .u32 (y : Int) 1) == 1) = true := by rw [e1, hm]; rfl
        clear e1
        go_wp2
        go_round
        case rel => exact ⟨k + 1, by omega, by go_num, by rw [HS.out]; unfold crcStep; rw [if_pos (by omega)]⟩
        case measure => simp [intOf]; omega
    · obtain rfl : k = 8 := by omega
      go_wp2
      go_ret
      exact ⟨rfl, rfl⟩

def tabCells (k : Nat) : Array Value := Array.ofFn (n := 256) fun i => .int .u32 ((if i.val < k then crcTab i.val else 0 : Nat) : Int)
theorem tabCells_size (k : Nat) : (tabCells k).size = 256 := by simp [tabCells]
theorem tabCells_get (k i : Nat) (h : i < 256) : (tabCells k)[i]? = some (.int .u32 ((if i < k then crcTab i else 0 : Nat) : Int)) := by
  simp [tabCells, h]
theorem tabCells_one : (tabCells 256).all (·.oneCell') = true := by rw [Array.all_eq_true]; intro i hi; simp [tabCells, Value.oneCell']
theorem tabCells_set (k : Nat) (h : k < 256) : (tabCells k).setIfInBounds k (.int .u32 (crcTab k : Nat)) = tabCells (k + 1) := by
  apply Array.ext (by simp [tabCells])
  intro i h1 h2
  simp only [tabCells, Array.size_ofFn, Array.size_setIfInBounds] at h1 h2
  rw [Array.getElem_setIfInBounds (by simpa [tabCells] using h1)]
  by_cases hi : k = i
  · subst hi; simp [tabCells]
  · have : (i < k) ↔ (i < k + 1) := by omega
    simp [tabCells, hi, this]

theorem tab_keep (w : World) (b i : Nat) (v : Value) (o : Option Obj) (h : w.heap[b]? = o) : (w.setCell ⟨b + 1, i, Option.none⟩ v).heap[b]? = o := by
  rw [heap_setCell_other _ _ _ _ (by simp)]; exact h
theorem tab_next {w : World} {b k : Nat} {t : TypeId} (hk : k < 256) (h : w.heap[b]? = some (.cells (tabCells k) t (0, 0))) :
    (w.setCell ⟨b, k, Option.none⟩ (.int .u32 (crcTab k : Nat))).heap[b]? = some (.cells (tabCells (k + 1)) t (0, 0)) := by
  rw [heap_setCell_same w b k _ t _ h, tabCells_set k hk]
/-- the lowest bit of k, as Go takes it -/
def lowBit (k : Nat) : Nat := (bits .and .i64 (k : Int) (-(k : Int))).toNat
theorem low_all : ∀ k : Nat, k < 256 → 1 ≤ k → bits .and .i64 (k : Int) (-(k : Int)) = (lowBit k : Nat) ∧ 1 ≤ lowBit k ∧ lowBit k ≤ k ∧ k = (k - lowBit k) ^^^ lowBit k := by decide +kernel
theorem low_ok (k : Nat) (h1 : 1 ≤ k) (h2 : k < 256) : bits .and .i64 (k : Int) (-(k : Int)) = (lowBit k : Nat) ∧ 1 ≤ lowBit k ∧ lowBit k ≤ k ∧ crcTab k = crcTab (k - lowBit k) ^^^ crcTab (lowBit k) := by
  obtain ⟨a, b, c, d⟩ := low_all k h2 h1
  refine ⟨a, b, c, ?_⟩
  conv => lhs; rw [d]
  exact crcSteps_xor 8 _ _

set_option maxRecDepth 100000 in
set_option maxHeartbeats 1000000 in
theorem all_any (w : World) :
    Calls Tryz.prog 84 #[] w fun e w' => e = .returned (.agg (tabCells 256)) ∧ Below w.heap.size w w' := by
  have hz : ∀ w : World, (zeroValue 153).run Tryz.prog w = .ok (.agg (tabCells 0)) w := fun w => by kernel_rfl
  go_enter Tryz.func84, Tryz.ntmps84
  go_wp2
  have hB : Below w.heap.size w ((w.alloc (Obj.cells (tabCells 0) 153)).alloc (Obj.cells (tabCells 0) 153)) := ((Below.refl _ _).alloc (Nat.le_refl _) _).alloc (by simp) _
  have hr0 := heap_alloc2_old w (Obj.cells (tabCells 0) 153) (Obj.cells (tabCells 0) 153)
  have hr1 := heap_alloc2_new w (Obj.cells (tabCells 0) 153) (Obj.cells (tabCells 0) 153)
  go_loopw [2] (fun n wr => ∃ k : Nat, 1 ≤ k ∧ k ≤ 256 ∧ n = .int .i64 k ∧ wr.heap[w.heap.size]? = some (.cells (tabCells 0) 153 (0, 0)) ∧ wr.heap[w.heap.size + 1]? = some (.cells (tabCells k) 153 (0, 0)) ∧ Below w.heap.size w wr) (fun n _ => 256 - (intOf n).toNat)
  case atStart => exact ⟨1, by omega, by omega, rfl, hr0, hr1, hB⟩
  case round =>
    obtain ⟨k, hk1, hk2, rfl, hb0, hb1, hbl⟩ := hrel
    clear hr0 hr1 hB
    by_cases hlt : k < 256
    · have hl := low_ok k hk1 hlt
      generalize hlow : lowBit k = low at hl
      obtain ⟨l1, l2, l3, l4⟩ := hl
      clear hlow
      have Hb0 := hide hb0
      have Hb1 := hide hb1
      have Hl := hide l4
      have c0 := cell_of_row wr (w.heap.size + 1) k _ _ _ hb1
      have c1 := cell_of_row wr (w.heap.size + 1) (k - low) _ _ _ hb1
      have c2 := cell_of_row wr (w.heap.size + 1) low _ _ _ hb1
      have fr := frozen_of_row wr (w.heap.size + 1) k _ _ hb1
      rw [tabCells_get _ _ (by omega)] at c0 c1 c2
      clear hb0 hb1 l4
      by_cases hlo : k = low
      · subst hlo
        clear c1 c2
        go_wp2_with (go_at_call 98; refine (shifted_any _ (by omega) _).mono ?_; rintro e w' ⟨rfl, rfl⟩)
        go_roundw
        case rel => exact ⟨k + 1, by omega, by omega, by go_num, tab_keep _ _ _ _ _ Hb0.out, tab_next hlt Hb1.out, hbl.setCell (by simp) _⟩
        case measure => simp [intOf]; omega
      · have Hx := hide (show bits .xor .u32 ((crcTab (k - low) : Nat) : Int) ((crcTab low : Nat) : Int) = ((crcTab (k - low) ^^^ crcTab low : Nat) : Int) from u32_xor_nat _ _ (crcTab_lt (by omega)) (crcTab_lt (by omega)))
        go_wp2_with fail
        go_region
        go_wp2
        go_roundw
        case rel => exact ⟨k + 1, by omega, by omega, by go_num, tab_keep _ _ _ _ _ Hb0.out, by rw [Hx.out, ← Hl.out]; exact tab_next hlt Hb1.out, (hbl.setCell (by simp) _).drew⟩
        case measure => simp [intOf]; omega
    · obtain rfl : k = 256 := by omega
      have hu := Tryz.underlying153
      have hsz : (Tryz.prog.info? 153).map (·.size) = some 256 := by kernel_rfl
      have h1 := tabCells_one
      go_wp2_with (first
        | (refine wpList_load_row rfl _ _ rfl (w.heap.size + 1) rfl _ (tabCells 256) _ _ hb1 hu rfl (by rw [tabCells_size]; exact hsz) ?_)
        | (refine wpList_store_row rfl _ _ _ rfl w.heap.size (tabCells 256) rfl rfl _ _ hb0 (by rw [tabCells_size]; exact hsz) (by simp [tabCells_size]) h1 ?_))
      refine bodyPost_ret (v := .agg (tabCells 256)) (results_cell_row Tryz.results84 _ _ w.heap.size _ (tabCells 256) (0, 0) _ rfl (setRow_heap_same _ _ _ _ _ _ hb0) hu rfl (by rw [tabCells_size]; exact hsz)) rfl ⟨rfl, below_setRow hbl (Nat.le_refl _) _⟩

end Go.Proofs.YtgmpmlneoiagdaaGreatDoor

/- The Go functions of crc: sums of parts. -/
namespace Go.Proofs.YtgmpmlneoiagdaaGreatDoor
open Go.ChangeShapes Go.WideShapes Go.ChangeAt Go.RowKit
set_option linter.unusedVariables false

set_option maxRecDepth 100000 in
set_option maxHeartbeats 1000000 in
theorem changed_any (r : Nat) (hr : r < 4294967296) (v : Value) (ls : List (List UInt8)) (w : World) (h : IsRows w v ls) :
    Calls Tryz.prog 74 #[.int .u32 r, v] w fun e w' => e = .returned (.int .u32 (crcBytes r ls.flatten : Nat)) ∧ Below w.heap.size w w' := by
  obtain ⟨a, c, vs, rfl, hc, hm, hl, hv, hin⟩ := h
  unfold maxLen at hm
  have hz : ∀ w : World, (zeroValue 153).run Tryz.prog w = .ok (.agg (tabCells 0)) w := fun w => by kernel_rfl
  have hu := Tryz.underlying153
  have hsz : (Tryz.prog.info? 153).map (·.size) = some 256 := by kernel_rfl
  have h1 := tabCells_one
  go_enter Tryz.func74, Tryz.ntmps74
  go_wp2_with (first
    | (go_at_call 84; refine (all_any _).mono ?_; rintro e w1 ⟨rfl, hb1⟩)
    | (refine wpList_store_row rfl _ _ _ rfl _ (tabCells 256) rfl rfl _ _ (heap_alloc_new _ _) (by rw [tabCells_size]; exact hsz) (by simp [tabCells_size]) h1 ?_))
  have hT : ((w1.alloc (.cells (tabCells 0) 153)).setRow w1.heap.size (tabCells 256)).heap[w1.heap.size]? = some (.cells (tabCells 256) 153 (0, 0)) := setRow_heap_same _ _ _ _ _ _ (heap_alloc_new _ _)
  have hB : Below w.heap.size w ((w1.alloc (.cells (tabCells 0) 153)).setRow w1.heap.size (tabCells 256)) := below_setRow (hb1.alloc hb1.size _) hb1.size _
  generalize (w1.alloc (.cells (tabCells 0) 153)).setRow w1.heap.size (tabCells 256) = W at hT hB
  generalize w1.heap.size = B at hT
  have Hl := hide (hl.below hB)
  have Hin := hide (fun i v l e e' => (hin i v l e e').below hB)
  clear hl hin hz hu hsz h1
  have Hv := hide hv
  clear hv
  have HT := hide hT
  clear hT
  go_loop [0, 13] (fun q i => ∃ k : Nat, k ≤ ls.length ∧ i = .int .i64 k ∧ q = .int .u32 (crcBytes r (ls.take k).flatten : Nat)) (fun _ i => ls.length - (intOf i).toNat)
  case atStart => exact ⟨0, by omega, rfl, rfl⟩
  case round =>
    obtain ⟨k, hk, rfl, rfl⟩ := hrel
    by_cases hlt : k < ls.length
    · have hlv : k < vs.length := by rw [Hv.out]; exact hlt
      obtain ⟨b, off, rfl⟩ := Lay.isAddr Hl.out k hlv
      have hc0 := Lay.cell Hl.out k (List.getElem?_eq_getElem hlv)
      obtain ⟨a2, c2, hv2, hc2, hm2, hl2, _⟩ := Hin.out k vs[k] ls[k] (List.getElem?_eq_getElem hlv) (List.getElem?_eq_getElem hlt)
      rw [hv2] at hc0
      clear hv2
      unfold maxLen at hm2
      have HS := hide (show (ls.take (k + 1)).flatten = (ls.take k).flatten ++ ls[k] by rw [List.take_succ_eq_append_getElem hlt, List.flatten_append]; simp)
      generalize ls[k] = l at hc0 hc2 hl2 HS
      have Hl2 := hide hl2
      have hq := crcBytes_lt hr (ls.take k).flatten
      generalize hqq : crcBytes r (ls.take k).flatten = q at hq
      have Hqq := hide hqq
      clear hl2 hqq
      go_wp2
      go_loop [0, 19] (fun p j => ∃ m : Nat, m ≤ l.length ∧ j = .int .i64 m ∧ p = .int .u32 (crcBytes q (l.take m) : Nat)) (fun _ j => l.length - (intOf j).toNat)
      case atStart => exact ⟨0, by omega, rfl, rfl⟩
      case round =>
        obtain ⟨m, hm, rfl, rfl⟩ := hrel
        by_cases hlm : m < l.length
        · obtain ⟨b2, off2, rfl⟩ := Lay.isAddr Hl2.out m (by simpa using hlm)
          have hc1 := Lay.cell Hl2.out m (vbs_get l m hlm)
          have HS2 := hide (crcBytes_snoc q l m hlm)
          have hp := crcBytes_lt hq (l.take m)
          generalize crcBytes q (l.take m) = p at hp HS2
          have hx := u8lt l[m]
          generalize l[m] = x at hc1 HS2 hx
          have ht : p % 256 ^^^ x.toNat < 256 := Nat.xor_lt_two_pow (n := 8) (by omega) (by omega)
          have e1 : bits .xor .u8 ((p : Int) % 256) ((x.toNat : Nat) : Int) = ((p % 256 ^^^ x.toNat : Nat) : Int) := by
            rw [show ((p : Int) % 256) = ((p % 256 : Nat) : Int) by omega, u8_xor_nat _ _ (by omega) (by omega)]
          have HS3 := hide (show crcByte p x.toNat = (p / 256) ^^^ crcTab (p % 256 ^^^ x.toNat) from rfl)
          have hc2 := cell_of_row W B (p % 256 ^^^ x.toNat) _ _ _ HT.out
          rw [tabCells_get _ _ ht, if_pos ht] at hc2
          have e2 : bits .xor .u32 ((p : Int) / 256) ((crcTab (p % 256 ^^^ x.toNat) : Nat) : Int) = (((p / 256) ^^^ crcTab (p % 256 ^^^ x.toNat) : Nat) : Int) := by
            rw [show ((p : Int) / 256) = ((p / 256 : Nat) : Int) by omega, u32_xor_nat _ _ (by omega) (crcTab_lt (by omega))]
          generalize p % 256 ^^^ x.toNat = t at ht e1 HS3 hc2 e2
          generalize crcTab t = u at HS3 hc2 e2
          go_wp2
          go_round
          case rel => exact ⟨m + 1, by omega, by go_num, by rw [HS2.out, HS3.out]⟩
          case measure => simp [intOf]; omega
        · obtain rfl : m = l.length := by omega
          go_wp2
          go_round
          case rel => exact ⟨k + 1, by omega, by go_num, by rw [HS.out, crcBytes_append, Hqq.out, List.take_length]⟩
          case measure => simp [intOf]; omega
    · obtain rfl : k = ls.length := by omega
      go_wp2
      go_ret
      exact ⟨rfl, hB⟩

def crcUpd (s : Nat) (l : List UInt8) : Nat := 4294967295 - crcBytes (4294967295 - s) l

theorem crcUpd_lt (s : Nat) (l : List UInt8) : crcUpd s l < 4294967296 := by unfold crcUpd; omega

set_option maxHeartbeats 1000000 in
theorem sum_any (v : Value) (ls : List (List UInt8)) (w : World) (h : IsRows w v ls) :
    Calls Tryz.prog 60 #[v] w fun e w' => e = .returned (.int .u32 (crcUpd 0 ls.flatten : Nat)) ∧ Below w.heap.size w w' := by
  have h' := h
  obtain ⟨a, c, vs, rfl, _⟩ := h
  have hq := crcBytes_lt (r := 4294967295) (by omega) ls.flatten
  have e2 := not_u32 _ hq
  have HU := hide (show crcUpd 0 ls.flatten = 4294967295 - crcBytes 4294967295 ls.flatten from rfl)
  have sg : IntKind.u32.signed = false := rfl
  go_enter Tryz.func60, Tryz.ntmps60
  go_wp2_with (go_at_call 74; refine (changed_any 4294967295 (by omega) _ ls _ h').mono ?_; rintro e w1 ⟨rfl, hb1⟩)
  go_ret
  exact ⟨by rw [HU.out]; rfl, hb1⟩
end Go.Proofs.YtgmpmlneoiagdaaGreatDoor

/- The document's own check sum: bit by bit. -/
namespace Go.Proofs.YtgmpmlneoiagdaaGreatDoor
open Go.ChangeShapes Go.WideShapes Go.ChangeAt Go.RowKit
set_option linter.unusedVariables false

/-- the register behind k bits of a byte x, c having been ahead of it -/
def refBits (c x k : Nat) : Nat := crcSteps k (c ^^^ x) ^^^ (x / 2 ^ k)
theorem refBits_zero (c x : Nat) : refBits c x 0 = c := by
  simp [refBits, crcSteps, Nat.xor_assoc]
theorem refBits_end (c x : Nat) (hx : x < 256) : refBits c x 8 = crcByte c x := by
  rw [crcByte_steps c x hx, refBits, show x / 2 ^ 8 = 0 from Nat.div_eq_of_lt hx, Nat.xor_zero]
theorem refBits_succ (c x k : Nat) : refBits c x (k + 1) = if refBits c x k % 2 ≠ x / 2 ^ k % 2 then (refBits c x k / 2) ^^^ 3988292384 else refBits c x k / 2 := by
  have hy : crcSteps k (c ^^^ x) = refBits c x k ^^^ (x / 2 ^ k) := by rw [refBits, Nat.xor_assoc, Nat.xor_self, Nat.xor_zero]
  rw [refBits, crcSteps, hy]
  generalize refBits c x k = z
  rw [Nat.pow_succ, ← Nat.div_div_eq_div_mul]
  generalize x / 2 ^ k = y
  unfold crcStep
  rw [xor_mod2, xor_div2]
  rcases Nat.mod_two_eq_zero_or_one z with ha | ha <;> rcases Nat.mod_two_eq_zero_or_one y with hb | hb <;> simp [ha, hb]
  · rw [Nat.xor_assoc, Nat.xor_self, Nat.xor_zero]
  · rw [Nat.xor_assoc, Nat.xor_assoc, Nat.xor_comm (y / 2), Nat.xor_assoc, Nat.xor_self, Nat.xor_zero]
  · rw [Nat.xor_assoc, Nat.xor_assoc, Nat.xor_comm (y / 2), Nat.xor_assoc, Nat.xor_self, Nat.xor_zero]
  · rw [Nat.xor_assoc, Nat.xor_self, Nat.xor_zero]
theorem refBits_lt {c x : Nat} (hc : c < 4294967296) (hx : x < 256) (k : Nat) : refBits c x k < 4294967296 := by
  have h1 := crcSteps_lt (c := c ^^^ x) (Nat.xor_lt_two_pow (n := 32) (by omega) (by omega)) k
  have h2 : x / 2 ^ k ≤ x := Nat.div_le_self _ _
  exact Nat.xor_lt_two_pow (n := 32) (by omega) (by omega)

set_option maxHeartbeats 1000000 in
theorem refUpdate_any (s : Nat) (hs : s < 4294967296) (v : Value) (l : List UInt8) (w : World) (h : IsBytes w v l) :
    Calls Tryz.prog 9 #[.int .u32 s, v] w fun e w' => e = .returned (.int .u32 (crcUpd s l : Nat)) ∧ w = w' := by
  obtain ⟨a, c, rfl, hc, hm, hl, _⟩ := h
  unfold maxLen at hm
  have Hl := hide hl
  clear hl
  go_enter Tryz.func9, Tryz.ntmps9
  go_wp2
  go_loop [5, 6] (fun q i => ∃ k : Nat, k ≤ l.length ∧ i = .int .i64 k ∧ q = .int .u32 (crcBytes (4294967295 - s) (l.take k) : Nat)) (fun _ i => l.length - (intOf i).toNat)
  case atStart => exact ⟨0, by omega, rfl, by simp [crcBytes]; omega⟩
  case round =>
    obtain ⟨k, hk, rfl, rfl⟩ := hrel
    by_cases hlt : k < l.length
    · obtain ⟨b, off, rfl⟩ := Lay.isAddr Hl.out k (by simpa using hlt)
      have hc1 := Lay.cell Hl.out k (vbs_get l k hlt)
      have HS := hide (crcBytes_snoc (4294967295 - s) l k hlt)
      have hq := crcBytes_lt (r := 4294967295 - s) (by omega) (l.take k)
      generalize crcBytes (4294967295 - s) (l.take k) = q at hq HS
      have hx := u8lt l[k]
      generalize l[k] = xx at hc1 HS hx
      go_wp2
      go_loop [5, 7] (fun p j => ∃ m : Nat, m ≤ 8 ∧ j = .int .i64 m ∧ p = .int .u32 (refBits q xx.toNat m : Nat)) (fun _ j => 8 - (intOf j).toNat)
      case atStart => exact ⟨0, by omega, rfl, by rw [refBits_zero]⟩
      case round =>
        obtain ⟨m, hm', rfl, rfl⟩ := hrel
        by_cases hlm : m < 8
        · have hr := refBits_lt (c := q) hq hx m
          have hS := hide (refBits_succ q xx.toNat m)
          have hy : xx.toNat / 2 ^ m ≤ xx.toNat := Nat.div_le_self _ _
          have hp : ((xx.toNat : Int) / 2 ^ m) = ((xx.toNat / 2 ^ m : Nat) : Int) := by simp
          generalize refBits q xx.toNat m = z at hr hS
          generalize xx.toNat / 2 ^ m = y at hS hy hp
          have e2 : bits .xor .u32 ((z : Int) / 2) 3988292384 = (((z / 2) ^^^ 3988292384 : Nat) : Int) := by
            rw [show (3988292384 : Int) = ((3988292384 : Nat) : Int) from rfl, show ((z : Int) / 2) = ((z / 2 : Nat) : Int) by omega, u32_xor_nat _ _ (by omega) (by omega)]
          by_cases hne : z % 2 = y % 2
          · have e3 : ((z : Int) % 2 != (y : Int) % 2) = false := by rw [bne_eq_false_iff_eq]; omega
            go_wp2
            go_round
            case rel => exact ⟨m + 1, by omega, by go_num, by rw [hS.out, if_neg (by omega)]; go_num⟩
            case measure => simp [intOf]; omega
          · have e3 : ((z : Int) % 2 != (y : Int) % 2) = true := by rw [bne_iff_ne]; omega
            go_wp2
            go_round
            case rel => exact ⟨m + 1, by omega, by go_num, by rw [hS.out, if_pos (by omega)]⟩
            case measure => simp [intOf]; omega
        · obtain rfl : m = 8 := by omega
          go_wp2
          go_round
          case rel => exact ⟨k + 1, by omega, by go_num, by rw [HS.out, refBits_end _ _ hx]⟩
          case measure => simp [intOf]; omega
    · obtain rfl : k = l.length := by omega
      have hq := crcBytes_lt (r := 4294967295 - s) (by omega) l
      have HU := hide (show crcUpd s l = 4294967295 - crcBytes (4294967295 - s) l from rfl)
      have HT := hide (List.take_length (l := l))
      rw [HT.out]
      generalize crcBytes (4294967295 - s) l = z at hq HU
      go_wp2
      go_ret
      refine ⟨?_, rfl⟩
      rw [HU.out]
      simp
      omega
end Go.Proofs.YtgmpmlneoiagdaaGreatDoor

/- A burst of turned bits changes the check sum. Plain numbers; no Go function is spoken of. -/
namespace Go.Proofs.YtgmpmlneoiagdaaGreatDoor

end Go.Proofs.YtgmpmlneoiagdaaGreatDoor
