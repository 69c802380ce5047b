/- Numbers of limbs of sixty-four bits; the library's sums and differences with a carry. -/
import Derived.Test.YtgkofpfjbjnhfaaDoorRows
import Derived.Test.YtgkofpfjbjnhfaaDoorOwn
import Derived.Test.YtgkofpfjbjnhfaaDoorPart
import Derived.Test.YtgkofpfjbjnhfaaDoorOpen
import Derived.Laws.Externs
namespace Go.Proofs.YtgkofpfjbjnhfaaDoor
open Go.ChangeShapes Go.WideShapes Go.ChangeAt Go.RowKit
set_option linter.unusedVariables false
set_option linter.unusedSimpArgs false

abbrev lv (x : Nat) : Value := .int .u64 (x : Int)
def limb (n i : Nat) : Nat := n / 18446744073709551616 ^ i % 18446744073709551616
theorem limb_lt (n i : Nat) : limb n i < 18446744073709551616 := Nat.mod_lt _ (by decide)
/-- the limbs -/
def qs (m n : Nat) : List Nat := (List.range m).map (limb n)
theorem qs_len (m n : Nat) : (qs m n).length = m := by simp [qs]
theorem qs_get (m n k : Nat) (h : k < m) : (qs m n)[k]? = some (limb n k) := by simp [qs, h]
def lvs (l : List Nat) : Array Value := (l.map lv).toArray
theorem lvs_size (l : List Nat) : (lvs l).size = l.length := by simp [lvs]
theorem lvs_one (l : List Nat) : (lvs l).all (·.oneCell') = true := by
  rw [Array.all_eq_true_iff_forall_mem]
  intro x hx
  simp only [lvs, List.mem_toArray, List.mem_map] at hx
  obtain ⟨y, _, rfl⟩ := hx
  rfl
theorem lvs_get (l : List Nat) (k x : Nat) (h : l[k]? = some x) : (lvs l)[k]? = some (lv x) := by simp [lvs, h]
theorem lvs_set (l : List Nat) (k x : Nat) : (lvs l).setIfInBounds k (lv x) = lvs (l.set k x) := by
  unfold lvs
  rw [List.setIfInBounds_toArray, ← List.map_set]
abbrev q4 (n : Nat) : Array Value := lvs (qs 4 n)
theorem q4_size (n : Nat) : (q4 n).size = 4 := by rw [lvs_size, qs_len]
theorem set_takeN {α : Type} (s z : List α) (k : Nat) (x : α) (hx : s[k]? = some x) (hz : k < z.length) : (s.take k ++ z.drop k).set k x = s.take (k + 1) ++ z.drop (k + 1) := by
  obtain ⟨hs, rfl⟩ := List.getElem?_eq_some_iff.1 hx
  have hl : (s.take k).length = k := by rw [List.length_take]; omega
  rw [List.set_append_right _ _ (by omega), hl, Nat.sub_self, List.drop_eq_getElem_cons hz, List.set_cons_zero, List.take_succ_eq_append_getElem hs, List.append_assoc]
  rfl
/-- the borrow ahead of a limb -/
def br (a o k : Nat) : Nat := if a % 18446744073709551616 ^ k < o % 18446744073709551616 ^ k then 1 else 0
theorem br_le (a o k : Nat) : br a o k ≤ 1 := by unfold br; split <;> omega
theorem lt_split (M r s x y : Nat) (hr : r < M) (hs : s < M) : r + M * x < s + M * y ↔ x < y + (if r < s then 1 else 0) := by
  rcases Nat.lt_trichotomy x y with h | h | h
  · have h1 : M * (x + 1) ≤ M * y := Nat.mul_le_mul_left _ h
    rw [Nat.mul_add, Nat.mul_one] at h1
    constructor
    · intro _; omega
    · intro _; omega
  · subst h
    split <;> omega
  · have h1 : M * (y + 1) ≤ M * x := Nat.mul_le_mul_left _ h
    rw [Nat.mul_add, Nat.mul_one] at h1
    constructor
    · intro _; omega
    · intro h2; split at h2 <;> omega
theorem br_step (a o k : Nat) : br a o (k + 1) = if limb a k < limb o k + br a o k then 1 else 0 := by
  unfold br limb
  rw [Nat.mod_pow_succ, Nat.mod_pow_succ]
  have hM : 0 < 18446744073709551616 ^ k := Nat.pow_pos (by decide)
  have := lt_split (18446744073709551616 ^ k) (a % 18446744073709551616 ^ k) (o % 18446744073709551616 ^ k) (a / 18446744073709551616 ^ k % 18446744073709551616) (o / 18446744073709551616 ^ k % 18446744073709551616) (Nat.mod_lt _ hM) (Nat.mod_lt _ hM)
  simp only [this]
theorem sub_limb (a o : Nat) (ha : a < 18446744073709551616 ^ 4) (ho : o < 18446744073709551616 ^ 4) (k : Nat) (hk : k < 4) : limb (a + 18446744073709551616 ^ 4 - o) k = (limb a k + 18446744073709551616 - limb o k - br a o k) % 18446744073709551616 := by
  have h0 : limb (a + 18446744073709551616 ^ 4 - o) 0 = (limb a 0 + 18446744073709551616 - limb o 0 - br a o 0) % 18446744073709551616 := by
    unfold limb br; simp only [Nat.reducePow]; simp only [Nat.reducePow] at ha ho; split <;> omega
  have h1 : limb (a + 18446744073709551616 ^ 4 - o) 1 = (limb a 1 + 18446744073709551616 - limb o 1 - br a o 1) % 18446744073709551616 := by
    unfold limb br; simp only [Nat.reducePow]; simp only [Nat.reducePow] at ha ho; split <;> omega
  have h2 : limb (a + 18446744073709551616 ^ 4 - o) 2 = (limb a 2 + 18446744073709551616 - limb o 2 - br a o 2) % 18446744073709551616 := by
    unfold limb br; simp only [Nat.reducePow]; simp only [Nat.reducePow] at ha ho; split <;> omega
  have h3 : limb (a + 18446744073709551616 ^ 4 - o) 3 = (limb a 3 + 18446744073709551616 - limb o 3 - br a o 3) % 18446744073709551616 := by
    unfold limb br; simp only [Nat.reducePow]; simp only [Nat.reducePow] at ha ho; split <;> omega
  match k, hk with
  | 0, _ => exact h0
  | 1, _ => exact h1
  | 2, _ => exact h2
  | 3, _ => exact h3
theorem br_end (a o : Nat) (ha : a < 18446744073709551616 ^ 4) (ho : o < 18446744073709551616 ^ 4) : br a o 4 = if a < o then 1 else 0 := by
  unfold br
  rw [Nat.mod_eq_of_lt ha, Nat.mod_eq_of_lt ho]
theorem q4_sub (a o : Nat) (ha : a < 18446744073709551616 ^ 4) (ho : o ≤ a) : qs 4 (a + 18446744073709551616 ^ 4 - o) = qs 4 (a - o) := by
  unfold qs
  apply List.map_congr_left
  intro i hi
  have hi : i < 4 := List.mem_range.1 hi
  unfold limb
  match i, hi with
  | 0, _ => simp only [Nat.reducePow]; simp only [Nat.reducePow] at ha; omega
  | 1, _ => simp only [Nat.reducePow]; simp only [Nat.reducePow] at ha; omega
  | 2, _ => simp only [Nat.reducePow]; simp only [Nat.reducePow] at ha; omega
  | 3, _ => simp only [Nat.reducePow]; simp only [Nat.reducePow] at ha; omega

theorem sub64_run (x y b : Nat) (hb : b ≤ 1) (w : World) :
    (callFunc 82 #[.int .u64 x, .int .u64 y, .int .u64 b]).run Tryd.prog w =
      .ok (.value (.tuple #[.int .u64 (((x + 18446744073709551616 - y - b) % 18446744073709551616 : Nat) : Int), .int .u64 ((if x < y + b then 1 else 0 : Nat) : Int)])) w := by
  rw [run_callFunc_extern Tryd.func82 (by kernel_rfl) (by kernel_rfl) (by kernel_rfl) (e := (Extern.MathBitsCarry.rows[1]'(by decide)).2) (by kernel_rfl)]
  have : b = 0 ∨ b = 1 := by omega
  rcases this with rfl | rfl <;> rfl
theorem add64_run (x y c : Nat) (hc : c ≤ 1) (w : World) :
    (callFunc 66 #[.int .u64 x, .int .u64 y, .int .u64 c]).run Tryd.prog w =
      .ok (.value (.tuple #[.int .u64 (((x + y + c) % 18446744073709551616 : Nat) : Int), .int .u64 (((x + y + c) / 18446744073709551616 : Nat) : Int)])) w := by
  rw [run_callFunc_extern Tryd.func66 (by kernel_rfl) (by kernel_rfl) (by kernel_rfl) (e := (Extern.MathBitsCarry.rows[0]'(by decide)).2) (by kernel_rfl)]
  have : c = 0 ∨ c = 1 := by omega
  rcases this with rfl | rfl <;> rfl
end Go.Proofs.YtgkofpfjbjnhfaaDoor
