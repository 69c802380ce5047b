/- The Go functions of bank: where its bytes begin, which are inside, and no bank. -/
import Derived.Test.YtjmgnfpcieofkaaFlash5
import Derived.Test.YtjmgnfpcieofkaaFlashNils
import Derived.Test.YtjmgnfpcieofkaaGBase
import Derived.BigQuiet
namespace Go.Proofs.Ytjmgnfpcieofkaa
open Go.ChangeShapes Go.WideShapes Go.ChangeAt Go.RowKit
set_option linter.unusedVariables false

abbrev bankV (fp : Value) (first : Int) : Value := .agg #[fp, .int .i64 first]
theorem new1 {w : World} {o : Obj} : Below w.heap.size w (w.alloc o) := (Below.refl _ _).alloc (Nat.le_refl _) o

/-- no flash: there is no bank -/
theorem exists_nil (first : Int) (h1 : -9223372036854775808 ≤ first) (h2 : first ≤ 9223372036854775807) (w : World) :
    Calls Try.prog 92 #[bankV fnil first] w fun e w' => e = .returned (.bool false) ∧ Below w.heap.size w w' := by
  have hq := fun n => size_nil 0 0 ((w.alloc (.cells #[fnil, .int .i64 first] 113)).drewN n)
  have Hq := hide hq
  clear hq
  by_cases h0 : 0 ≤ first
  · have hd : decide (first ≤ -16) = false := by simp; omega
    go_enter Try.func92, Try.ntmps92
    go_wp2_with fail
    go_quiet ((go_at_call 14; exact Calls.quiet_of_same ((Hq.out _).mono fun _ _ ⟨h1, h2⟩ => ⟨h1, h2.symm⟩)))
    go_wp2_with fail
    go_ret
    exact ⟨rfl, Below.drewN' new1 _⟩
  · have hd : decide (0 ≤ first) = false := by simp; omega
    go_enter Try.func92, Try.ntmps92
    go_wp2_with fail
    go_quiet (fail)
    go_wp2_with fail
    go_ret
    exact ⟨rfl, Below.drewN' new1 _⟩

theorem inside_no (a n : Int) (w : World) (ha : 0 ≤ a) (ha2 : a ≤ 4096) (hn : 0 ≤ n) (h : n ≤ 4096 - a) :
    Calls Try.prog 93 #[.int .i64 a, .int .i64 n] w fun e w' => e = .returned (.bool true) ∧ w = w' := by
  go_enter Try.func93, Try.ntmps93
  go_wp2_with fail
  go_ret
  exact ⟨rfl, rfl⟩
theorem begin_any (fp : Value) (first : Nat) (h : first ≤ 64) (w : World) :
    Calls Try.prog 94 #[bankV fp first] w fun e w' => e = .returned (.int .i64 ((first * 256 : Nat) : Int)) ∧ Below w.heap.size w w' := by
  go_enter Try.func94, Try.ntmps94
  go_wp2_with fail
  go_ret
  exact ⟨by simp, new1⟩
theorem exists_any (p : Nat) (s : FlS) (F : SP) (w : World) (h : (Flash p s * F).on w) (ok : s.Ok) (first : Nat) (hf : first + 16 ≤ s.worn.length) :
    Calls Try.prog 92 #[bankV (fptr p) first] w fun e w' => e = .returned (.bool true) ∧ Below w.heap.size w w' := by
  have hm := ok.most
  have hp := ok.pages
  have hq := fun n => size_any p s F ((w.alloc (.cells #[fptr p, .int .i64 first] 113)).drewN n) ((h.alloc' _).drewN n) ok
  have Hq := hide hq
  have h256 : s.B.length ≤ 16384 := by omega
  have d0 : decide ((0 : Int) ≤ (first : Int)) = true := by simp
  have e1 : (s.B.length : Int).tdiv 256 = (s.worn.length : Int) := by rw [hp, Int.tdiv_eq_ediv_of_nonneg (by omega)]; omega
  have e2 : IntKind.i64.wrap ((s.worn.length : Int)) = (s.worn.length : Int) := by rw [IntWalk.i64_in _ (by omega)]
  have e3 : IntKind.i64.wrap ((s.worn.length : Int) - 16) = ((s.worn.length - 16 : Nat) : Int) := by rw [IntWalk.i64_in _ (by omega)]; omega
  have d1 : decide (first ≤ s.worn.length - 16) = true := by simp; omega
  clear hq h hm hp
  go_enter Try.func92, Try.ntmps92
  go_wp2_with fail
  go_quiet ((go_at_call 14; exact Calls.quiet_of_same ((Hq.out _).mono fun _ _ ⟨h1, h2⟩ => ⟨h1, h2.symm⟩)))
  go_wp2_with fail
  go_ret
  exact ⟨rfl, Below.drewN' new1 _⟩
theorem bytes_nil (first n : Int) (h1 : -9223372036854775808 ≤ first) (h2 : first ≤ 9223372036854775807) (w : World) :
    Calls Try.prog 63 #[bankV fnil first, .int .i64 0, .int .i64 n] w fun e w' => e = .returned (.tuple #[.slice Option.none 0 0, .int .i64 1]) ∧ Below w.heap.size w w' := by
  go_enter Try.func63, Try.ntmps63
  go_wp2_with fail
  refine (exists_nil first h1 h2 _).mono ?_
  rintro e w1 ⟨rfl, hb1⟩
  go_wp2_with fail
  go_ret2
  exact ⟨rfl, new1.trans (hb1.mono (by simp))⟩
theorem clear_nil (first a b : Int) (h1 : -9223372036854775808 ≤ first) (h2 : first ≤ 9223372036854775807) (w : World) :
    Calls Try.prog 58 #[bankV fnil first, .int .i64 a, .int .i64 b] w fun e w' => e = .returned (.int .i64 1) ∧ Below w.heap.size w w' := by
  go_enter Try.func58, Try.ntmps58
  go_wp2_with fail
  refine (exists_nil first h1 h2 _).mono ?_
  rintro e w1 ⟨rfl, hb1⟩
  go_wp2_with fail
  go_ret
  exact ⟨rfl, new1.trans (hb1.mono (by simp))⟩
theorem write_nil (first a : Int) (h1 : -9223372036854775808 ≤ first) (h2 : first ≤ 9223372036854775807) (v : Value) (w : World) :
    Calls Try.prog 61 #[bankV fnil first, .int .i64 a, v] w fun e w' => e = .returned (.int .i64 1) ∧ Below w.heap.size w w' := by
  go_enter Try.func61, Try.ntmps61
  go_wp2_with fail
  refine (exists_nil first h1 h2 _).mono ?_
  rintro e w1 ⟨rfl, hb1⟩
  go_wp2_with fail
  go_ret
  exact ⟨rfl, new1.trans (hb1.mono (by simp))⟩
end Go.Proofs.Ytjmgnfpcieofkaa
