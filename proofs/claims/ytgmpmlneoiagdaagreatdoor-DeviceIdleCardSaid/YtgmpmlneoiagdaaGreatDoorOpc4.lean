/- The Go functions of opcode: numbers as bytes; the chapter's example. -/
import Derived.Test.YtgmpmlneoiagdaaGreatDoorGOpcA
import Derived.Test.YtgmpmlneoiagdaaGreatDoorGRecA
import Derived.Test.YtgmpmlneoiagdaaGreatDoorGRecB
namespace Go.Proofs.YtgmpmlneoiagdaaGreatDoor
open Go.ChangeShapes Go.WideShapes Go.ChangeAt Go.RowKit
set_option linter.unusedVariables false
set_option linter.unusedSimpArgs false

/-- a value reads as numbers -/
def IsWords (w : World) (v : Value) (l : List Nat) : Prop := ∃ a c, v = .slice a l.length c ∧ l.length ≤ c ∧ c ≤ maxLen ∧ Lay w a (l.map u32v) ∧ (a = Option.none → c = 0) ∧ ∀ n ∈ l, n < 4294967296
theorem IsWords.below {w w' : World} {v : Value} {l : List Nat} (h : IsWords w v l) (hb : Below w.heap.size w w') : IsWords w' v l := by
  obtain ⟨a, c, h1, h2, h3, h4, h5⟩ := h
  exact ⟨a, c, h1, h2, h3, h4.below hb, h5⟩
def numsB (l : List Nat) : List UInt8 := l.flatMap wordB
theorem numsB_take (l : List Nat) (k : Nat) (h : k < l.length) : numsB (l.take (k + 1)) = numsB (l.take k) ++ wordB l[k] := by
  unfold numsB
  rw [List.take_succ_eq_append_getElem h, List.flatMap_append]
  simp
theorem numsB_len (l : List Nat) : (numsB l).length = 4 * l.length := by
  induction l with
  | nil => rfl
  | cons n t ih => simp only [numsB, List.flatMap_cons, List.length_append, wordB_len, List.length_cons] at ih ⊢; omega
theorem wordB_cells (n : Nat) (h : n < 4294967296) : (vbs (wordB n)).toArray = #[.int .u8 ((n % 256 : Nat) : Int), .int .u8 ((n / 256 % 256 : Nat) : Int), .int .u8 ((n / 65536 % 256 : Nat) : Int), .int .u8 ((n / 16777216 : Nat) : Int)] := by
  have e : n / 16777216 % 256 = n / 16777216 := Nat.mod_eq_of_lt (by omega)
  simp only [vbs, vb, wordB, b4_toNat, List.map_cons, List.map_nil]
  rw [show 2 ^ (8 * 3) = 16777216 from rfl, e]
  simp

set_option maxRecDepth 100000 in
set_option maxHeartbeats 4000000 in
theorem numbers_any (v : Value) (l : List Nat) (w : World) (h : IsWords w v l) (hlen : l.length ≤ 1000000) :
    Calls Tryz.prog 100 #[v] w (Makes w fun v => ownR v (numsB l)) := by
  have hu := Tryz.underlying22
  have Hh := hide h
  obtain ⟨a, cap, rfl, hc, hm, _, _, hn⟩ := h
  unfold maxLen at hm
  have H0 := hide (own_nil 5 1 (on_all w))
  have Hn := hide hn
  clear hn
  go_enter Tryz.func100, Tryz.ntmps100
  go_wp2_with fail
  go_loopw [3, 8] (fun v i wr => ∃ k : Nat, k ≤ l.length ∧ i = .int .i64 k ∧ (ownR v (numsB (l.take k)) * all w).on wr ∧ Str w wr) (fun _ i _ => l.length - (intOf i).toNat)
  case atStart => exact ⟨0, by omega, rfl, H0.out, Str.refl _⟩
  case round =>
    obtain ⟨k, hk, rfl, how, hstr⟩ := hrel
    by_cases hlt : k < l.length
    · obtain ⟨_, _, e1, _, _, hl, _, _⟩ := Hh.out.below (all_below how.right hstr)
      simp only [Value.slice.injEq] at e1
      obtain ⟨e11, _, e12⟩ := e1
      subst e11 e12
      obtain ⟨bg, bo, rfl⟩ := hl.isAddr k (by simpa using hlt)
      have c1 := Lay.cell hl k (show (l.map u32v)[k]? = some (u32v l[k]) by simp [hlt])
      have HS := hide (numsB_take l k hlt)
      have hn1 := Hn.out l[k] (List.getElem_mem hlt)
      have hl2 : (numsB (l.take k)).length ≤ 4000000 := by rw [numsB_len, List.length_take]; omega
      generalize l[k] = n at *
      have Hv := hide (wordB_cells n hn1)
      generalize numsB (l.take k) = acc at *
      obtain ⟨oa, oc, rfl, _, _, _, _⟩ := own_value how
      have How := hide how
      have Hstr := hide hstr
      have hk0 : (0 : Int) ≤ (k : Int) := by omega
      have hkl : (k : Int) < (l.length : Int) := by omega
      clear how hstr hl
      go_wp2_with (at_builtin; refine wpList_append_bytes (F := all w) rfl _ _ 22 rfl 5 hu infoR _ acc (wordB n) rfl (How.out.alloc' _) _ rfl (by have h1 := IsBytes.new wr (wordB n) (by simp [maxLen, wordB_len]) 5; rw [Hv.out] at h1; exact h1) (by simp [wordB_len]; omega) ?_; intro v2 w2 ho2 hs2; rw [← HS.out] at ho2)
      exact ⟨⟨k + 1, by omega, by simp, ho2, (Hstr.out.alloc _).trans hs2⟩, by simp [intOf]; omega⟩
    · obtain rfl : k = l.length := by omega
      have How := hide how
      have Hstr := hide hstr
      clear how hstr
      go_wp2_with fail
      go_ret
      refine ⟨_, rfl, ?_, Hstr.out⟩
      have h := How.out
      rw [List.take_length] at h
      exact h
end Go.Proofs.YtgmpmlneoiagdaaGreatDoor
