/- More Go functions of flash: a new one, Fail, Power, Off, Read. -/
import Derived.Test.YtjmgnfpcieofkaaFlash2
namespace Go.Proofs.Ytjmgnfpcieofkaa
open Go.ChangeShapes Go.WideShapes Go.ChangeAt Go.RowKit
set_option linter.unusedVariables false

abbrev fptr (p : Nat) : Value := .pointer (some ⟨p, 0, Option.none⟩)
theorem frz0 {b : Nat} {i : Nat} {c : Array Value} {t : TypeId} {w : World} (h : w.heap[b]? = some (.cells c t (0, 0))) : w.frozen? ⟨b, i, Option.none⟩ = false := frozen_of_row w b i _ _ h

set_option maxHeartbeats 1000000 in
theorem fail_any (p : Nat) (s : FlS) (F : SP) (w : World) (h : (Flash p s * F).on w) (n t : Nat) :
    Calls Try.prog 16 #[fptr p, .int .i64 n, .int .u32 t] w fun e w' => e = .returned (.int .i64 0) ∧ (Flash p { s with armed := true, left := n, tear := t } * F).on w' ∧ Str w w' := by
  obtain ⟨vb, vw, h⟩ := Flash.open h
  have hb := on_blk_mul h
  have c6 := cell_of_row w p 6 _ _ _ hb
  have c7 := cell_of_row w p 7 _ _ _ hb
  have c8 := cell_of_row w p 8 _ _ _ hb
  have fr := fun j => frozen_of_row w p j _ _ hb
  simp only [flCells] at c6 c7 c8
  have H := hide h
  clear h hb
  go_enter Try.func16, Try.ntmps16
  go_wp2
  go_ret
  refine ⟨rfl, Flash.shut (vb := vb) (vw := vw) ?_, (((Str.refl _).setCell _ _).setCell _ _).setCell _ _⟩
  exact ((H.out.setCell (i := 6) _).setCell (i := 7) _).setCell (i := 8) _

set_option maxHeartbeats 1000000 in
theorem power_any (p : Nat) (s : FlS) (F : SP) (w : World) (h : (Flash p s * F).on w) :
    Calls Try.prog 12 #[fptr p] w fun e w' => (∃ v, e = .returned v) ∧ (Flash p { s with off := false, armed := false } * F).on w' ∧ Str w w' := by
  obtain ⟨vb, vw, h⟩ := Flash.open h
  have hb := on_blk_mul h
  have c5 := cell_of_row w p 5 _ _ _ hb
  have c6 := cell_of_row w p 6 _ _ _ hb
  have fr := fun j => frozen_of_row w p j _ _ hb
  simp only [flCells] at c5 c6
  have H := hide h
  clear h hb
  go_enter Try.func12, Try.ntmps12
  go_wp2
  go_end0
  refine ⟨⟨_, rfl⟩, Flash.shut (vb := vb) (vw := vw) ?_, ((Str.refl _).setCell _ _).setCell _ _⟩
  exact (H.out.setCell (i := 5) _).setCell (i := 6) _

set_option maxHeartbeats 1000000 in
theorem off_any (p : Nat) (s : FlS) (F : SP) (w : World) (h : (Flash p s * F).on w) :
    Calls Try.prog 85 #[fptr p] w fun e w' => e = .returned (.bool s.off) ∧ w = w' := by
  obtain ⟨vb, vw, h⟩ := Flash.open h
  have hb := on_blk_mul h
  have c5 := cell_of_row w p 5 _ _ _ hb
  simp only [flCells] at c5
  clear hb h
  go_enter Try.func85, Try.ntmps85
  go_wp2
  go_ret
  exact ⟨rfl, rfl⟩

set_option maxHeartbeats 1000000 in
theorem size_any (p : Nat) (s : FlS) (F : SP) (w : World) (h : (Flash p s * F).on w) (ok : s.Ok) :
    Calls Try.prog 14 #[fptr p] w fun e w' => e = .returned (.int .i64 s.B.length) ∧ w = w' := by
  obtain ⟨g, cap, vw, hc1, hc2, h⟩ := Flash.parts h ok
  have hb := on_blk_mul h
  have c0 := cell_of_row w p 0 _ _ _ hb
  simp only [flCells] at c0
  clear hb h
  go_enter Try.func14, Try.ntmps14
  go_wp2
  go_ret
  exact ⟨rfl, rfl⟩

theorem infoByte : (Try.prog.info? 5).map (fun i => (i.zero, i.size, i.bytes)) = some (some (.int .u8 0), 1, 1) := by kernel_rfl
theorem IsBytes.none (w : World) (g x c : Nat) (hc : c ≤ maxLen) : IsBytes w (.slice (some ⟨g, x, Option.none⟩) 0 c) [] := ⟨_, c, rfl, Nat.zero_le _, hc, Lay.nil _ _, by simp⟩
theorem IsBytes.part {w : World} {g n cap : Nat} {l : List UInt8} (h : IsBytes w (.slice (some ⟨g, 0, Option.none⟩) n cap) l) (a k : Nat) (hk : a + k ≤ l.length) : IsBytes w (.slice (some ⟨g, a, Option.none⟩) k (cap - a)) ((l.drop a).take k) := by
  obtain ⟨ad, c, e, h1, h2, h3, _⟩ := h
  simp only [Value.slice.injEq] at e
  obtain ⟨rfl, rfl, rfl⟩ := e
  refine ⟨_, _, by rw [List.length_take, List.length_drop, Nat.min_eq_left (by omega)], by simp; omega, by omega, ?_, by simp⟩
  have := (h3.drop a).take k
  simpa [vbs] using this

/-- what is read -/
def readQ (l : List UInt8) (v : Value) : SP := ex fun x : Value => pure (v = .tuple #[x, .int .i64 0]) * ownBy x l
theorem readQ.out {l : List UInt8} {v : Value} {F : SP} {w : World} (h : (readQ l v * F).on w) : ∃ x, v = .tuple #[x, .int .i64 0] ∧ (ownBy x l * F).on w := by
  obtain ⟨x, h⟩ := on_ex_mul.1 h
  rw [SP.mul_assoc] at h
  obtain ⟨h1, h2⟩ := on_pure_mul.1 h
  exact ⟨x, h1, h2⟩
theorem readQ.in {l : List UInt8} {x : Value} {F : SP} {w : World} (h : (ownBy x l * F).on w) : (readQ l (.tuple #[x, .int .i64 0]) * F).on w :=
  on_ex_mul.2 ⟨x, by rw [SP.mul_assoc]; exact on_pure_mul.2 ⟨rfl, h⟩⟩

set_option maxRecDepth 100000 in
set_option maxHeartbeats 1000000 in
theorem flread_any (p : Nat) (s : FlS) (F : SP) (w : World) (h : (Flash p s * F).on w) (ok : s.Ok) (hoff : s.off = false) (a n : Nat) (han : a + n ≤ s.B.length) :
    Calls Try.prog 13 #[fptr p, .int .i64 a, .int .i64 n] w (Makes w (readQ ((s.B.drop a).take n))) := by
  have hp := ok.pages
  have hm := ok.most
  have hlen : s.B.length ≤ 16384 := by omega
  clear hp hm
  obtain ⟨g, cap, vw, hc1, hc2, h2⟩ := Flash.parts h ok
  have hb := on_blk_mul h2
  have c0 := cell_of_row w p 0 _ _ _ hb
  simp only [flCells] at c0
  clear hb
  have Hby := hide ((own_bytes h2.right).part a n (by omega))
  clear h2
  unfold maxLen at hc2
  have H := hide h
  clear h
  have hu := Try.underlying33
  go_enter Try.func13, Try.ntmps13
  go_wp2_with fail
  refine (ready_any p s F w H.out).mono ?_
  rintro e w1 ⟨rfl, rfl⟩
  rw [hoff]
  go_wp2_with fail
  refine (inside_any p s F w H.out ok a n (by omega) (by omega)).mono ?_
  rintro e w1 ⟨rfl, rfl⟩
  have hin : s.inside a n = true := by simp [FlS.inside]; omega
  rw [hin]
  clear hoff hin
  by_cases hn : n = 0
  · subst hn
    rw [List.take_zero]
    by_cases hcap : a = cap
    · have hz : cap - a = 0 := by omega
      go_wp2_with (at_builtin; refine wpList_append_bytes (F := all w) rfl _ _ 33 rfl 5 hu infoByte _ [] [] rfl (own_nil _ _ (on_all w)) _ rfl (IsBytes.none w g _ _ (by unfold maxLen; omega)) (by simp) ?_; intro v2 w2 ho2 hs2)
      go_wp2_with fail
      go_ret2
      exact ⟨_, rfl, readQ.in ho2, hs2⟩
    · go_wp2_with (at_builtin; refine wpList_append_bytes (F := all w) rfl _ _ 33 rfl 5 hu infoByte _ [] [] rfl (own_nil _ _ (on_all w)) _ rfl (IsBytes.none w g _ _ (by unfold maxLen; omega)) (by simp) ?_; intro v2 w2 ho2 hs2)
      go_wp2_with fail
      go_ret2
      exact ⟨_, rfl, readQ.in ho2, hs2⟩
  · have hn1 : 1 ≤ n := by omega
    have hll : ((s.B.drop a).take n).length = n := by simp; omega
    generalize (s.B.drop a).take n = l at *
    have Hll := hide hll
    clear hll hn
    go_wp2_with (at_builtin; refine wpList_append_bytes (F := all w) rfl _ _ 33 rfl 5 hu infoByte _ [] l rfl (own_nil _ _ (on_all w)) _ rfl (by have h := Hby.out; rw [← Nat.add_sub_cancel_left (n := a) (m := n)] at h; exact h) (by rw [Hll.out]; simp; omega) ?_; intro v2 w2 ho2 hs2)
    go_wp2_with fail
    go_ret2
    exact ⟨_, rfl, readQ.in ho2, hs2⟩
end Go.Proofs.Ytjmgnfpcieofkaa
