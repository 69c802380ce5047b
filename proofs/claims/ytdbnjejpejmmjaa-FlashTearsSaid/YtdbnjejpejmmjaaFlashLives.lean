/- The chapter's example of flash. -/
import Derived.Test.YtdbnjejpejmmjaaFlash5
namespace Go.Proofs.Ytdbnjejpejmmjaa
open Go.ChangeShapes Go.WideShapes Go.ChangeAt Go.RowKit
set_option linter.unusedVariables false

theorem progW_ok {lb : List UInt8} {a : Nat} : ∀ (r i : Nat) (s : FlS), s.Ok → (FlS.progW lb a r i s).1.Ok := by
  intro r
  induction r with
  | zero => intro i s h; exact h
  | succ r ih =>
    intro i s h
    unfold FlS.progW
    split
    · exact ih _ _ (FlS.word_ok h _ _)
    · exact FlS.word_ok h _ _
theorem progW_length {lb : List UInt8} {a : Nat} : ∀ (r i : Nat) (s : FlS), (FlS.progW lb a r i s).1.B.length = s.B.length := by
  intro r
  induction r with
  | zero => intro i s; rfl
  | succ r ih =>
    intro i s
    unfold FlS.progW
    split
    · rw [ih, FlS.word_length]
    · exact FlS.word_length _ _ _
theorem progW_steps {lb : List UInt8} {a : Nat} : ∀ (r i : Nat) (s : FlS), (FlS.progW lb a r i s).1.steps ≤ s.steps + r := by
  intro r
  induction r with
  | zero => intro i s; exact Nat.le_refl _
  | succ r ih =>
    intro i s
    unfold FlS.progW
    split
    · have := ih (i + 1) (s.word (a + i * 4) ((lb.drop (i * 4)).take 4)); have := FlS.word_steps s (a + i * 4) ((lb.drop (i * 4)).take 4); omega
    · have := FlS.word_steps s (a + i * 4) ((lb.drop (i * 4)).take 4); simp only; omega
theorem progW_locks {lb : List UInt8} {a : Nat} : ∀ (r i : Nat) (s : FlS), (FlS.progW lb a r i s).1.lf = s.lf ∧ (FlS.progW lb a r i s).1.lt = s.lt := by
  intro r
  induction r with
  | zero => intro i s; exact ⟨rfl, rfl⟩
  | succ r ih =>
    intro i s
    unfold FlS.progW
    split
    · have := ih (i + 1) (s.word (a + i * 4) ((lb.drop (i * 4)).take 4)); have := FlS.word_lf s (a + i * 4) ((lb.drop (i * 4)).take 4); omega
    · exact FlS.word_lf s _ _
theorem unlocked {s : FlS} (h : s.lt = 0) (x : Nat) : s.locked (x : Int) = false := by simp only [FlS.locked, h, Bool.and_eq_false_iff, decide_eq_false_iff_not]; right; omega
theorem newQ.out {k : Nat} {v : Value} {F : SP} {w : World} (h : (newQ k v * F).on w) : ∃ p, v = .tuple #[fptr p, .int .i64 0] ∧ (Flash p (FlS.new k) * F).on w := by
  obtain ⟨p, h⟩ := on_ex_mul.1 h
  rw [SP.mul_assoc] at h
  obtain ⟨h1, h2⟩ := on_pure_mul.1 h
  exact ⟨p, h1, h2⟩
theorem IsBytes.blk {w : World} {g : Nat} {l : List UInt8} {t : TypeId} {F : SP} (h : (blk g (.cells (vbs l).toArray t (0, 0)) * F).on w) (hl : l.length ≤ maxLen) : IsBytes w (.slice (some ⟨g, 0, Option.none⟩) l.length l.length) l := by
  have h2 : (own t 1 (.slice (some ⟨g, 0, Option.none⟩) l.length l.length) l.length (vbs l) * F).on w := own_of_blk h (by simp) (Nat.le_refl _) hl (by simp) (by rw [Nat.mul_one]; exact List.take_of_length_le (by simp))
  exact own_bytes h2

def flA : FlS := (FlS.progW [0, 0, 0, 0] 4 1 0 (FlS.new 2)).1
theorem flA_err : (FlS.progW [0, 0, 0, 0] 4 1 0 (FlS.new 2)).2 = 0 := by decide +kernel
theorem flB_err : (FlS.progW [1, 0, 0, 0] 4 1 0 flA).2 = 6 := by decide +kernel
theorem flA_off : flA.off = false := by decide +kernel
set_option maxRecDepth 100000 in
set_option maxHeartbeats 2000000 in
theorem lives01_any (w : World) : Calls Try.prog 15 #[] w fun e w' => e = .returned (.bool true) ∧ Below w.heap.size w w' := by
  have ok1 := FlS.new_ok 2 (by omega) (by omega)
  have okA : flA.Ok := progW_ok _ _ _ ok1
  have lA : flA.B.length = 512 := by unfold flA; rw [progW_length]; rfl
  have sA : flA.steps ≤ 1 := by have := progW_steps (lb := [0, 0, 0, 0]) (a := 4) 1 0 (FlS.new 2); exact this
  have kA : flA.lt = 0 := (progW_locks 1 0 (FlS.new 2)).2
  go_enter Try.func15, Try.ntmps15
  go_wp2_with fail
  refine (new_any 2 (by omega) (by omega) w).mono ?_
  rintro e w1 ⟨v, rfl, ho, hs⟩
  obtain ⟨p, rfl, ho2⟩ := newQ.out ho
  have h1 := ho2.alloc (.cells (vbs [0, 0, 0, 0]).toArray 5)
  rw [SP.mul_left_comm] at h1
  have HO1 := hide (program_any p (FlS.new 2) _ _ h1 ok1 (by simp [FlS.new]) rfl 4 (.slice (some ⟨w1.heap.size, 0, Option.none⟩) 4 4) [0, 0, 0, 0] 1 rfl rfl (by simp [FlS.new]) (fun i _ => unlocked rfl _) (fun w h => IsBytes.blk (l := [0, 0, 0, 0]) h (by decide)))
  rw [flA_err] at HO1
  have HS := hide (hs.alloc (.cells (vbs [0, 0, 0, 0]).toArray 5))
  clear ho ho2 hs h1
  go_wp2_with fail
  refine HO1.out.mono ?_
  rintro e w2 ⟨rfl, h2, hs2⟩
  have HS2 := hide (HS.out.trans hs2)
  clear HO1 HS hs2
  have h3 := h2.alloc (.cells (vbs [1, 0, 0, 0]).toArray 5)
  rw [SP.mul_left_comm] at h3
  have HO3 := hide (program_any p flA _ _ h3 okA (by omega) flA_off 4 (.slice (some ⟨w2.heap.size, 0, Option.none⟩) 4 4) [1, 0, 0, 0] 1 rfl rfl (by rw [lA]; decide) (fun i _ => unlocked kA _) (fun w h => IsBytes.blk (l := [1, 0, 0, 0]) h (by decide)))
  rw [flB_err] at HO3
  have HS3 := hide (HS2.out.alloc (.cells (vbs [1, 0, 0, 0]).toArray 5))
  clear h2 h3 HS2
  go_wp2_with fail
  refine HO3.out.mono ?_
  rintro e w3 ⟨rfl, h4, hs4⟩
  have HS4 := hide (HS3.out.trans hs4)
  have HZ := hide (size_any p _ _ _ h4 (progW_ok _ _ _ okA))
  rw [progW_length, lA] at HZ
  have HB := hide (all_below h4.right.right.right HS4.out)
  clear HO3 HS3 hs4 h4
  go_wp2_with fail
  refine HZ.out.mono ?_
  rintro e w4 ⟨rfl, rfl⟩
  go_wp2_with fail
  go_ret
  exact ⟨rfl, HB.out⟩
end Go.Proofs.Ytdbnjejpejmmjaa
