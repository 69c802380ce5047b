/- Flash is erased and programmed: all answers, of a flash without locks. -/
import Derived.Test.YtjmgnfpcieofkaaFlash6
import Derived.Test.YtjmgnfpcieofkaaFlashLives
namespace Go.Proofs.Ytjmgnfpcieofkaa
open Go.ChangeShapes Go.WideShapes Go.ChangeAt Go.RowKit
set_option linter.unusedVariables false
set_option linter.unusedSimpArgs false

/-- words are programmed: the flash, and the error -/
def FlS.prog (s : FlS) (a : Nat) (lb : List UInt8) : FlS × Nat := if s.off then (s, 5) else if a + lb.length ≤ s.B.length then FlS.progW lb a (lb.length / 4) 0 s else (s, 3)
/-- a flash without locks, that was not used too often -/
structure FlS.Fit (s : FlS) (n : Nat) : Prop where
  ok : s.Ok
  free : s.lt = 0
  steps : s.steps ≤ n
  worn : ∀ x ∈ s.worn, x ≤ n
theorem FlS.Fit.mono {s : FlS} {n m : Nat} (h : s.Fit n) (k : n ≤ m) : s.Fit m := ⟨h.ok, h.free, Nat.le_trans h.steps k, fun x hx => Nat.le_trans (h.worn x hx) k⟩
theorem FlS.Fit.new (k : Nat) (h1 : 1 ≤ k) (h2 : k ≤ 64) : (FlS.new k).Fit 0 := ⟨FlS.new_ok k h1 h2, rfl, Nat.le_refl _, fun x hx => by
  simp only [FlS.new, List.mem_replicate] at hx
  omega⟩
theorem progW_worn {lb : List UInt8} {a : Nat} : ∀ (r i : Nat) (s : FlS), (FlS.progW lb a r i s).1.worn = s.worn
  | 0, _, _ => rfl
  | r + 1, i, s => by
    unfold FlS.progW
    have h : (s.word (a + i * 4) ((lb.drop (i * 4)).take 4)).worn = s.worn := by simp [FlS.word, FlS.step_worn]
    split
    · rw [progW_worn r (i + 1), h]
    · exact h
theorem FlS.prog_length (s : FlS) (a : Nat) (lb : List UInt8) : (s.prog a lb).1.B.length = s.B.length := by
  unfold FlS.prog
  split
  · rfl
  · split
    · exact progW_length _ _ _
    · rfl
theorem FlS.prog_worn (s : FlS) (a : Nat) (lb : List UInt8) : (s.prog a lb).1.worn = s.worn := by
  unfold FlS.prog
  split
  · rfl
  · split
    · exact progW_worn _ _ _
    · rfl
theorem FlS.Fit.prog {s : FlS} {n : Nat} (h : s.Fit n) (a : Nat) (lb : List UInt8) : (s.prog a lb).1.Fit (n + lb.length / 4) := by
  have hw := FlS.prog_worn s a lb
  unfold FlS.prog at hw ⊢
  split
  · exact h.mono (by omega)
  · split
    · refine ⟨progW_ok _ _ _ h.ok, by rw [(progW_locks _ _ _).2]; exact h.free, Nat.le_trans (progW_steps _ _ _) (by have := h.steps; omega), ?_⟩
      rw [progW_worn]
      exact fun x hx => Nat.le_trans (h.worn x hx) (by omega)
    · exact h.mono (by omega)
theorem FlS.step_free {s : FlS} : s.step.lt = s.lt := by unfold FlS.step; split <;> rfl
theorem FlS.era_length (s : FlS) (page : Nat) : (s.era page).1.B.length = s.B.length := by
  unfold FlS.era
  split
  · rfl
  · split
    · rfl
    · exact FlS.eraS_length s page
theorem FlS.era_wornlen (s : FlS) (page : Nat) : (s.era page).1.worn.length = s.worn.length := by
  unfold FlS.era
  split
  · rfl
  · split
    · rfl
    · simp only [FlS.eraS]; split <;> simp
theorem FlS.Fit.era {s : FlS} {n : Nat} (h : s.Fit n) (page : Nat) : (s.era page).1.Fit (n + 1) := by
  unfold FlS.era
  split
  · exact h.mono (by omega)
  · split
    · exact h.mono (by omega)
    · refine ⟨FlS.eraS_ok h.ok page, ?_, ?_, ?_⟩
      · show s.step.lt = 0; rw [FlS.step_free]; exact h.free
      · have := FlS.step_steps s; have := h.steps; show s.step.steps ≤ n + 1; omega
      · intro x hx
        simp only [FlS.eraS] at hx
        split at hx
        · have := h.worn x hx; omega
        · rcases List.mem_or_eq_of_mem_set hx with h1 | h1
          · have := h.worn x h1; omega
          · rename_i h9
            by_cases hp : page < s.worn.length
            · have := h.worn (s.worn.getD page 0) (by rw [List.getD_eq_getElem?_getD, List.getElem?_eq_getElem hp]; exact List.getElem_mem hp)
              omega
            · rw [List.getD_eq_getElem?_getD, List.getElem?_eq_none (by omega)] at h1; simp at h1; omega

set_option maxRecDepth 100000 in
set_option maxHeartbeats 4000000 in
theorem program_off (p : Nat) (s : FlS) (F : SP) (w : World) (h : (Flash p s * F).on w) (hoff : s.off = true) (a : Nat) (v : Value) :
    Calls Try.prog 49 #[fptr p, .int .i64 a, v] w fun e w' => e = .returned (.int .i64 5) ∧ w = w' := by
  have H := hide h
  clear h
  go_enter Try.func49, Try.ntmps49
  go_wp2_with fail
  refine (ready_any p s F w H.out).mono ?_
  rintro e w1 ⟨rfl, rfl⟩
  rw [hoff]
  clear hoff
  go_wp2_with fail
  go_ret
  exact ⟨rfl, rfl⟩
set_option maxRecDepth 100000 in
set_option maxHeartbeats 4000000 in
theorem program_out (p : Nat) (s : FlS) (F : SP) (w : World) (h : (Flash p s * F).on w) (ok : s.Ok) (hoff : s.off = false) (a : Nat) (ha4 : a % 4 = 0) (v : Value) (lb : List UInt8) (hlb : lb.length % 4 = 0) (ha : a ≤ 1000000) (hl : lb.length ≤ 1000000) (hin : ¬ a + lb.length ≤ s.B.length) (hv : IsBytes w v lb) :
    Calls Try.prog 49 #[fptr p, .int .i64 a, v] w fun e w' => e = .returned (.int .i64 3) ∧ w = w' := by
  obtain ⟨av, cv, rfl, hcv, hmv, hlv, hnv⟩ := hv
  have hpg := ok.pages
  have hmo := ok.most
  have hB : s.B.length ≤ 16384 := by omega
  clear hpg hmo hlv hnv
  unfold maxLen at hmv
  have H := hide h
  have Hin := hide (inside_any p s F w H.out ok a lb.length (by omega) (by omega))
  have hins : s.inside a lb.length = false := by
    simp only [FlS.inside, Bool.and_eq_false_iff, decide_eq_false_iff_not]
    omega
  rw [hins] at Hin
  clear h hins
  have e1 : ((a : Int)).tmod 4 = 0 := by rw [Int.tmod_eq_emod_of_nonneg (by omega)]; omega
  have e2 : ((lb.length : Nat) : Int).tmod 4 = 0 := by rw [Int.tmod_eq_emod_of_nonneg (by omega)]; omega
  generalize lb.length = n at *
  clear hin ok ha4 hlb
  go_enter Try.func49, Try.ntmps49
  go_wp2_with fail
  refine (ready_any p s F w H.out).mono ?_
  rintro e w1 ⟨rfl, rfl⟩
  rw [hoff]
  clear hoff
  go_wp2_with fail
  refine Hin.out.mono ?_
  rintro e w1 ⟨rfl, rfl⟩
  go_wp2_with fail
  go_ret
  exact ⟨rfl, rfl⟩
/-- a program, whatever comes of it -/
theorem prog_any (p : Nat) (s : FlS) (F : SP) (w : World) (h : (Flash p s * F).on w) (n : Nat) (fit : s.Fit n) (hn : n ≤ 1099511000000) (a : Nat) (v : Value) (lb : List UInt8) (ha4 : a % 4 = 0) (hlb : lb.length % 4 = 0) (ha : a ≤ 1000000) (hl : lb.length ≤ 1000000) (hrd : ∀ w, F.on w → IsBytes w v lb) :
    Calls Try.prog 49 #[fptr p, .int .i64 a, v] w fun e w' => e = .returned (.int .i64 ((s.prog a lb).2 : Int)) ∧ (Flash p (s.prog a lb).1 * F).on w' ∧ Str w w' := by
  unfold FlS.prog
  by_cases ho : s.off = true
  · rw [if_pos ho]
    refine (program_off p s F w h ho a v).mono ?_
    rintro e w' ⟨rfl, rfl⟩
    exact ⟨rfl, h, Str.refl _⟩
  · rw [if_neg ho]
    have ho' : s.off = false := by simpa using ho
    by_cases hin : a + lb.length ≤ s.B.length
    · rw [if_pos hin]
      refine (program_any p s F w h fit.ok (by have := fit.steps; omega) ho' a v lb (lb.length / 4) ha4 (by omega) hin (fun i _ => unlocked fit.free _) hrd)
    · rw [if_neg hin]
      refine (program_out p s F w h fit.ok ho' a ha4 v lb hlb ha hl hin (hrd w h.right)).mono ?_
      rintro e w' ⟨rfl, rfl⟩
      exact ⟨rfl, h, Str.refl _⟩
theorem era_any (p : Nat) (s : FlS) (F : SP) (w : World) (h : (Flash p s * F).on w) (n : Nat) (fit : s.Fit n) (hn : n ≤ 1099511000000) (page : Nat) (hp : page ≤ 1000000) :
    Calls Try.prog 47 #[fptr p, .int .i64 page] w fun e w' => e = .returned (.int .i64 ((s.era page).2 : Int)) ∧ (Flash p (s.era page).1 * F).on w' ∧ Str w w' := by
  unfold FlS.era
  by_cases ho : s.off = true
  · rw [if_pos ho]
    refine (erase_off p s F w h ho page).mono ?_
    rintro e w' ⟨rfl, rfl⟩
    exact ⟨rfl, h, Str.refl _⟩
  · rw [if_neg ho]
    have ho' : s.off = false := by simpa using ho
    by_cases hw : s.worn.length ≤ page
    · rw [if_pos hw]
      refine (erase_beyond p s F w h fit.ok ho' page hp hw).mono ?_
      rintro e w' ⟨rfl, rfl⟩
      exact ⟨rfl, h, Str.refl _⟩
    · rw [if_neg hw]
      exact erase_on p s F w h fit.ok (by have := fit.steps; omega) ho' page (by omega) (unlocked fit.free _) (fun x hx => by have := fit.worn x hx; omega)
end Go.Proofs.Ytjmgnfpcieofkaa
