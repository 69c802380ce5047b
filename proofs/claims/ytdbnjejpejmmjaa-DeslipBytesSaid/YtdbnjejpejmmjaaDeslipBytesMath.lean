/- What any bytes bring: part by part, as the document's answer counts. -/
import Derived.Test.YtdbnjejpejmmjaaDeslipFramesMath
namespace Go.Proofs.Ytdbnjejpejmmjaa
set_option linter.unusedVariables false

/-- what each byte of a part brings, where so much of a text is there -/
def partF (m : Nat) : Nat → List UInt8 → List UInt8 → List Ev
  | 0, _, b => List.replicate b.length zev
  | _ + 1, _, [] => []
  | n + 1, text, c :: t =>
    if c = 192 then (if 0 < text.length then ⟨1, text, 0⟩ else zev) :: List.replicate t.length zev
    else if c = 219 then
      (match t with
      | [] => [zev]
      | d :: t' => if d ≠ 220 ∧ d ≠ 221 then zev :: ⟨2, [], 7⟩ :: List.replicate t'.length zev
        else if text.length = m then zev :: ⟨2, [], 17⟩ :: List.replicate t'.length zev
        else zev :: zev :: partF m n (text ++ [if d = 220 then 192 else 219]) t')
    else if text.length = m then ⟨2, [], 17⟩ :: List.replicate t.length zev
    else zev :: partF m n (text ++ [c]) t

theorem run_skip (m : Nat) : ∀ t : List UInt8, (∀ c ∈ t, c ≠ 192) → run ⟨[], m, false, true⟩ t = (List.replicate t.length zev, ⟨[], m, false, true⟩) := by
  intro t
  induction t with
  | nil => intro _; rfl
  | cons c t ih =>
    intro h
    have hc : c ≠ 192 := h c (by simp)
    have hf : DsS.feed ⟨[], m, false, true⟩ c = ([], 0, ⟨[], m, false, true⟩) := by
      unfold DsS.feed
      simp [hc]
    simp only [run]
    rw [hf, ih (fun c hc => h c (by simp [hc]))]
    rfl
theorem run_skip_end (m : Nat) (t e : List UInt8) (h : ∀ c ∈ t, c ≠ 192) (he : e = [] ∨ e = [192]) : (run ⟨[], m, false, true⟩ (t ++ e)).1 = List.replicate (t ++ e).length zev := by
  rw [run_append, run_skip m t h]
  rcases he with rfl | rfl
  · simp [run]
  · have hf : DsS.feed ⟨[], m, false, true⟩ 192 = ([], 0, ⟨[], m, false, false⟩) := rfl
    simp only [run]
    rw [hf]
    rw [List.length_append, ← List.replicate_append_replicate]
    rfl
theorem run_part (m : Nat) : ∀ (n : Nat) (q text e : List UInt8), q.length < n → (∀ c ∈ q, c ≠ 192) → text.length ≤ m → (e = [] ∨ e = [192]) → (run ⟨text, m, false, false⟩ (q ++ e)).1 = partF m n text (q ++ e) := by
  intro n
  induction n with
  | zero => intro q text e h; omega
  | succ n ih =>
    intro q text e hn hq ht he
    cases q with
    | nil =>
      rcases he with rfl | rfl
      · rfl
      · have hf : DsS.feed ⟨text, m, false, false⟩ 192 = (text, 0, ⟨[], m, false, false⟩) := rfl
        simp only [List.nil_append, run, partF, if_pos, List.length_nil, List.replicate_zero]
        rw [hf]
        unfold evOf
        simp [zev]
    | cons c t =>
      have hc : c ≠ 192 := hq c (by simp)
      have htq : ∀ c ∈ t, c ≠ 192 := fun c h => hq c (by simp [h])
      simp only [List.length_cons] at hn
      by_cases h219 : c = 219
      · subst h219
        have hf : DsS.feed ⟨text, m, false, false⟩ 219 = ([], 0, ⟨text, m, true, false⟩) := rfl
        cases t with
        | nil =>
          rcases he with rfl | rfl
          · simp only [List.cons_append, List.nil_append, run, partF, if_neg hc, if_pos]
            rw [hf]; rfl
          · simp only [List.cons_append, List.nil_append, run, partF, if_neg hc, if_pos]
            rw [hf]
            rw [show DsS.feed ⟨text, m, true, false⟩ 192 = ([], 7, ⟨[], m, false, false⟩) from rfl]
            rfl
        | cons d t' =>
          have hd : d ≠ 192 := htq d (by simp)
          have htq' : ∀ c ∈ t', c ≠ 192 := fun c h => htq c (by simp [h])
          simp only [List.length_cons] at hn
          have hes : DsS.feed ⟨text, m, true, false⟩ d = ([], DsS.second ⟨text, m, true, false⟩ d) := rfl
          simp only [List.cons_append, run, partF, if_neg hc, if_pos]
          rw [hf, hes]
          by_cases hx : d ≠ 220 ∧ d ≠ 221
          · rw [if_pos hx]
            have hs : DsS.second ⟨text, m, true, false⟩ d = (7, ⟨[], m, false, true⟩) := by unfold DsS.second; rw [if_neg hx.1, if_neg hx.2]; simp [hd]
            rw [hs]
            dsimp only
            rw [run_skip_end m t' e htq' he]
            rfl
          · rw [if_neg hx]
            have hs : DsS.second ⟨text, m, true, false⟩ d = DsS.keep ⟨text, m, false, false⟩ (if d = 220 then 192 else 219) := by
              unfold DsS.second
              by_cases h1 : d = 220
              · rw [if_pos h1, if_pos h1]
              · rw [if_neg h1, if_neg h1, if_pos (by by_cases h2 : d = 221; exact h2; exact (hx ⟨h1, h2⟩).elim)]
            rw [hs]
            unfold DsS.keep
            by_cases hm : text.length = m
            · rw [if_pos hm, if_neg (by simp; omega)]
              dsimp only
              rw [run_skip_end m t' e htq' he]
              rfl
            · rw [if_neg hm, if_pos (by simp; omega)]
              dsimp only
              rw [ih t' _ e (by omega) htq' (by simp; omega) he]
              rfl
      · have hf : DsS.feed ⟨text, m, false, false⟩ c = ([], DsS.keep ⟨text, m, false, false⟩ c) := by
          unfold DsS.feed
          rw [if_neg (by simp), if_neg (by simp), if_neg hc, if_neg h219]
        simp only [List.cons_append, run, partF, if_neg hc, if_neg h219]
        rw [hf]
        unfold DsS.keep
        by_cases hm : text.length = m
        · rw [if_pos hm, if_neg (by simp; omega)]
          dsimp only
          rw [run_skip_end m t e htq he]
          rfl
        · rw [if_neg hm, if_pos (by simp; omega)]
          dsimp only
          rw [ih t _ e (by omega) htq (by simp; omega) he]
          rfl

/-- bytes, cut behind each 192 -/
def partsF : List UInt8 → List (List UInt8)
  | [] => [[]]
  | c :: t => if c = 192 then [192] :: partsF t else match partsF t with
    | [] => [[c]]
    | p :: ps => (c :: p) :: ps
theorem partsF_none : ∀ q : List UInt8, (∀ c ∈ q, c ≠ 192) → partsF q = [q]
  | [], _ => rfl
  | c :: t, h => by
    unfold partsF
    rw [if_neg (h c (by simp)), partsF_none t (fun c hc => h c (by simp [hc]))]
theorem partsF_end : ∀ (q rest : List UInt8), (∀ c ∈ q, c ≠ 192) → partsF (q ++ 192 :: rest) = (q ++ [192]) :: partsF rest
  | [], rest, _ => by simp [partsF]
  | c :: t, rest, h => by
    rw [List.cons_append, show partsF (c :: (t ++ 192 :: rest)) = if c = 192 then [192] :: partsF (t ++ 192 :: rest) else match partsF (t ++ 192 :: rest) with
      | [] => [[c]]
      | p :: ps => (c :: p) :: ps from rfl, if_neg (h c (by simp)), partsF_end t rest (fun c hc => h c (by simp [hc]))]
    rfl
theorem split_192 : ∀ b : List UInt8, (∀ c ∈ b, c ≠ 192) ∨ ∃ q rest, b = q ++ 192 :: rest ∧ ∀ c ∈ q, c ≠ 192
  | [] => .inl (by simp)
  | c :: t => by
    by_cases h : c = 192
    · exact .inr ⟨[], t, by rw [h]; rfl, by simp⟩
    · rcases split_192 t with h1 | ⟨q, rest, h1, h2⟩
      · exact .inl (fun x hx => by simp at hx; rcases hx with rfl | hx; exact h; exact h1 x hx)
      · exact .inr ⟨c :: q, rest, by rw [h1]; rfl, fun x hx => by simp at hx; rcases hx with rfl | hx; exact h; exact h2 x hx⟩
/-- what each byte brings, part by part -/
theorem run_parts (m : Nat) : ∀ (n : Nat) (b : List UInt8), b.length < n → (run ⟨[], m, false, false⟩ b).1 = (partsF b).flatMap fun p => partF m (p.length + 1) [] p := by
  intro n
  induction n with
  | zero => intro b h; omega
  | succ n ih =>
    intro b hn
    rcases split_192 b with h | ⟨q, rest, rfl, h⟩
    · rw [partsF_none b h]
      have := run_part m (b.length + 1) b [] [] (by omega) h (by simp) (.inl rfl)
      rw [List.append_nil] at this
      rw [this]
      simp
    · rw [partsF_end q rest h]
      have e : q ++ 192 :: rest = (q ++ [192]) ++ rest := by simp
      rw [e, run_append]
      have h1 := run_part m ((q ++ [192]).length + 1) q [] [192] (by simp; omega) h (by simp) (.inr rfl)
      have h2 : (run ⟨[], m, false, false⟩ (q ++ [192])).2 = ⟨[], m, false, false⟩ := by
        rw [run_append]
        exact end_clean (run_good q ⟨rfl, fun h => by cases h⟩)
      rw [h1, h2, ih rest (by simp at hn; omega), List.flatMap_cons]
end Go.Proofs.Ytdbnjejpejmmjaa
