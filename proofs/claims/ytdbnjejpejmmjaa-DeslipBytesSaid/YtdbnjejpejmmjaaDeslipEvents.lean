/- The document's answer: what any bytes bring. -/
import Derived.Test.YtdbnjejpejmmjaaDeslipPart2
namespace Go.Proofs.Ytdbnjejpejmmjaa
open Go.ChangeShapes Go.WideShapes Go.ChangeAt Go.RowKit
set_option linter.unusedVariables false

theorem stars_append (L M : List (Value × Ev)) : stars (L ++ M) * emp = stars L * (stars M * emp) := by
  induction L with
  | nil => show stars M * emp = emp * (stars M * emp); rw [SP.mul_comm emp]; 
           apply SP.ext; intro h
           constructor
           · intro hh; exact ⟨h, fun _ => Option.none, fun _ => .inr rfl, Hp.sub_refl _, fun _ _ e => (nomatch e), hh, trivial⟩
           · rintro ⟨a, _, _, hs, _, ⟨x, y, h1, h2, h3, h4, h5⟩, _⟩; exact ⟨x, y, h1, h2.trans hs, h3.trans hs, h4, h5⟩
  | cons y t ih =>
    show (ownD y.1 y.2.frame * stars (t ++ M)) * emp = (ownD y.1 y.2.frame * stars t) * (stars M * emp)
    rw [SP.mul_assoc, ih, SP.mul_assoc]
theorem evCells_append (L M : List (Value × Ev)) : evCells (L ++ M) = evCells L ++ evCells M := by simp [evCells]
theorem evCells_one (L : List (Value × Ev)) {F : SP} {w : World} (h : (stars L * F).on w) : ∀ u ∈ evCells L, u.oneCell' = true := by
  intro u hu
  simp only [evCells, List.mem_flatMap] at hu
  obtain ⟨⟨v, e⟩, hm, hu⟩ := hu
  simp only [List.mem_cons, List.not_mem_nil, or_false] at hu
  rcases hu with rfl | rfl | rfl
  · rfl
  · obtain ⟨i, hi, he⟩ := List.getElem_of_mem hm
    obtain ⟨_, _, rfl, _⟩ := stars_get L i u e h (by rw [List.getElem?_eq_getElem hi, he])
    rfl
  · rfl
theorem Evs.append {v2 : Value} {L M : List (Value × Ev)} {F : SP} {w : World} (h : (own 59 3 v2 (L.length + M.length) (evCells L ++ evCells M) * (stars L * (stars M * F))).on w) : (Evs v2 (L ++ M) * F).on w := by
  unfold Evs
  rw [evCells_append, List.length_append, SP.mul_assoc]
  have e1 : (own 59 3 v2 (L.length + M.length) (evCells L ++ evCells M) * (stars L * (stars M * F))) = ((stars L * stars M) * (own 59 3 v2 (L.length + M.length) (evCells L ++ evCells M) * F)) := by ac_rfl
  rw [e1] at h
  have h2 := on_mul_emp.2 h
  have e2 : (((stars L * stars M) * (own 59 3 v2 (L.length + M.length) (evCells L ++ evCells M) * F)) * emp) = ((stars L * (stars M * emp)) * (own 59 3 v2 (L.length + M.length) (evCells L ++ evCells M) * F)) := by ac_rfl
  rw [e2, ← stars_append] at h2
  have e3 : ((stars (L ++ M) * emp) * (own 59 3 v2 (L.length + M.length) (evCells L ++ evCells M) * F)) = ((own 59 3 v2 (L.length + M.length) (evCells L ++ evCells M) * (stars (L ++ M) * F)) * emp) := by ac_rfl
  rw [e3] at h2
  exact on_mul_emp.1 h2
end Go.Proofs.Ytdbnjejpejmmjaa
