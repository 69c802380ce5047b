/- The document's answer for deslip, whole: what any bytes bring. -/
import Derived.Test.YtdbnjejpejmmjaaDeslipEvents
namespace Go.Proofs.Ytdbnjejpejmmjaa
open Go.ChangeShapes Go.WideShapes Go.ChangeAt Go.RowKit
set_option linter.unusedVariables false

theorem partF_len (m : Nat) : ∀ (n : Nat) (text b : List UInt8), b.length < n → (partF m n text b).length = b.length := by
  intro n
  induction n using Nat.strongRecOn with
  | ind n ih =>
    intro text b hb
    cases n with
    | zero => omega
    | succ n =>
      cases b with
      | nil => rfl
      | cons c t =>
        simp only [partF]
        simp only [List.length_cons] at hb
        split
        · simp
        · split
          · cases t with
            | nil => rfl
            | cons d t' =>
              simp only [List.length_cons] at hb
              simp only []
              split
              · simp
              · split
                · simp
                · simp only [List.length_cons]
                  rw [ih n (by omega) _ t' (by omega)]
          · split
            · simp
            · simp only [List.length_cons]
              rw [ih n (by omega) _ t (by omega)]
theorem partsF_len : ∀ b : List UInt8, ((partsF b).map List.length).sum = b.length
  | [] => rfl
  | c :: t => by
    have ih := partsF_len t
    by_cases hc : c = 192
    · simp only [partsF, if_pos hc, List.map_cons, List.sum_cons, List.length_cons, List.length_nil]
      omega
    · cases h : partsF t with
      | nil => rw [h] at ih; simp only [partsF, if_neg hc, h, List.map_cons, List.map_nil, List.sum_cons, List.sum_nil, List.length_cons, List.length_nil] at ih ⊢; omega
      | cons p ps => rw [h] at ih; simp only [partsF, if_neg hc, h, List.map_cons, List.sum_cons, List.length_cons] at ih ⊢; omega
theorem partsF_count : ∀ b : List UInt8, (partsF b).length ≤ b.length + 1
  | [] => by simp [partsF]
  | c :: t => by
    have ih := partsF_count t
    by_cases hc : c = 192
    · simp only [partsF, if_pos hc, List.length_cons]
      omega
    · cases h : partsF t with
      | nil => rw [h] at ih; simp only [partsF, if_neg hc, h]; simp
      | cons p ps => rw [h] at ih; simp only [partsF, if_neg hc, h]; simp at ih ⊢; omega
/-- what the first so many parts bring -/
def evsK (m : Nat) (ps : List (List UInt8)) (k : Nat) : List Ev := (ps.take k).flatMap fun p => partF m (p.length + 1) [] p
theorem evsK_succ (m : Nat) (ps : List (List UInt8)) (k : Nat) (h : k < ps.length) : evsK m ps (k + 1) = evsK m ps k ++ partF m (ps[k].length + 1) [] ps[k] := by
  unfold evsK
  rw [List.take_succ_eq_append_getElem h, List.flatMap_append]
  simp
theorem evsK_len (m : Nat) (ps : List (List UInt8)) : ∀ k, (evsK m ps k).length ≤ ((ps.map List.length).sum) := by
  intro k
  induction ps generalizing k with
  | nil => simp [evsK]
  | cons p ps ih =>
    cases k with
    | zero => simp [evsK]
    | succ k =>
      have := ih k
      have h2 := partF_len m (p.length + 1) [] p (by omega)
      unfold evsK at this ⊢
      simp only [List.take_succ_cons, List.flatMap_cons, List.length_append, List.map_cons, List.sum_cons]
      omega
theorem sum_at : ∀ (ps : List (List UInt8)) (k : Nat) (h : k < ps.length), ps[k].length ≤ (ps.map List.length).sum
  | [], k, h => by simp at h
  | p :: ps, 0, h => by simp
  | p :: ps, k + 1, h => by
    have := sum_at ps k (by simpa using h)
    simp; omega

set_option maxRecDepth 100000 in
set_option maxHeartbeats 4000000 in
theorem events_any (v : Value) (b : List UInt8) (m : Nat) (hm : m ≤ 65536) (w : World) (h : IsBytes w v b) (hlen : b.length ≤ 1000000) :
    Calls Try.prog 39 #[v, .int .i64 m] w fun e w' => ∃ out L, e = .returned out ∧ L.map Prod.snd = (partsF b).flatMap (fun p => partF m (p.length + 1) [] p) ∧ (Evs out L * all w).on w' ∧ Str w w' := by
  have H := hide h
  obtain ⟨ie, hie, hz, hsz, hby⟩ := info_some infoEv
  have hue := Try.underlying54
  have Hie := hide hie
  have Hz := hide hz
  have Hsz := hide hsz
  have Hby := hide hby
  clear hie hz hsz hby
  have HP := hide (parts_any v b w h hlen)
  have hpl := partsF_len b
  have hpc := partsF_count b
  have HE0 := hide (show evsK m (partsF b) (partsF b).length = (partsF b).flatMap (fun p => partF m (p.length + 1) [] p) by unfold evsK; rw [List.take_length])
  generalize partsF b = ps at *
  obtain ⟨av, cv, rfl, _, _, _, _⟩ := h
  go_enter Try.func39, Try.ntmps39
  go_wp2_with fail
  refine HP.out.mono ?_
  rintro e w1 ⟨out1, rfl, hp1, hs1⟩
  obtain ⟨vals, ho, hvl, hv1, hvp⟩ := hp1
  have hB1 : Below w.heap.size w w1 := all_below ho.right hs1
  obtain ⟨pa, pc, rfl, hpc1, hpc2, hpla, _⟩ := own_value ho
  unfold maxLen at hpc2
  have Ho := hide ho
  have Hvl := hide hvl
  have Hvp := hide (fun j u l h1 h2 => (hvp j u l h1 h2).below hB1)
  have Hpla := hide hpla
  have Hs1 := hide hs1
  have Hpl := hide hpl
  clear ho hvl hv1 hvp hpla hs1 HP hB1 hpl
  go_wp2_with fail
  go_loopw [5, 7] (fun o i wr => ∃ (k : Nat) (L : List (Value × Ev)), k ≤ ps.length ∧ i = .int .i64 k ∧ L.map Prod.snd = evsK m ps k ∧ (Evs o L * all w1).on wr ∧ Str w1 wr) (fun _ i _ => ps.length - (intOf i).toNat)
  case atStart => exact ⟨0, [], by omega, rfl, rfl, Evs.nil (on_all w1), Str.refl _⟩
  case round =>
    obtain ⟨k, L, hk, rfl, hL, hw, hstr⟩ := hrel
    have hLl : L.length ≤ 1000000 := by
      have h1 := congrArg List.length hL
      rw [List.length_map] at h1
      have h2 := evsK_len m ps k
      rw [Hpl.out] at h2
      omega
    by_cases hkl : k < ps.length
    · have hkv : k < vals.length := by rw [Hvl.out]; exact hkl
      obtain ⟨bv, offv, rfl⟩ := Lay.isAddr Hpla.out k hkv
      have hB : Below w1.heap.size w1 wr := all_below hw.right hstr
      have cb := Lay.cell (Hpla.out.below hB) k (List.getElem?_eq_getElem hkv)
      have hbx := (Hvp.out k _ _ (List.getElem?_eq_getElem hkv) (List.getElem?_eq_getElem hkl)).below hB
      have hsl := sum_at ps k hkl
      rw [Hpl.out] at hsl
      have HS := hide (evsK_succ m ps k hkl)
      have hpl2 := partF_len m (ps[k].length + 1) [] ps[k] (by omega)
      generalize vals[k] = vk at *
      generalize ps[k] = x at *
      have HPart := hide (part_any vk x m hm wr hbx (by omega))
      obtain ⟨oa, oc, rfl, _, _, _, _⟩ := Evs.lay hw
      obtain ⟨xa, xc, rfl, _, _, _, _⟩ := hbx
      have Hw := hide hw
      have HL := hide hL
      have Hstr := hide hstr
      clear hw hL hstr hB
      go_wp2_with fail
      refine HPart.out.mono ?_
      rintro e w2 ⟨out2, L2, rfl, hL2, h2, hs2⟩
      have hL2l : L2.length = x.length := by have := congrArg List.length hL2; rw [List.length_map, hpl2] at this; exact this
      have h3 := on_all_to h2 Hw.out
      have h4 : (own 59 3 out2 L2.length (evCells L2) * (stars L2 * (Evs (.slice oa L.length oc) L * all w1))).on w2 := by
        unfold Evs at h3 ⊢
        rw [SP.mul_assoc] at h3
        exact h3
      obtain ⟨a2, c2, rfl, hc21, hc22, hl2, hn2⟩ := own_value h4
      have h1c := evCells_one L2 h4.right
      have h5 : (own 59 3 (.slice oa L.length oc) L.length (evCells L) * (stars L * (stars L2 * all w1))).on w2 := by
        have h6 := h4.right
        unfold Evs at h6
        have e : (stars L2 * ((own 59 3 (.slice oa L.length oc) L.length (evCells L) * stars L) * all w1)) = (own 59 3 (.slice oa L.length oc) L.length (evCells L) * (stars L * (stars L2 * all w1))) := by ac_rfl
        rw [e] at h6
        exact h6
      have H5 := hide h5
      have Hl2 := hide hl2
      have Hn2 := hide hn2
      have H1c := hide h1c
      have Hs2 := hide hs2
      have HL2 := hide hL2
      have hcl := evCells_length L2
      have Hcl := hide hcl
      clear h2 h3 h4 h5 hl2 hn2 h1c hs2 hL2 hcl HPart hpl2
      have hsum : L.length + L2.length ≤ 1000000 := by
        have h1 := congrArg List.length HL.out
        have h2 := evsK_len m ps (k + 1)
        rw [HS.out, List.length_append, Hpl.out, ← HL2.out, List.length_map, ← HL.out, List.length_map] at h2
        omega
      clear hL2l
      go_wp2_with (at_builtin; refine wpList_append_sp (F := stars L * (stars L2 * all w1)) rfl _ _ 54 rfl 59 ie _ 3 40 hue Hie.out Hz.out Hsz.out Hby.out rfl (by decide) _ L.length (evCells L) rfl H5.out a2 L2.length c2 (evCells L2) rfl Hn2.out Hcl.out Hl2.out H1c.out (by unfold maxLen; omega) (by omega) ?_; intro v3 w3 ho3 hs3)
      refine ⟨⟨k + 1, L ++ L2, by omega, by simp, by rw [HS.out, List.map_append, HL.out, HL2.out], Evs.append ho3, (Hstr.out.trans Hs2.out).trans hs3⟩, by simp [intOf]; omega⟩
    · have hkb : k = ps.length := by omega
      subst hkb
      have HL := hide (hL.trans HE0.out)
      have Hw := hide hw
      have Hs := hide hstr
      have Hall := hide Ho.out.right
      clear hw hL hstr
      go_wp2_with fail
      go_ret
      exact ⟨_, L, rfl, HL.out, on_all_to Hw.out Hall.out, Hs1.out.trans Hs.out⟩
end Go.Proofs.Ytdbnjejpejmmjaa
