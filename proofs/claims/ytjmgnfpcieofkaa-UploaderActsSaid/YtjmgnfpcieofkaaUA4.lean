/- The law UploaderActs: the Model hears a text. -/
import Derived.Test.YtjmgnfpcieofkaaUA3
import Derived.Test.YtjmgnfpcieofkaaGCrc
import Derived.Test.YtjmgnfpcieofkaaWord12
namespace Go.Proofs.Ytjmgnfpcieofkaa
open Go.ChangeShapes Go.WideShapes Go.ChangeAt Go.RowKit
set_option linter.unusedVariables false
set_option linter.unusedSimpArgs false

set_option maxRecDepth 100000 in
set_option maxHeartbeats 8000000 in
theorem mhear_short (p : Nat) (iv rv : Value) (s : US) (mg mo mc : Nat) (img : List UInt8) (hl : img.length ≤ 4096) (hmc : img.length ≤ mc) (F : SP) (w : World) (h : (blk p (.cells (mC22 iv (.slice (some ⟨mg, mo, Option.none⟩) img.length mc) rv s) 84 (0, 0)) * F).on w) (hmv : ∀ W, F.on W → IsBytes W (.slice (some ⟨mg, mo, Option.none⟩) img.length mc) img) (ok : s.Ok img) (tv : Value) (t : List UInt8) (htv : IsBytes w tv t) (ht : ansErr t ≠ 0) :
    Calls Try.prog 78 #[ptrV p, tv] w fun e w' => (∃ v, e = .returned v) ∧ (blk p (.cells (mC22 iv (.slice (some ⟨mg, mo, Option.none⟩) img.length mc) rv (s.hear img t)) 84 (0, 0)) * F).on w' ∧ Str w w' := by
  have hh : s.hear img t = s := by unfold US.hear; rw [if_neg ht]
  rw [hh]
  clear hh
  have H1 := hide h
  by_cases h3 : t.length < 3
  · obtain ⟨ta, tc, rfl, _, _, _, _⟩ := htv
    have h3I : ((t.length : Int) < 3) := by omega
    clear ht h
    go_enter Try.func78, Try.ntmps78
    go_wp2_with fail
    exact bodyPost_ret (v := .tuple #[]) (by simp [results, Try.results78, go_sem]) rfl ⟨⟨_, rfl⟩, H1.out, Str.refl _⟩
  · obtain ⟨tb, to, tc, rfl, c0⟩ := htv.at 0 (by omega)
    have hne : t.getD 0 0 ≠ 96 := by
      match t, h3, ht with
      | [], h3, _ => exact absurd (by simp) h3
      | [_], h3, _ => exact absurd (by simp) h3
      | [_, _], h3, _ => exact absurd (by simp) h3
      | x :: y :: z :: d, _, ht =>
        intro hx
        simp at hx
        exact ht (by simp [ansErr, hx])
    generalize t.getD 0 0 = x at *
    have h3I : ¬ ((t.length : Int) < 3) := by omega
    have e1 : ((x.toNat : Int) != 96) = true := by
      have : x.toNat ≠ 96 := fun h => hne (UInt8.toNat_inj.1 h)
      simp only [bne_iff_ne, ne_eq]; omega
    rw [Nat.add_zero] at c0
    clear ht h hne htv
    go_enter Try.func78, Try.ntmps78
    go_wp2_with fail
    exact bodyPost_ret (v := .tuple #[]) (by simp [results, Try.results78, go_sem]) rfl ⟨⟨_, rfl⟩, H1.out, Str.refl _⟩

set_option maxRecDepth 100000 in
set_option maxHeartbeats 8000000 in
theorem mhear_full (p : Nat) (iv rv : Value) (s : US) (mg mo mc : Nat) (img : List UInt8) (hl : img.length ≤ 4096) (hmc : img.length ≤ mc) (F : SP) (w : World) (h : (blk p (.cells (mC22 iv (.slice (some ⟨mg, mo, Option.none⟩) img.length mc) rv s) 84 (0, 0)) * F).on w) (hmv : ∀ W, F.on W → IsBytes W (.slice (some ⟨mg, mo, Option.none⟩) img.length mc) img) (ok : s.Ok img) (tb to tc : Nat) (y z : UInt8) (d : List UInt8) (hdl : d.length ≤ 1000000) (htv : ∀ W, F.on W → IsBytes W (.slice (some ⟨tb, to, Option.none⟩) (d.length + 3) tc) (96 :: y :: z :: d)) :
    Calls Try.prog 78 #[ptrV p, .slice (some ⟨tb, to, Option.none⟩) (d.length + 3) tc] w fun e w' => (∃ v, e = .returned v) ∧ (blk p (.cells (mC22 iv (.slice (some ⟨mg, mo, Option.none⟩) img.length mc) rv (s.answer img y z d)) 84 (0, 0)) * F).on w' ∧ Str w w' := by
  have hu := Try.underlying84
  have H0 := hide h
  have HT := hide htv
  have hb := htv w h.right
  have c0 : w.cell? ⟨tb, to, Option.none⟩ = some (vb 96) := by
    obtain ⟨b, off, c, he, hc⟩ := hb.at 0 (by simp)
    obtain ⟨rfl, rfl, rfl⟩ := slice_same he
    exact hc
  have c1 : w.cell? ⟨tb, to + 1, Option.none⟩ = some (vb y) := by
    obtain ⟨b, off, c, he, hc⟩ := hb.at 1 (by simp)
    obtain ⟨rfl, rfl, rfl⟩ := slice_same he
    exact hc
  have c2 : w.cell? ⟨tb, to + 2, Option.none⟩ = some (vb z) := by
    obtain ⟨b, off, c, he, hc⟩ := hb.at 2 (by simp)
    obtain ⟨rfl, rfl, rfl⟩ := slice_same he
    exact hc
  have htc : d.length + 3 ≤ tc := by
    obtain ⟨a, c, he, h1, _, _, _⟩ := hb
    cases he
    simp at h1
    exact h1
  have q2 : w.cell? ⟨p, 2, Option.none⟩ = some (.int .i64 (s.phase : Int)) := cell_of_row w p 2 _ _ _ (on_blk_mul h)
  have h3I : ¬ ((d.length : Int) + 3 < 3) := by omega
  have hph := ok.phase
  clear hb htv
  rcases (show s.phase = 0 ∨ s.phase = 1 ∨ s.phase = 2 ∨ s.phase = 3 ∨ s.phase = 4 ∨ s.phase = 5 by omega) with hp | hp | hp | hp | hp | hp
  · have p0 : ((s.phase : Int) == 0) = true := by rw [hp]; rfl
    have p1 : ((s.phase : Int) == 1) = false := by rw [hp]; rfl
    have p2 : ((s.phase : Int) == 2) = false := by rw [hp]; rfl
    have p3 : ((s.phase : Int) == 3) = false := by rw [hp]; rfl
    have p4 : ((s.phase : Int) == 4) = false := by rw [hp]; rfl
    have p5 : ((s.phase : Int) == 5) = false := by rw [hp]; rfl
    have p5n : ((s.phase : Int) != 5) = true := by rw [hp]; rfl
    by_cases ho : y = 6
    · have o6 : ((y.toNat : Int) == 6) = true := by rw [ho]; rfl
      by_cases hz : z = 1
      · have r1 : ((z.toNat : Int) == 1) = true := by rw [hz]; rfl
        have hA : s.answer img y z d = s.goTo 1 := by unfold US.answer; simp [hz, hp, ho]
        rw [hA]
        clear hA
        try (have Hlen := hide hlen; clear hlen)
        try clear hp
        try clear ho
        clear hz h
        go_enter Try.func78, Try.ntmps78
        go_wp2_with fail
        go_quiet (fail)
        generalize (if tc = 3 then (some (⟨tb, to, Option.none⟩ : Addr)) else some ⟨tb, to + 3, Option.none⟩) = dA
        have H9 := hide (SP.on_of_heap (w' := w.drewN nq) H0.out rfl)
        have S9 : Hid (Str w (w.drewN nq)) := hide ⟨rfl, rfl, rfl, Nat.le_refl _⟩
        go_wp2_with fail
        refine (turn_any p iv (.slice (some ⟨mg, mo, Option.none⟩) img.length mc) rv s 1 F _ H9.out).mono ?_
        rintro e W9 ⟨⟨v, rfl⟩, h9, hs9⟩
        have HE := hide h9
        have SE := hide (S9.out.trans hs9)
        clear h9 hs9
        go_wp2_with fail
        go_end0
        refine ⟨⟨_, rfl⟩, ?_, SE.out⟩
        exact HE.out
      · have r1 : ((z.toNat : Int) == 1) = false := by
          have : z.toNat ≠ 1 := fun h => hz (UInt8.toNat_inj.1 h)
          simp only [beq_eq_false_iff_ne, ne_eq]; omega
        have hA : s.answer img y z d = s.goTo 0 := by unfold US.answer; simp [hz, hp]
        rw [hA]
        clear hA
        try (have Hlen := hide hlen; clear hlen)
        try clear hp
        try clear ho
        clear hz h
        go_enter Try.func78, Try.ntmps78
        go_wp2_with fail
        go_quiet (fail)
        generalize (if tc = 3 then (some (⟨tb, to, Option.none⟩ : Addr)) else some ⟨tb, to + 3, Option.none⟩) = dA
        have H9 := hide (SP.on_of_heap (w' := w.drewN nq) H0.out rfl)
        have S9 : Hid (Str w (w.drewN nq)) := hide ⟨rfl, rfl, rfl, Nat.le_refl _⟩
        go_wp2_with fail
        refine (turn_any p iv (.slice (some ⟨mg, mo, Option.none⟩) img.length mc) rv s 0 F _ H9.out).mono ?_
        rintro e W9 ⟨⟨v, rfl⟩, h9, hs9⟩
        have HE := hide h9
        have SE := hide (S9.out.trans hs9)
        clear h9 hs9
        go_wp2_with fail
        go_end0
        refine ⟨⟨_, rfl⟩, ?_, SE.out⟩
        exact HE.out
    · have o6 : ((y.toNat : Int) == 6) = false := by
        have : y.toNat ≠ 6 := fun h => ho (UInt8.toNat_inj.1 h)
        simp only [beq_eq_false_iff_ne, ne_eq]; omega
      by_cases hz : z = 1
      · have r1 : ((z.toNat : Int) == 1) = true := by rw [hz]; rfl
        have hA : s.answer img y z d = s := by unfold US.answer; simp [hz, hp, ho]
        rw [hA]
        clear hA
        try (have Hlen := hide hlen; clear hlen)
        try clear hp
        try clear ho
        clear hz h
        go_enter Try.func78, Try.ntmps78
        go_wp2_with fail
        go_quiet (fail)
        generalize (if tc = 3 then (some (⟨tb, to, Option.none⟩ : Addr)) else some ⟨tb, to + 3, Option.none⟩) = dA
        have H9 := hide (SP.on_of_heap (w' := w.drewN nq) H0.out rfl)
        have S9 : Hid (Str w (w.drewN nq)) := hide ⟨rfl, rfl, rfl, Nat.le_refl _⟩
        go_wp2_with fail
        go_end0
        exact ⟨⟨_, rfl⟩, H9.out, S9.out⟩
      · have r1 : ((z.toNat : Int) == 1) = false := by
          have : z.toNat ≠ 1 := fun h => hz (UInt8.toNat_inj.1 h)
          simp only [beq_eq_false_iff_ne, ne_eq]; omega
        have hA : s.answer img y z d = s.goTo 0 := by unfold US.answer; simp [hz, hp]
        rw [hA]
        clear hA
        try (have Hlen := hide hlen; clear hlen)
        try clear hp
        try clear ho
        clear hz h
        go_enter Try.func78, Try.ntmps78
        go_wp2_with fail
        go_quiet (fail)
        generalize (if tc = 3 then (some (⟨tb, to, Option.none⟩ : Addr)) else some ⟨tb, to + 3, Option.none⟩) = dA
        have H9 := hide (SP.on_of_heap (w' := w.drewN nq) H0.out rfl)
        have S9 : Hid (Str w (w.drewN nq)) := hide ⟨rfl, rfl, rfl, Nat.le_refl _⟩
        go_wp2_with fail
        refine (turn_any p iv (.slice (some ⟨mg, mo, Option.none⟩) img.length mc) rv s 0 F _ H9.out).mono ?_
        rintro e W9 ⟨⟨v, rfl⟩, h9, hs9⟩
        have HE := hide h9
        have SE := hide (S9.out.trans hs9)
        clear h9 hs9
        go_wp2_with fail
        go_end0
        refine ⟨⟨_, rfl⟩, ?_, SE.out⟩
        exact HE.out
  · have p0 : ((s.phase : Int) == 0) = false := by rw [hp]; rfl
    have p1 : ((s.phase : Int) == 1) = true := by rw [hp]; rfl
    have p2 : ((s.phase : Int) == 2) = false := by rw [hp]; rfl
    have p3 : ((s.phase : Int) == 3) = false := by rw [hp]; rfl
    have p4 : ((s.phase : Int) == 4) = false := by rw [hp]; rfl
    have p5 : ((s.phase : Int) == 5) = false := by rw [hp]; rfl
    have p5n : ((s.phase : Int) != 5) = true := by rw [hp]; rfl
    by_cases ho : y = 4
    · have o4 : ((y.toNat : Int) == 4) = true := by rw [ho]; rfl
      by_cases hz : z = 1
      · have r1 : ((z.toNat : Int) == 1) = true := by rw [hz]; rfl
        have hA : s.answer img y z d = s.goTo 2 := by unfold US.answer; simp [hz, hp, ho]
        rw [hA]
        clear hA
        try (have Hlen := hide hlen; clear hlen)
        try clear hp
        try clear ho
        clear hz h
        go_enter Try.func78, Try.ntmps78
        go_wp2_with fail
        go_quiet (fail)
        generalize (if tc = 3 then (some (⟨tb, to, Option.none⟩ : Addr)) else some ⟨tb, to + 3, Option.none⟩) = dA
        have H9 := hide (SP.on_of_heap (w' := w.drewN nq) H0.out rfl)
        have S9 : Hid (Str w (w.drewN nq)) := hide ⟨rfl, rfl, rfl, Nat.le_refl _⟩
        go_wp2_with fail
        refine (turn_any p iv (.slice (some ⟨mg, mo, Option.none⟩) img.length mc) rv s 2 F _ H9.out).mono ?_
        rintro e W9 ⟨⟨v, rfl⟩, h9, hs9⟩
        have HE := hide h9
        have SE := hide (S9.out.trans hs9)
        clear h9 hs9
        go_wp2_with fail
        go_end0
        refine ⟨⟨_, rfl⟩, ?_, SE.out⟩
        exact HE.out
      · have r1 : ((z.toNat : Int) == 1) = false := by
          have : z.toNat ≠ 1 := fun h => hz (UInt8.toNat_inj.1 h)
          simp only [beq_eq_false_iff_ne, ne_eq]; omega
        have hA : s.answer img y z d = s.goTo 0 := by unfold US.answer; simp [hz, hp]
        rw [hA]
        clear hA
        try (have Hlen := hide hlen; clear hlen)
        try clear hp
        try clear ho
        clear hz h
        go_enter Try.func78, Try.ntmps78
        go_wp2_with fail
        go_quiet (fail)
        generalize (if tc = 3 then (some (⟨tb, to, Option.none⟩ : Addr)) else some ⟨tb, to + 3, Option.none⟩) = dA
        have H9 := hide (SP.on_of_heap (w' := w.drewN nq) H0.out rfl)
        have S9 : Hid (Str w (w.drewN nq)) := hide ⟨rfl, rfl, rfl, Nat.le_refl _⟩
        go_wp2_with fail
        refine (turn_any p iv (.slice (some ⟨mg, mo, Option.none⟩) img.length mc) rv s 0 F _ H9.out).mono ?_
        rintro e W9 ⟨⟨v, rfl⟩, h9, hs9⟩
        have HE := hide h9
        have SE := hide (S9.out.trans hs9)
        clear h9 hs9
        go_wp2_with fail
        go_end0
        refine ⟨⟨_, rfl⟩, ?_, SE.out⟩
        exact HE.out
    · have o4 : ((y.toNat : Int) == 4) = false := by
        have : y.toNat ≠ 4 := fun h => ho (UInt8.toNat_inj.1 h)
        simp only [beq_eq_false_iff_ne, ne_eq]; omega
      by_cases hz : z = 1
      · have r1 : ((z.toNat : Int) == 1) = true := by rw [hz]; rfl
        have hA : s.answer img y z d = s := by unfold US.answer; simp [hz, hp, ho]
        rw [hA]
        clear hA
        try (have Hlen := hide hlen; clear hlen)
        try clear hp
        try clear ho
        clear hz h
        go_enter Try.func78, Try.ntmps78
        go_wp2_with fail
        go_quiet (fail)
        generalize (if tc = 3 then (some (⟨tb, to, Option.none⟩ : Addr)) else some ⟨tb, to + 3, Option.none⟩) = dA
        have H9 := hide (SP.on_of_heap (w' := w.drewN nq) H0.out rfl)
        have S9 : Hid (Str w (w.drewN nq)) := hide ⟨rfl, rfl, rfl, Nat.le_refl _⟩
        go_wp2_with fail
        go_end0
        exact ⟨⟨_, rfl⟩, H9.out, S9.out⟩
      · have r1 : ((z.toNat : Int) == 1) = false := by
          have : z.toNat ≠ 1 := fun h => hz (UInt8.toNat_inj.1 h)
          simp only [beq_eq_false_iff_ne, ne_eq]; omega
        have hA : s.answer img y z d = s.goTo 0 := by unfold US.answer; simp [hz, hp]
        rw [hA]
        clear hA
        try (have Hlen := hide hlen; clear hlen)
        try clear hp
        try clear ho
        clear hz h
        go_enter Try.func78, Try.ntmps78
        go_wp2_with fail
        go_quiet (fail)
        generalize (if tc = 3 then (some (⟨tb, to, Option.none⟩ : Addr)) else some ⟨tb, to + 3, Option.none⟩) = dA
        have H9 := hide (SP.on_of_heap (w' := w.drewN nq) H0.out rfl)
        have S9 : Hid (Str w (w.drewN nq)) := hide ⟨rfl, rfl, rfl, Nat.le_refl _⟩
        go_wp2_with fail
        refine (turn_any p iv (.slice (some ⟨mg, mo, Option.none⟩) img.length mc) rv s 0 F _ H9.out).mono ?_
        rintro e W9 ⟨⟨v, rfl⟩, h9, hs9⟩
        have HE := hide h9
        have SE := hide (S9.out.trans hs9)
        clear h9 hs9
        go_wp2_with fail
        go_end0
        refine ⟨⟨_, rfl⟩, ?_, SE.out⟩
        exact HE.out
  · have p0 : ((s.phase : Int) == 0) = false := by rw [hp]; rfl
    have p1 : ((s.phase : Int) == 1) = false := by rw [hp]; rfl
    have p2 : ((s.phase : Int) == 2) = true := by rw [hp]; rfl
    have p3 : ((s.phase : Int) == 3) = false := by rw [hp]; rfl
    have p4 : ((s.phase : Int) == 4) = false := by rw [hp]; rfl
    have p5 : ((s.phase : Int) == 5) = false := by rw [hp]; rfl
    have p5n : ((s.phase : Int) != 5) = true := by rw [hp]; rfl
    by_cases ho : y = 6
    · have o6 : ((y.toNat : Int) == 6) = true := by rw [ho]; rfl
      by_cases hz : z = 1
      · have r1 : ((z.toNat : Int) == 1) = true := by rw [hz]; rfl
        by_cases hlen : d.length = 12
        · have hlI : ((d.length : Int) == 12) = true := by rw [hlen]; rfl
          have hA : s.answer img y z d = (if img.length ≤ numS d 4 4 then s.goTo 5 else ({ s with from' := numS d 4 4 / 1024 * 1024, sum := numS d 8 4 } : US).goTo 3) := by unfold US.answer; simp [hz, hp, ho, hlen]
          rw [hA]
          clear hA
          obtain ⟨se, hse⟩ : ∃ x : US, x = (if img.length ≤ numS d 4 4 then s.goTo 5 else ({ s with from' := numS d 4 4 / 1024 * 1024, sum := numS d 8 4 } : US).goTo 3) := ⟨_, rfl⟩
          rw [← hse]
          have Hse := hide hse
          clear hse
          try (have Hlen := hide hlen; clear hlen)
          try clear hp
          try clear ho
          clear hz h
          go_enter Try.func78, Try.ntmps78
          go_wp2_with fail
          go_quiet (fail)
          rw [if_neg (show ¬ tc = 3 by have := Hlen.out; omega)]
          have H1 := hide (SP.on_of_heap (w' := w.drewN nq) H0.out rfl)
          have S1 : Hid (Str w (w.drewN nq)) := hide ⟨rfl, rfl, rfl, Nat.le_refl _⟩
          generalize w.drewN nq = w1 at *
          clear q2 c0 c1 c2
          have hg := on_blk_mul H1.out
          have q1 : w1.cell? ⟨p, 1, Option.none⟩ = some (.slice (some ⟨mg, mo, Option.none⟩) img.length mc) := cell_of_row w1 p 1 _ _ _ hg
          have q2 : w1.cell? ⟨p, 2, Option.none⟩ = some (.int .i64 (s.phase : Int)) := cell_of_row w1 p 2 _ _ _ hg
          have q5 : w1.cell? ⟨p, 5, Option.none⟩ = some (.int .i64 (s.from' : Int)) := cell_of_row w1 p 5 _ _ _ hg
          have q6 : w1.cell? ⟨p, 6, Option.none⟩ = some (.int .u32 (s.sum : Int)) := cell_of_row w1 p 6 _ _ _ hg
          have fr := fun j => frozen_of_row w1 p j _ _ hg
          have hlt := block_lt_of_cell q5
          clear hg
          have HDat := hide (fun (W : World) (hW : F.on W) => by
            have h1 := sub_bytes (HT.out W hW) 3 d.length (by simp; omega)
            have h2 : (List.drop 3 (96 :: y :: z :: d)).take d.length = d := by simp
            rw [h2] at h1
            exact h1)
          have hN4 := rnumber12_any _ _ w1 (IsBytes.mid12 (HDat.out w1 H1.out.right) 4 4 (by have := Hlen.out; omega)) (by rw [List.length_take, List.length_drop]; have := Hlen.out; omega)
          rw [numS_sub12 d 4 (by have := Hlen.out; omega)] at hN4
          have HN4 := hide hN4
          have hk := numS_lt d 4 4
          have hs8 := numS_lt d 8 4
          have HN8 := hide (fun (W : World) (hW : F.on W) => by
            have h1 := rnumber12_any _ _ W (IsBytes.mid12 (HDat.out W hW) 8 4 (by have := Hlen.out; omega)) (by rw [List.length_take, List.length_drop]; have := Hlen.out; omega)
            rw [numS_sub12 d 8 (by have := Hlen.out; omega)] at h1
            exact h1)
          generalize numS d 4 4 = kept at *
          generalize numS d 8 4 = sum at *
          have htc2 : 15 ≤ tc := by have := Hlen.out; omega
          clear hN4
          go_wp2_with fail
          refine HN4.out.mono ?_
          clear HN4
          rintro e w2 ⟨rfl, rfl⟩
          by_cases hc : img.length ≤ kept
          · have Hc := hide hc
            have hcI : (img.length : Int) ≤ (kept : Int) := by omega
            have H9 := H1
            have S9 := S1
            clear hc HN8 HDat
            go_wp2_with fail
            refine (turn_any p iv (.slice (some ⟨mg, mo, Option.none⟩) img.length mc) rv s 5 F _ H9.out).mono ?_
            rintro e W9 ⟨⟨v, rfl⟩, h9, hs9⟩
            have HE := hide h9
            have SE := hide (S9.out.trans hs9)
            clear h9 hs9
            go_wp2_with fail
            refine bodyPost_ret (v := .tuple #[]) (by simp [results, Try.results78, go_sem]) rfl ⟨⟨_, rfl⟩, ?_, SE.out⟩
            rw [Hse.out, if_pos Hc.out]
            exact HE.out
          · have Hc := hide hc
            have hcI : ¬ (img.length : Int) ≤ (kept : Int) := by omega
            have hdv : ((kept : Int)).tdiv 1024 = ((kept / 1024 : Nat) : Int) := by rw [Int.tdiv_eq_ediv_of_nonneg (by omega)]; omega
            have h2 := H1.out.setCell (i := 5) (.int .i64 ((kept : Int) / 1024 * 1024))
            have hg2 := on_blk_mul h2
            have fr2 := fun j => frozen_of_row (w1.setCell ⟨p, 5, Option.none⟩ (.int .i64 ((kept : Int) / 1024 * 1024))) p j _ _ hg2
            have q62 : (w1.setCell ⟨p, 5, Option.none⟩ (.int .i64 ((kept : Int) / 1024 * 1024))).cell? ⟨p, 6, Option.none⟩ = some (.int .u32 (s.sum : Int)) := cell_of_row _ p 6 _ _ _ hg2
            have HN9 := hide (HN8.out _ h2.right)
            have H9 := hide (show (blk p (.cells (mC22 iv (.slice (some ⟨mg, mo, Option.none⟩) img.length mc) rv ({ s with from' := kept / 1024 * 1024, sum := sum } : US)) 84 (0, 0)) * F).on ((w1.setCell ⟨p, 5, Option.none⟩ (.int .i64 ((kept : Int) / 1024 * 1024))).setCell ⟨p, 6, Option.none⟩ (.int .u32 (sum : Int))) from by
              have h3 := h2.setCell (i := 6) (.int .u32 (sum : Int))
              rw [show (mC22 iv (.slice (some ⟨mg, mo, Option.none⟩) img.length mc) rv s).setIfInBounds 5 (.int .i64 ((kept : Int) / 1024 * 1024)) = (mC22 iv (.slice (some ⟨mg, mo, Option.none⟩) img.length mc) rv s).setIfInBounds 5 (.int .i64 ((kept / 1024 * 1024 : Nat) : Int)) by rw [show ((kept / 1024 * 1024 : Nat) : Int) = (kept : Int) / 1024 * 1024 by omega]] at h3
              exact h3)
            have S9 := hide ((S1.out.setCell ⟨p, 5, Option.none⟩ (.int .i64 ((kept : Int) / 1024 * 1024))).setCell ⟨p, 6, Option.none⟩ (.int .u32 (sum : Int)))
            clear hc HN8 HDat h2 hg2
            go_wp2_with fail
            refine HN9.out.mono ?_
            clear HN9
            rintro e w3 ⟨rfl, rfl⟩
            go_wp2_with fail
            refine (turn_any p iv (.slice (some ⟨mg, mo, Option.none⟩) img.length mc) rv ({ s with from' := kept / 1024 * 1024, sum := sum } : US) 3 F _ H9.out).mono ?_
            rintro e W9 ⟨⟨v, rfl⟩, h9, hs9⟩
            have HE := hide h9
            have SE := hide (S9.out.trans hs9)
            clear h9 hs9
            go_wp2_with fail
            go_end0
            refine ⟨⟨_, rfl⟩, ?_, SE.out⟩
            rw [Hse.out, if_neg Hc.out]
            exact HE.out
        · have hlI : ((d.length : Int) == 12) = false := by simp only [beq_eq_false_iff_ne, ne_eq]; omega
          have hA : s.answer img y z d = s := by unfold US.answer; simp [hz, hp, ho, hlen]
          rw [hA]
          clear hA
          try (have Hlen := hide hlen; clear hlen)
          try clear hp
          try clear ho
          clear hz h
          go_enter Try.func78, Try.ntmps78
          go_wp2_with fail
          go_quiet (fail)
          generalize (if tc = 3 then (some (⟨tb, to, Option.none⟩ : Addr)) else some ⟨tb, to + 3, Option.none⟩) = dA
          have H9 := hide (SP.on_of_heap (w' := w.drewN nq) H0.out rfl)
          have S9 : Hid (Str w (w.drewN nq)) := hide ⟨rfl, rfl, rfl, Nat.le_refl _⟩
          go_wp2_with fail
          go_end0
          exact ⟨⟨_, rfl⟩, H9.out, S9.out⟩
      · have r1 : ((z.toNat : Int) == 1) = false := by
          have : z.toNat ≠ 1 := fun h => hz (UInt8.toNat_inj.1 h)
          simp only [beq_eq_false_iff_ne, ne_eq]; omega
        have hA : s.answer img y z d = s.goTo 0 := by unfold US.answer; simp [hz, hp]
        rw [hA]
        clear hA
        try (have Hlen := hide hlen; clear hlen)
        try clear hp
        try clear ho
        clear hz h
        go_enter Try.func78, Try.ntmps78
        go_wp2_with fail
        go_quiet (fail)
        generalize (if tc = 3 then (some (⟨tb, to, Option.none⟩ : Addr)) else some ⟨tb, to + 3, Option.none⟩) = dA
        have H9 := hide (SP.on_of_heap (w' := w.drewN nq) H0.out rfl)
        have S9 : Hid (Str w (w.drewN nq)) := hide ⟨rfl, rfl, rfl, Nat.le_refl _⟩
        go_wp2_with fail
        refine (turn_any p iv (.slice (some ⟨mg, mo, Option.none⟩) img.length mc) rv s 0 F _ H9.out).mono ?_
        rintro e W9 ⟨⟨v, rfl⟩, h9, hs9⟩
        have HE := hide h9
        have SE := hide (S9.out.trans hs9)
        clear h9 hs9
        go_wp2_with fail
        go_end0
        refine ⟨⟨_, rfl⟩, ?_, SE.out⟩
        exact HE.out
    · have o6 : ((y.toNat : Int) == 6) = false := by
        have : y.toNat ≠ 6 := fun h => ho (UInt8.toNat_inj.1 h)
        simp only [beq_eq_false_iff_ne, ne_eq]; omega
      by_cases hz : z = 1
      · have r1 : ((z.toNat : Int) == 1) = true := by rw [hz]; rfl
        have hA : s.answer img y z d = s := by unfold US.answer; simp [hz, hp, ho]
        rw [hA]
        clear hA
        try (have Hlen := hide hlen; clear hlen)
        try clear hp
        try clear ho
        clear hz h
        go_enter Try.func78, Try.ntmps78
        go_wp2_with fail
        go_quiet (fail)
        generalize (if tc = 3 then (some (⟨tb, to, Option.none⟩ : Addr)) else some ⟨tb, to + 3, Option.none⟩) = dA
        have H9 := hide (SP.on_of_heap (w' := w.drewN nq) H0.out rfl)
        have S9 : Hid (Str w (w.drewN nq)) := hide ⟨rfl, rfl, rfl, Nat.le_refl _⟩
        go_wp2_with fail
        go_end0
        exact ⟨⟨_, rfl⟩, H9.out, S9.out⟩
      · have r1 : ((z.toNat : Int) == 1) = false := by
          have : z.toNat ≠ 1 := fun h => hz (UInt8.toNat_inj.1 h)
          simp only [beq_eq_false_iff_ne, ne_eq]; omega
        have hA : s.answer img y z d = s.goTo 0 := by unfold US.answer; simp [hz, hp]
        rw [hA]
        clear hA
        try (have Hlen := hide hlen; clear hlen)
        try clear hp
        try clear ho
        clear hz h
        go_enter Try.func78, Try.ntmps78
        go_wp2_with fail
        go_quiet (fail)
        generalize (if tc = 3 then (some (⟨tb, to, Option.none⟩ : Addr)) else some ⟨tb, to + 3, Option.none⟩) = dA
        have H9 := hide (SP.on_of_heap (w' := w.drewN nq) H0.out rfl)
        have S9 : Hid (Str w (w.drewN nq)) := hide ⟨rfl, rfl, rfl, Nat.le_refl _⟩
        go_wp2_with fail
        refine (turn_any p iv (.slice (some ⟨mg, mo, Option.none⟩) img.length mc) rv s 0 F _ H9.out).mono ?_
        rintro e W9 ⟨⟨v, rfl⟩, h9, hs9⟩
        have HE := hide h9
        have SE := hide (S9.out.trans hs9)
        clear h9 hs9
        go_wp2_with fail
        go_end0
        refine ⟨⟨_, rfl⟩, ?_, SE.out⟩
        exact HE.out
  · have p0 : ((s.phase : Int) == 0) = false := by rw [hp]; rfl
    have p1 : ((s.phase : Int) == 1) = false := by rw [hp]; rfl
    have p2 : ((s.phase : Int) == 2) = false := by rw [hp]; rfl
    have p3 : ((s.phase : Int) == 3) = true := by rw [hp]; rfl
    have p4 : ((s.phase : Int) == 4) = false := by rw [hp]; rfl
    have p5 : ((s.phase : Int) == 5) = false := by rw [hp]; rfl
    have p5n : ((s.phase : Int) != 5) = true := by rw [hp]; rfl
    by_cases ho : y = 3
    · have o3 : ((y.toNat : Int) == 3) = true := by rw [ho]; rfl
      by_cases hz : z = 1
      · have r1 : ((z.toNat : Int) == 1) = true := by rw [hz]; rfl
        by_cases hlen : d.length = 8
        · have hlI : ((d.length : Int) == 8) = true := by rw [hlen]; rfl
          have hA : s.answer img y z d = (if numS d 0 4 = s.from' + (objU img s.from').length ∧ numS d 4 4 = crcUpd s.sum (objU img s.from') then s.goTo 4 else s.goTo 0) := by unfold US.answer; simp [hz, hp, ho, hlen]
          rw [hA]
          clear hA
          obtain ⟨se, hse⟩ : ∃ x : US, x = (if numS d 0 4 = s.from' + (objU img s.from').length ∧ numS d 4 4 = crcUpd s.sum (objU img s.from') then s.goTo 4 else s.goTo 0) := ⟨_, rfl⟩
          rw [← hse]
          have Hse := hide hse
          clear hse
          have hfr := ok.here (.inl hp)
          try (have Hlen := hide hlen; clear hlen)
          try clear hp
          try clear ho
          clear hz h
          go_enter Try.func78, Try.ntmps78
          go_wp2_with fail
          go_quiet (fail)
          rw [if_neg (show ¬ tc = 3 by have := Hlen.out; omega)]
          have H1 := hide (SP.on_of_heap (w' := w.drewN nq) H0.out rfl)
          have S1 : Hid (Str w (w.drewN nq)) := hide ⟨rfl, rfl, rfl, Nat.le_refl _⟩
          generalize w.drewN nq = w1 at *
          clear q2 c0 c1 c2
          have hg := on_blk_mul H1.out
          have q1 : w1.cell? ⟨p, 1, Option.none⟩ = some (.slice (some ⟨mg, mo, Option.none⟩) img.length mc) := cell_of_row w1 p 1 _ _ _ hg
          have q2 : w1.cell? ⟨p, 2, Option.none⟩ = some (.int .i64 (s.phase : Int)) := cell_of_row w1 p 2 _ _ _ hg
          have q5 : w1.cell? ⟨p, 5, Option.none⟩ = some (.int .i64 (s.from' : Int)) := cell_of_row w1 p 5 _ _ _ hg
          have q6 : w1.cell? ⟨p, 6, Option.none⟩ = some (.int .u32 (s.sum : Int)) := cell_of_row w1 p 6 _ _ _ hg
          have fr := fun j => frozen_of_row w1 p j _ _ hg
          have hlt := block_lt_of_cell q5
          clear hg
          have HDat := hide (fun (W : World) (hW : F.on W) => by
            have h1 := sub_bytes (HT.out W hW) 3 d.length (by simp; omega)
            have h2 : (List.drop 3 (96 :: y :: z :: d)).take d.length = d := by simp
            rw [h2] at h1
            exact h1)
          have HN4 := hide (fun (W : World) (hW : F.on W) => by
            have h1 := rnumber12_any _ _ W (IsBytes.mid12 (HDat.out W hW) 4 4 (by have := Hlen.out; omega)) (by rw [List.length_take, List.length_drop]; have := Hlen.out; omega)
            rw [numS_sub12 d 4 (by have := Hlen.out; omega)] at h1
            exact h1)
          have HN0 := hide (fun (W : World) (hW : F.on W) => by
            have h1 := rnumber12_any _ _ W (IsBytes.mid12 (HDat.out W hW) 0 4 (by have := Hlen.out; omega)) (by rw [List.length_take, List.length_drop]; have := Hlen.out; omega)
            rw [numS_sub12 d 0 (by have := Hlen.out; omega), Nat.add_zero, Nat.sub_zero] at h1
            exact h1)
          have HOb := hide (fun (W : World) (hW : F.on W) => refUpdate_any s.sum ok.sum _ _ W (obj_bytes (hmv W hW) hfr))
          have hk := numS_lt d 0 4
          have hs8 := numS_lt d 4 4
          generalize numS d 0 4 = n at *
          generalize numS d 4 4 = sum at *
          have htc2 : 11 ≤ tc := by have := Hlen.out; omega
          have hc4 : (4 : Int) ≤ ((tc - 3 : Nat) : Int) := by omega
          have hc8 : (8 : Int) ≤ ((tc - 3 : Nat) : Int) := by omega
          have hn4 : ¬ (tc - 3 = 4) := by omega
          have Hol := hide (objU_len img s.from')
          have hlen : (objU img s.from').length ≤ 1024 := by rw [Hol.out]; omega
          obtain ⟨cu, hcu⟩ : ∃ x, x = crcUpd s.sum (objU img s.from') := ⟨_, rfl⟩
          rw [← hcu] at HOb Hse
          clear hcu
          go_wp2_with fail
          go_quiet ((go_at_call 69; exact Calls.quiet_of (mnext_q p iv rv s mg mo mc img hfr hl F _ (SP.on_of_heap H1.out rfl) hmc)))
          have H2 := hide (SP.on_of_heap (w' := w1.drewN nq) H1.out rfl)
          have S2 : Hid (Str w (w1.drewN nq)) := hide ⟨S1.out.os, S1.out.tape, S1.out.output, S1.out.size⟩
          clear q1 q2 q5 q6 fr hlt H1 S1
          generalize w1.drewN nq = w2 at *
          have H1 := H2
          have S1 := S2
          clear H2 S2
          have q6 : w2.cell? ⟨p, 6, Option.none⟩ = some (.int .u32 (s.sum : Int)) := cell_of_row w2 p 6 _ _ _ (on_blk_mul H1.out)
          go_wp2_with fail
          by_cases hc : n = s.from' + (objU img s.from').length
          case neg =>
            have Hc := hide hc
            have e1 : ((n : Int) == (s.from' : Int) + ((objU img s.from').length : Int)) = false := by simp only [beq_eq_false_iff_ne, ne_eq]; omega
            clear hc
            go_quiet (first | (go_at_call 95; with_reducible refine Calls.quiet_of_same ((HN0.out _ ?_).mono fun e w' h => ⟨h.1, h.2.symm⟩); exact SP.on_of_heap H1.out.right rfl) | fail)
            have H9 := hide (SP.on_of_heap (w' := w2.drewN nq) H1.out rfl)
            have S9 : Hid (Str w (w2.drewN nq)) := hide ⟨S1.out.os, S1.out.tape, S1.out.output, S1.out.size⟩
            go_wp2_with fail
            refine (turn_any p iv (.slice (some ⟨mg, mo, Option.none⟩) img.length mc) rv s 0 F _ H9.out).mono ?_
            rintro e W9 ⟨⟨v, rfl⟩, h9, hs9⟩
            have HE := hide h9
            have SE := hide (S9.out.trans hs9)
            clear h9 hs9
            go_wp2_with fail
            go_end0
            refine ⟨⟨_, rfl⟩, ?_, SE.out⟩
            rw [Hse.out, if_neg (fun h => Hc.out h.1)]
            exact HE.out
          case pos =>
            have Hc := hide hc
            have e1 : ((n : Int) == (s.from' : Int) + ((objU img s.from').length : Int)) = true := by simp only [beq_iff_eq]; omega
            clear hc
            by_cases hq : sum = cu
            · have Hq := hide hq
              have e2 : ((sum : Int) == (cu : Int)) = true := by simp only [beq_iff_eq]; omega
              clear hq
              go_quiet (first | (go_at_call 95; with_reducible refine Calls.quiet_of_same ((HN0.out _ ?_).mono fun e w' h => ⟨h.1, h.2.symm⟩); exact SP.on_of_heap H1.out.right rfl) | (go_at_call 95; with_reducible refine Calls.quiet_of_same ((HN4.out _ ?_).mono fun e w' h => ⟨h.1, h.2.symm⟩); exact SP.on_of_heap H1.out.right rfl) | (go_at_call 69; exact Calls.quiet_of (mnext_q p iv rv s mg mo mc img hfr hl F _ (SP.on_of_heap H1.out rfl) hmc)) | (go_at_call 73; with_reducible refine Calls.quiet_of_same ((HOb.out _ ?_).mono fun e w' h => ⟨h.1, h.2.symm⟩); exact SP.on_of_heap H1.out.right rfl))
              have H9 := hide (SP.on_of_heap (w' := w2.drewN nq) H1.out rfl)
              have S9 : Hid (Str w (w2.drewN nq)) := hide ⟨S1.out.os, S1.out.tape, S1.out.output, S1.out.size⟩
              go_wp2_with fail
              refine (turn_any p iv (.slice (some ⟨mg, mo, Option.none⟩) img.length mc) rv s 4 F _ H9.out).mono ?_
              rintro e W9 ⟨⟨v, rfl⟩, h9, hs9⟩
              have HE := hide h9
              have SE := hide (S9.out.trans hs9)
              clear h9 hs9
              go_wp2_with fail
              go_end0
              refine ⟨⟨_, rfl⟩, ?_, SE.out⟩
              rw [Hse.out, if_pos ⟨Hc.out, Hq.out⟩]
              exact HE.out
            · have Hq := hide hq
              have e2 : ((sum : Int) == (cu : Int)) = false := by simp only [beq_eq_false_iff_ne, ne_eq]; omega
              clear hq
              go_quiet (first | (go_at_call 95; with_reducible refine Calls.quiet_of_same ((HN0.out _ ?_).mono fun e w' h => ⟨h.1, h.2.symm⟩); exact SP.on_of_heap H1.out.right rfl) | (go_at_call 95; with_reducible refine Calls.quiet_of_same ((HN4.out _ ?_).mono fun e w' h => ⟨h.1, h.2.symm⟩); exact SP.on_of_heap H1.out.right rfl) | (go_at_call 69; exact Calls.quiet_of (mnext_q p iv rv s mg mo mc img hfr hl F _ (SP.on_of_heap H1.out rfl) hmc)) | (go_at_call 73; with_reducible refine Calls.quiet_of_same ((HOb.out _ ?_).mono fun e w' h => ⟨h.1, h.2.symm⟩); exact SP.on_of_heap H1.out.right rfl))
              have H9 := hide (SP.on_of_heap (w' := w2.drewN nq) H1.out rfl)
              have S9 : Hid (Str w (w2.drewN nq)) := hide ⟨S1.out.os, S1.out.tape, S1.out.output, S1.out.size⟩
              go_wp2_with fail
              refine (turn_any p iv (.slice (some ⟨mg, mo, Option.none⟩) img.length mc) rv s 0 F _ H9.out).mono ?_
              rintro e W9 ⟨⟨v, rfl⟩, h9, hs9⟩
              have HE := hide h9
              have SE := hide (S9.out.trans hs9)
              clear h9 hs9
              go_wp2_with fail
              go_end0
              refine ⟨⟨_, rfl⟩, ?_, SE.out⟩
              rw [Hse.out, if_neg (fun h => Hq.out h.2)]
              exact HE.out
        · have hlI : ((d.length : Int) == 8) = false := by simp only [beq_eq_false_iff_ne, ne_eq]; omega
          have hA : s.answer img y z d = s := by unfold US.answer; simp [hz, hp, ho, hlen]
          rw [hA]
          clear hA
          try (have Hlen := hide hlen; clear hlen)
          try clear hp
          try clear ho
          clear hz h
          go_enter Try.func78, Try.ntmps78
          go_wp2_with fail
          go_quiet (fail)
          generalize (if tc = 3 then (some (⟨tb, to, Option.none⟩ : Addr)) else some ⟨tb, to + 3, Option.none⟩) = dA
          have H9 := hide (SP.on_of_heap (w' := w.drewN nq) H0.out rfl)
          have S9 : Hid (Str w (w.drewN nq)) := hide ⟨rfl, rfl, rfl, Nat.le_refl _⟩
          go_wp2_with fail
          go_end0
          exact ⟨⟨_, rfl⟩, H9.out, S9.out⟩
      · have r1 : ((z.toNat : Int) == 1) = false := by
          have : z.toNat ≠ 1 := fun h => hz (UInt8.toNat_inj.1 h)
          simp only [beq_eq_false_iff_ne, ne_eq]; omega
        have hA : s.answer img y z d = s.goTo 0 := by unfold US.answer; simp [hz, hp]
        rw [hA]
        clear hA
        try (have Hlen := hide hlen; clear hlen)
        try clear hp
        try clear ho
        clear hz h
        go_enter Try.func78, Try.ntmps78
        go_wp2_with fail
        go_quiet (fail)
        generalize (if tc = 3 then (some (⟨tb, to, Option.none⟩ : Addr)) else some ⟨tb, to + 3, Option.none⟩) = dA
        have H9 := hide (SP.on_of_heap (w' := w.drewN nq) H0.out rfl)
        have S9 : Hid (Str w (w.drewN nq)) := hide ⟨rfl, rfl, rfl, Nat.le_refl _⟩
        go_wp2_with fail
        refine (turn_any p iv (.slice (some ⟨mg, mo, Option.none⟩) img.length mc) rv s 0 F _ H9.out).mono ?_
        rintro e W9 ⟨⟨v, rfl⟩, h9, hs9⟩
        have HE := hide h9
        have SE := hide (S9.out.trans hs9)
        clear h9 hs9
        go_wp2_with fail
        go_end0
        refine ⟨⟨_, rfl⟩, ?_, SE.out⟩
        exact HE.out
    · have o3 : ((y.toNat : Int) == 3) = false := by
        have : y.toNat ≠ 3 := fun h => ho (UInt8.toNat_inj.1 h)
        simp only [beq_eq_false_iff_ne, ne_eq]; omega
      by_cases hz : z = 1
      · have r1 : ((z.toNat : Int) == 1) = true := by rw [hz]; rfl
        have hA : s.answer img y z d = s := by unfold US.answer; simp [hz, hp, ho]
        rw [hA]
        clear hA
        try (have Hlen := hide hlen; clear hlen)
        try clear hp
        try clear ho
        clear hz h
        go_enter Try.func78, Try.ntmps78
        go_wp2_with fail
        go_quiet (fail)
        generalize (if tc = 3 then (some (⟨tb, to, Option.none⟩ : Addr)) else some ⟨tb, to + 3, Option.none⟩) = dA
        have H9 := hide (SP.on_of_heap (w' := w.drewN nq) H0.out rfl)
        have S9 : Hid (Str w (w.drewN nq)) := hide ⟨rfl, rfl, rfl, Nat.le_refl _⟩
        go_wp2_with fail
        go_end0
        exact ⟨⟨_, rfl⟩, H9.out, S9.out⟩
      · have r1 : ((z.toNat : Int) == 1) = false := by
          have : z.toNat ≠ 1 := fun h => hz (UInt8.toNat_inj.1 h)
          simp only [beq_eq_false_iff_ne, ne_eq]; omega
        have hA : s.answer img y z d = s.goTo 0 := by unfold US.answer; simp [hz, hp]
        rw [hA]
        clear hA
        try (have Hlen := hide hlen; clear hlen)
        try clear hp
        try clear ho
        clear hz h
        go_enter Try.func78, Try.ntmps78
        go_wp2_with fail
        go_quiet (fail)
        generalize (if tc = 3 then (some (⟨tb, to, Option.none⟩ : Addr)) else some ⟨tb, to + 3, Option.none⟩) = dA
        have H9 := hide (SP.on_of_heap (w' := w.drewN nq) H0.out rfl)
        have S9 : Hid (Str w (w.drewN nq)) := hide ⟨rfl, rfl, rfl, Nat.le_refl _⟩
        go_wp2_with fail
        refine (turn_any p iv (.slice (some ⟨mg, mo, Option.none⟩) img.length mc) rv s 0 F _ H9.out).mono ?_
        rintro e W9 ⟨⟨v, rfl⟩, h9, hs9⟩
        have HE := hide h9
        have SE := hide (S9.out.trans hs9)
        clear h9 hs9
        go_wp2_with fail
        go_end0
        refine ⟨⟨_, rfl⟩, ?_, SE.out⟩
        exact HE.out
  · have p0 : ((s.phase : Int) == 0) = false := by rw [hp]; rfl
    have p1 : ((s.phase : Int) == 1) = false := by rw [hp]; rfl
    have p2 : ((s.phase : Int) == 2) = false := by rw [hp]; rfl
    have p3 : ((s.phase : Int) == 3) = false := by rw [hp]; rfl
    have p4 : ((s.phase : Int) == 4) = true := by rw [hp]; rfl
    have p5 : ((s.phase : Int) == 5) = false := by rw [hp]; rfl
    have p5n : ((s.phase : Int) != 5) = true := by rw [hp]; rfl
    by_cases ho : y = 4
    · have o4 : ((y.toNat : Int) == 4) = true := by rw [ho]; rfl
      by_cases hz : z = 1
      · have r1 : ((z.toNat : Int) == 1) = true := by rw [hz]; rfl
        have hA : s.answer img y z d = (if img.length ≤ s.from' + 1024 then ({ s with from' := s.from' + 1024, sum := crcUpd s.sum (objU img s.from') } : US).goTo 5 else ({ s with from' := s.from' + 1024, sum := crcUpd s.sum (objU img s.from') } : US).goTo 3) := by unfold US.answer; simp [hz, hp, ho]
        rw [hA]
        clear hA
        obtain ⟨se, hse⟩ : ∃ x : US, x = (if img.length ≤ s.from' + 1024 then ({ s with from' := s.from' + 1024, sum := crcUpd s.sum (objU img s.from') } : US).goTo 5 else ({ s with from' := s.from' + 1024, sum := crcUpd s.sum (objU img s.from') } : US).goTo 3) := ⟨_, rfl⟩
        rw [← hse]
        have Hse := hide hse
        clear hse
        have hfr := ok.here (.inr hp)
        try (have Hlen := hide hlen; clear hlen)
        try clear hp
        try clear ho
        clear hz h
        go_enter Try.func78, Try.ntmps78
        go_wp2_with fail
        go_quiet (fail)
        generalize (if tc = 3 then (some (⟨tb, to, Option.none⟩ : Addr)) else some ⟨tb, to + 3, Option.none⟩) = dA
        have H1 := hide (SP.on_of_heap (w' := w.drewN nq) H0.out rfl)
        have S1 : Hid (Str w (w.drewN nq)) := hide ⟨rfl, rfl, rfl, Nat.le_refl _⟩
        generalize w.drewN nq = w1 at *
        clear q2 c0 c1 c2
        have hg := on_blk_mul H1.out
        have q1 : w1.cell? ⟨p, 1, Option.none⟩ = some (.slice (some ⟨mg, mo, Option.none⟩) img.length mc) := cell_of_row w1 p 1 _ _ _ hg
        have q2 : w1.cell? ⟨p, 2, Option.none⟩ = some (.int .i64 (s.phase : Int)) := cell_of_row w1 p 2 _ _ _ hg
        have q5 : w1.cell? ⟨p, 5, Option.none⟩ = some (.int .i64 (s.from' : Int)) := cell_of_row w1 p 5 _ _ _ hg
        have q6 : w1.cell? ⟨p, 6, Option.none⟩ = some (.int .u32 (s.sum : Int)) := cell_of_row w1 p 6 _ _ _ hg
        have fr := fun j => frozen_of_row w1 p j _ _ hg
        have hlt := block_lt_of_cell q5
        clear hg
        have HOb := hide (fun (W : World) (hW : F.on W) => refUpdate_any s.sum ok.sum _ _ W (obj_bytes (hmv W hW) hfr))
        obtain ⟨cu, hcu⟩ : ∃ x, x = crcUpd s.sum (objU img s.from') := ⟨_, rfl⟩
        have hcl : cu < 4294967296 := by rw [hcu]; exact crcUpd_lt _ _
        rw [← hcu] at HOb Hse
        have M6 := hide (fun (X : World) (hX : Stay w1 X) => stay_cell q6 hX)
        clear hcu q1 q5 q6 fr hlt
        go_wp2_with fail
        refine wp_region_tail 10 [isV (.pointer (some ⟨p, 0, Option.none⟩)), isV (.pointer (some ⟨p, 0, Option.none⟩)), isV (.pointer (some ⟨p, 0, Option.none⟩)), isV (.pointer (some ⟨p, 6, Option.none⟩)), isV (.int .u32 (s.sum : Int)), isV (.pointer (some ⟨p, 0, Option.none⟩)), isV (.slice (some ⟨mg, mo + s.from', Option.none⟩) (objU img s.from').length (mc - s.from')), isV (.int .u32 (cu : Int)), isV (.pointer (some ⟨p, 0, Option.none⟩)), isV (.pointer (some ⟨p, 6, Option.none⟩))]
          (by simp only [List.take_succ_cons, List.take_zero]; rfl) (by simp only [List.drop_succ_cons, List.drop_zero]; rfl) (by kernel_rfl) (by kernel_rfl) (by kernel_rfl) (by decide) rfl ?keep ?todo ?rest
        case keep => exact ⟨Keep.isV _, Keep.isV _, Keep.isV _, Keep.isV _, Keep.isV _, Keep.isV _, Keep.isV _, Keep.isV _, Keep.isV _, Keep.isV _, trivial⟩
        case todo =>
          refine ⟨?_, ?_, ?_, ?_, ?_, ?_, ?_, ?_, ?_, ?_, trivial⟩
          · intro ev X hT hb hk hf
            have e0 : ev (.tmp 0) = .pointer (some ⟨p, 0, Option.none⟩) := hk.1
            exact OpOk.move rfl e0 ⟨rfl, Stay.refl _⟩
          · intro ev X hT hb hk hf
            have e0 : ev (.tmp 0) = .pointer (some ⟨p, 0, Option.none⟩) := hk.1
            exact OpOk.move rfl e0 ⟨rfl, Stay.refl _⟩
          · intro ev X hT hb hk hf
            have e0 : ev (.tmp 165) = .pointer (some ⟨p, 0, Option.none⟩) := hf.1
            exact OpOk.run (v := .pointer (some ⟨p, 0, Option.none⟩)) (W' := X) (by simp [execOp, e0, hb.1, hu, go_sem]) ⟨rfl, Stay.refl _⟩
          · intro ev X hT hb hk hf
            have e0 : ev (.tmp 166) = .pointer (some ⟨p, 0, Option.none⟩) := hf.1
            exact OpOk.run (v := .pointer (some ⟨p, 6, Option.none⟩)) (W' := X) (by simp [execOp, e0, hb.1, hu, go_sem]) ⟨rfl, Stay.refl _⟩
          · intro ev X hT hb hk hf
            have e0 : ev (.tmp 167) = .pointer (some ⟨p, 6, Option.none⟩) := hf.1
            have cW := M6.out X hT
            exact OpOk.run (v := .int .u32 (s.sum : Int)) (W' := X) (by simp [execOp, e0, cW, go_sem]) ⟨rfl, Stay.refl _⟩
          · intro ev X hT hb hk hf
            have e0 : ev (.tmp 0) = .pointer (some ⟨p, 0, Option.none⟩) := hk.1
            exact OpOk.move rfl e0 ⟨rfl, Stay.refl _⟩
          · intro ev X hT hb hk hf
            have e0 : ev (.tmp 169) = .pointer (some ⟨p, 0, Option.none⟩) := hf.1
            refine OpOk.enters (f := 69) (args := #[ptrV p]) (W' := X) (by simp [execOp, resolve, invoke, e0, hb.1, hb.2.1, go_sem]) ((mnext_any p iv rv s mg mo mc img hfr hl F X (H1.out.below hT) hmc).mono ?_)
            rintro e X2 ⟨rfl, h2⟩
            exact ⟨_, rfl, rfl, h2⟩
          · intro ev X hT hb hk hf
            have e0 : ev (.tmp 168) = .int .u32 (s.sum : Int) := hf.1
            have e1 : ev (.tmp 170) = .slice (some ⟨mg, mo + s.from', Option.none⟩) (objU img s.from').length (mc - s.from') := hf.2.1
            refine OpOk.enters (f := 73) (args := #[.int .u32 (s.sum : Int), .slice (some ⟨mg, mo + s.from', Option.none⟩) (objU img s.from').length (mc - s.from')]) (W' := X) (by simp [execOp, resolve, invoke, e0, e1, hb.1, hb.2.1, go_sem]) ((HOb.out X (H1.out.below hT).right).mono ?_)
            rintro e X2 ⟨rfl, rfl⟩
            exact ⟨_, rfl, rfl, Stay.refl _⟩
          · intro ev X hT hb hk hf
            have e0 : ev (.tmp 164) = .pointer (some ⟨p, 0, Option.none⟩) := hf.1
            exact OpOk.run (v := .pointer (some ⟨p, 0, Option.none⟩)) (W' := X) (by simp [execOp, e0, hb.1, hu, go_sem]) ⟨rfl, Stay.refl _⟩
          · intro ev X hT hb hk hf
            have e0 : ev (.tmp 172) = .pointer (some ⟨p, 0, Option.none⟩) := hf.1
            exact OpOk.run (v := .pointer (some ⟨p, 6, Option.none⟩)) (W' := X) (by simp [execOp, e0, hb.1, hu, go_sem]) ⟨rfl, Stay.refl _⟩
        case rest =>
          intro X hT
          rintro _ rfl _ rfl _ rfl _ rfl _ rfl _ rfl _ rfl _ rfl _ rfl _ rfl
          have h2 := H1.out.below hT
          have hg := on_blk_mul h2
          have fr := fun j => frozen_of_row X p j _ _ hg
          have q5 : X.cell? ⟨p, 5, Option.none⟩ = some (.int .i64 (s.from' : Int)) := cell_of_row X p 5 _ _ _ hg
          have q6 : X.cell? ⟨p, 6, Option.none⟩ = some (.int .u32 (s.sum : Int)) := cell_of_row X p 6 _ _ _ hg
          have hlt := block_lt_of_cell q5
          have h3 : (blk p (.cells (mC22 iv (.slice (some ⟨mg, mo, Option.none⟩) img.length mc) rv ({ s with from' := s.from' + 1024, sum := cu } : US)) 84 (0, 0)) * F).on ((X.setCell ⟨p, 6, Option.none⟩ (.int .u32 (cu : Int))).setCell ⟨p, 5, Option.none⟩ (.int .i64 ((s.from' : Int) + 1024))) := (h2.setCell (i := 6) (.int .u32 (cu : Int))).setCell (i := 5) (.int .i64 ((s.from' : Int) + 1024))
          have H3 := hide h3
          have S3 := hide (S1.out.trans (((Str.below hT).setCell ⟨p, 6, Option.none⟩ (.int .u32 (cu : Int))).setCell ⟨p, 5, Option.none⟩ (.int .i64 ((s.from' : Int) + 1024))))
          clear hT h2 hg h3 H1 S1 HOb M6 q2
          go_wp2
          refine Rest.done ?_
          go_wp2_with fail
          generalize (X.setCell ⟨p, 6, Option.none⟩ (.int .u32 (cu : Int))).setCell ⟨p, 5, Option.none⟩ (.int .i64 ((s.from' : Int) + 1024)) = X3 at *
          clear fr q5 q6 hlt
          have hg := on_blk_mul H3.out
          have q1 : X3.cell? ⟨p, 1, Option.none⟩ = some (.slice (some ⟨mg, mo, Option.none⟩) img.length mc) := cell_of_row X3 p 1 _ _ _ hg
          have q5 : X3.cell? ⟨p, 5, Option.none⟩ = some (.int .i64 ((s.from' : Int) + 1024)) := cell_of_row X3 p 5 _ _ _ hg
          clear hg
          by_cases hc : img.length ≤ s.from' + 1024
          · have Hc := hide hc
            have hcI : (img.length : Int) ≤ (s.from' : Int) + 1024 := by omega
            clear hc
            go_wp2_with fail
            go_quiet (fail)
            have H9 := hide (SP.on_of_heap (w' := X3.drewN nq) H3.out rfl)
            have S9 : Hid (Str w (X3.drewN nq)) := hide ⟨S3.out.os, S3.out.tape, S3.out.output, S3.out.size⟩
            go_wp2_with fail
            refine (turn_any p iv (.slice (some ⟨mg, mo, Option.none⟩) img.length mc) rv ({ s with from' := s.from' + 1024, sum := cu } : US) 5 F _ H9.out).mono ?_
            rintro e W9 ⟨⟨v, rfl⟩, h9, hs9⟩
            have HE := hide h9
            have SE := hide (S9.out.trans hs9)
            clear h9 hs9
            go_wp2_with fail
            go_end0
            refine ⟨⟨_, rfl⟩, ?_, SE.out⟩
            rw [Hse.out, if_pos Hc.out]
            exact HE.out
          · have Hc := hide hc
            have hcI : ¬ (img.length : Int) ≤ (s.from' : Int) + 1024 := by omega
            clear hc
            go_wp2_with fail
            go_quiet (fail)
            have H9 := hide (SP.on_of_heap (w' := X3.drewN nq) H3.out rfl)
            have S9 : Hid (Str w (X3.drewN nq)) := hide ⟨S3.out.os, S3.out.tape, S3.out.output, S3.out.size⟩
            go_wp2_with fail
            refine (turn_any p iv (.slice (some ⟨mg, mo, Option.none⟩) img.length mc) rv ({ s with from' := s.from' + 1024, sum := cu } : US) 3 F _ H9.out).mono ?_
            rintro e W9 ⟨⟨v, rfl⟩, h9, hs9⟩
            have HE := hide h9
            have SE := hide (S9.out.trans hs9)
            clear h9 hs9
            go_wp2_with fail
            go_end0
            refine ⟨⟨_, rfl⟩, ?_, SE.out⟩
            rw [Hse.out, if_neg Hc.out]
            exact HE.out
      · have r1 : ((z.toNat : Int) == 1) = false := by
          have : z.toNat ≠ 1 := fun h => hz (UInt8.toNat_inj.1 h)
          simp only [beq_eq_false_iff_ne, ne_eq]; omega
        have hA : s.answer img y z d = s.goTo 0 := by unfold US.answer; simp [hz, hp]
        rw [hA]
        clear hA
        try (have Hlen := hide hlen; clear hlen)
        try clear hp
        try clear ho
        clear hz h
        go_enter Try.func78, Try.ntmps78
        go_wp2_with fail
        go_quiet (fail)
        generalize (if tc = 3 then (some (⟨tb, to, Option.none⟩ : Addr)) else some ⟨tb, to + 3, Option.none⟩) = dA
        have H9 := hide (SP.on_of_heap (w' := w.drewN nq) H0.out rfl)
        have S9 : Hid (Str w (w.drewN nq)) := hide ⟨rfl, rfl, rfl, Nat.le_refl _⟩
        go_wp2_with fail
        refine (turn_any p iv (.slice (some ⟨mg, mo, Option.none⟩) img.length mc) rv s 0 F _ H9.out).mono ?_
        rintro e W9 ⟨⟨v, rfl⟩, h9, hs9⟩
        have HE := hide h9
        have SE := hide (S9.out.trans hs9)
        clear h9 hs9
        go_wp2_with fail
        go_end0
        refine ⟨⟨_, rfl⟩, ?_, SE.out⟩
        exact HE.out
    · have o4 : ((y.toNat : Int) == 4) = false := by
        have : y.toNat ≠ 4 := fun h => ho (UInt8.toNat_inj.1 h)
        simp only [beq_eq_false_iff_ne, ne_eq]; omega
      by_cases hz : z = 1
      · have r1 : ((z.toNat : Int) == 1) = true := by rw [hz]; rfl
        have hA : s.answer img y z d = s := by unfold US.answer; simp [hz, hp, ho]
        rw [hA]
        clear hA
        try (have Hlen := hide hlen; clear hlen)
        try clear hp
        try clear ho
        clear hz h
        go_enter Try.func78, Try.ntmps78
        go_wp2_with fail
        go_quiet (fail)
        generalize (if tc = 3 then (some (⟨tb, to, Option.none⟩ : Addr)) else some ⟨tb, to + 3, Option.none⟩) = dA
        have H9 := hide (SP.on_of_heap (w' := w.drewN nq) H0.out rfl)
        have S9 : Hid (Str w (w.drewN nq)) := hide ⟨rfl, rfl, rfl, Nat.le_refl _⟩
        go_wp2_with fail
        go_end0
        exact ⟨⟨_, rfl⟩, H9.out, S9.out⟩
      · have r1 : ((z.toNat : Int) == 1) = false := by
          have : z.toNat ≠ 1 := fun h => hz (UInt8.toNat_inj.1 h)
          simp only [beq_eq_false_iff_ne, ne_eq]; omega
        have hA : s.answer img y z d = s.goTo 0 := by unfold US.answer; simp [hz, hp]
        rw [hA]
        clear hA
        try (have Hlen := hide hlen; clear hlen)
        try clear hp
        try clear ho
        clear hz h
        go_enter Try.func78, Try.ntmps78
        go_wp2_with fail
        go_quiet (fail)
        generalize (if tc = 3 then (some (⟨tb, to, Option.none⟩ : Addr)) else some ⟨tb, to + 3, Option.none⟩) = dA
        have H9 := hide (SP.on_of_heap (w' := w.drewN nq) H0.out rfl)
        have S9 : Hid (Str w (w.drewN nq)) := hide ⟨rfl, rfl, rfl, Nat.le_refl _⟩
        go_wp2_with fail
        refine (turn_any p iv (.slice (some ⟨mg, mo, Option.none⟩) img.length mc) rv s 0 F _ H9.out).mono ?_
        rintro e W9 ⟨⟨v, rfl⟩, h9, hs9⟩
        have HE := hide h9
        have SE := hide (S9.out.trans hs9)
        clear h9 hs9
        go_wp2_with fail
        go_end0
        refine ⟨⟨_, rfl⟩, ?_, SE.out⟩
        exact HE.out
  · have p0 : ((s.phase : Int) == 0) = false := by rw [hp]; rfl
    have p1 : ((s.phase : Int) == 1) = false := by rw [hp]; rfl
    have p2 : ((s.phase : Int) == 2) = false := by rw [hp]; rfl
    have p3 : ((s.phase : Int) == 3) = false := by rw [hp]; rfl
    have p4 : ((s.phase : Int) == 4) = false := by rw [hp]; rfl
    have p5 : ((s.phase : Int) == 5) = true := by rw [hp]; rfl
    have p5n : ((s.phase : Int) != 5) = false := by rw [hp]; rfl
    by_cases hz : z = 1
    · have r1 : ((z.toNat : Int) == 1) = true := by rw [hz]; rfl
      have hA : s.answer img y z d = s := by unfold US.answer; simp [hz, hp]
      rw [hA]
      clear hA
      try (have Hlen := hide hlen; clear hlen)
      try clear hp
      try clear ho
      clear hz h
      go_enter Try.func78, Try.ntmps78
      go_wp2_with fail
      go_quiet (fail)
      generalize (if tc = 3 then (some (⟨tb, to, Option.none⟩ : Addr)) else some ⟨tb, to + 3, Option.none⟩) = dA
      have H9 := hide (SP.on_of_heap (w' := w.drewN nq) H0.out rfl)
      have S9 : Hid (Str w (w.drewN nq)) := hide ⟨rfl, rfl, rfl, Nat.le_refl _⟩
      go_wp2_with fail
      go_end0
      exact ⟨⟨_, rfl⟩, H9.out, S9.out⟩
    · have r1 : ((z.toNat : Int) == 1) = false := by
        have : z.toNat ≠ 1 := fun h => hz (UInt8.toNat_inj.1 h)
        simp only [beq_eq_false_iff_ne, ne_eq]; omega
      have hA : s.answer img y z d = s := by unfold US.answer; simp [hz, hp]
      rw [hA]
      clear hA
      try (have Hlen := hide hlen; clear hlen)
      try clear hp
      try clear ho
      clear hz h
      go_enter Try.func78, Try.ntmps78
      go_wp2_with fail
      go_quiet (fail)
      generalize (if tc = 3 then (some (⟨tb, to, Option.none⟩ : Addr)) else some ⟨tb, to + 3, Option.none⟩) = dA
      have H9 := hide (SP.on_of_heap (w' := w.drewN nq) H0.out rfl)
      have S9 : Hid (Str w (w.drewN nq)) := hide ⟨rfl, rfl, rfl, Nat.le_refl _⟩
      go_wp2_with fail
      go_end0
      exact ⟨⟨_, rfl⟩, H9.out, S9.out⟩
end Go.Proofs.Ytjmgnfpcieofkaa
