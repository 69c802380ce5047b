/- What each byte of a part brings: the document's answer, walked. -/
import Derived.Test.YtdbnjejpejmmjaaDeslipPart
namespace Go.Proofs.Ytdbnjejpejmmjaa
open Go.ChangeShapes Go.WideShapes Go.ChangeAt Go.RowKit
set_option linter.unusedVariables false

theorem map_set {L : List (Value × Ev)} {pre : List Ev} {k n : Nat} (hL : L.map Prod.snd = pre ++ List.replicate (n - k) zev) (hp : pre.length = k) (hk : k < n) (x : Value) (ev : Ev) :
    (L.set k (x, ev)).map Prod.snd = pre ++ ev :: List.replicate (n - (k + 1)) zev := by
  rw [List.map_set, hL, List.set_append, if_neg (by omega), hp, Nat.sub_self, show n - k = (n - (k + 1)) + 1 by omega, List.replicate_succ, List.set_cons_zero]
theorem Evs.cells {g cap n : Nat} {L : List (Value × Ev)} {F : SP} {w : World} (hn : L.length = n) (h : (Evs (.slice (some ⟨g, 0, Option.none⟩) n cap) L * F).on w) (i : Nat) (hi : i < n) :
    ∃ x y z, w.cell? ⟨g, i * 3, Option.none⟩ = some x ∧ w.cell? ⟨g, i * 3 + 1, Option.none⟩ = some y ∧ w.cell? ⟨g, i * 3 + 2, Option.none⟩ = some z := by
  unfold Evs at h
  rw [SP.mul_assoc, hn] at h
  have he := evCells_length L
  exact ⟨_, _, _, own_lay h (i * 3) _ (List.getElem?_eq_getElem (by omega)), own_lay h (i * 3 + 1) _ (List.getElem?_eq_getElem (by omega)), own_lay h (i * 3 + 2) _ (List.getElem?_eq_getElem (by omega))⟩
theorem Evs.frz {g cap n : Nat} {L : List (Value × Ev)} {F : SP} {w : World} (hn : L.length = n) (h : (Evs (.slice (some ⟨g, 0, Option.none⟩) n cap) L * F).on w) (j : Nat) : w.frozen? ⟨g, j, Option.none⟩ = false := by
  unfold Evs at h
  rw [SP.mul_assoc, hn] at h
  obtain ⟨hx, hv⟩ := own_cases h
  rcases hv with ⟨hv, _⟩ | ⟨g', cap', cur, hv, e2, e3, e4, e5, e6⟩
  · cases hv
  · cases hv
    exact frozen_of_row _ _ _ _ _ (on_blk_mul e6)
theorem rep_step {L : List (Value × Ev)} {pre : List Ev} {k n : Nat} (hL : L.map Prod.snd = pre ++ List.replicate (n - k) zev) (hk : k < n) : L.map Prod.snd = (pre ++ [zev]) ++ List.replicate (n - (k + 1)) zev := by
  rw [hL, show n - k = (n - (k + 1)) + 1 by omega, List.replicate_succ]; simp
theorem drop_at {b : List UInt8} {k : Nat} (hk : k < b.length) : b.drop k = b.getD k 0 :: b.drop (k + 1) := by
  rw [List.drop_eq_getElem_cons hk, List.getD_eq_getElem?_getD, List.getElem?_eq_getElem hk]; rfl
theorem Evs.err {g n : Nat} {L : List (Value × Ev)} {i er : Nat} {T : SP} {w w0 : World} (hn : L.length = n) (hi : i < n) (h : (Evs (.slice (some ⟨g, 0, Option.none⟩) n n) L * (T * all w0)).on w) :
    (Evs (.slice (some ⟨g, 0, Option.none⟩) n n) (L.set i (.slice Option.none 0 0, ⟨2, [], er⟩)) * all w0).on (((w.setCell ⟨g, i * 3, Option.none⟩ (.int .i64 2)).setCell ⟨g, i * 3 + 1, Option.none⟩ (.slice Option.none 0 0)).setCell ⟨g, i * 3 + 2, Option.none⟩ (.int .i64 (er : Int))) := by
  subst hn
  have h1 : (Evs (.slice (some ⟨g, 0, Option.none⟩) L.length L.length) L * all w0).on w := by
    rw [SP.mul_left_comm] at h; exact h.right
  have h2 := ownD_nil h1
  rw [SP.mul_left_comm] at h2
  exact Evs.set (ev := ⟨2, [], er⟩) hi h2
theorem grow {X P T A : SP} {w : World} (h : (X * (P * (T * A))).on w) : (P * (X * A)).on w := by
  have e : (X * (P * (T * A))) = (T * (P * (X * A))) := by ac_rfl
  rw [e] at h
  exact h.right
def PartRel (w : World) (b : List UInt8) (m g : Nat) (tv i : Value) (wr : World) : Prop :=
  ∃ (k f : Nat) (text : List UInt8) (L : List (Value × Ev)) (pre : List Ev), k ≤ b.length ∧ i = .int .i64 k ∧ b.length - k < f ∧ text.length ≤ m ∧ L.length = b.length ∧ pre.length = k ∧ L.map Prod.snd = pre ++ List.replicate (b.length - k) zev ∧
    pre ++ partF m f text (b.drop k) = partF m (b.length + 1) [] b ∧ (Evs (.slice (some ⟨g, 0, Option.none⟩) b.length b.length) L * (ownD tv text * all w)).on wr ∧ Str w wr

set_option maxRecDepth 100000 in
set_option maxHeartbeats 8000000 in
theorem part_any (v : Value) (b : List UInt8) (m : Nat) (hm : m ≤ 65536) (w : World) (h : IsBytes w v b) (hlen : b.length ≤ 1000000) :
    Calls Try.prog 55 #[v, .int .i64 m] w fun e w' => ∃ out L, e = .returned out ∧ L.map Prod.snd = partF m (b.length + 1) [] b ∧ (Evs out L * all w).on w' ∧ Str w w' := by
  have H := hide h
  obtain ⟨a, c, rfl, hc, hmx, _, _⟩ := h
  obtain ⟨ie, hie, hz, hsz, hby⟩ := info_some infoEv
  have hue := Try.underlying54
  have hmk := fun w => run_make (P := Try.prog) w 54 59 ie _ hue hie hz .i64 .i64 (b.length : Int) (b.length : Int) (by omega) (Int.le_refl _) (by rw [hby]; omega) (by omega)
  simp only [Int.toNat_natCast, hsz] at hmk
  unfold maxLen at hmx
  clear hie hz hsz hby hue
  go_enter Try.func55, Try.ntmps55
  go_wp2_with fail
  have hm0 := Evs.make w b.length hlen
  have HM := hide hm0
  have HSM := hide ((Str.refl w).alloc (.cells (madeCells zcell (b.length * 3)) 59))
  go_loopw [6, 7] (fun tv i wr => PartRel w b m w.heap.size tv i wr) (fun _ i _ => b.length - (intOf i).toNat)
  case atStart => exact ⟨0, b.length + 1, [], zeros b.length, [], by omega, rfl, by omega, by simp, by simp [zeros], rfl, by simp [zeros], by simp, by
      have h2 := ownD_nil HM.out
      rw [SP.mul_left_comm] at h2
      exact h2, HSM.out⟩
  case round =>
    obtain ⟨k, f, text, L, pre, hk, rfl, hf, htm, hLn, hpk, hLm, hpre, hw, hstr⟩ := hrel
    generalize w.heap.size = g at *
    by_cases hkl : k < b.length
    · obtain ⟨bv, offv, rfl⟩ : ∃ bv offv, a = some ⟨bv, offv, Option.none⟩ := by
        obtain ⟨_, _, e, _, _, h3, _⟩ := H.out
        simp only [Value.slice.injEq] at e
        obtain ⟨rfl, _, rfl⟩ := e
        exact Lay.isAddr h3 k (by simpa using hkl)
      have hcell : ∀ j, j < b.length → wr.cell? ⟨bv, offv + j, Option.none⟩ = some (vb (b.getD j 0)) := by
        intro j hj
        obtain ⟨_, _, e, _, _, h3, _⟩ := bytes_all H.out hw.right.right
        simp only [Value.slice.injEq] at e
        obtain ⟨rfl, _, rfl⟩ := e
        have := Lay.cell h3 j (vbs_get b j hj)
        rw [this, List.getD_eq_getElem?_getD, List.getElem?_eq_getElem hj]
        rfl
      have cb := hcell k hkl
      have hdrop := drop_at hkl
      obtain ⟨f', rfl⟩ : ∃ f', f = f' + 1 := ⟨f - 1, by omega⟩
      obtain ⟨ta, tc, rfl, htc, htx, _, _⟩ := own_bytes (by rw [SP.mul_left_comm] at hw; exact hw)
      by_cases h192 : b.getD k 0 = 192
      · rw [h192] at cb hdrop
        by_cases ht0 : 0 < text.length
        · have hP : partF m (f' + 1) text (b.drop k) = ⟨1, text, 0⟩ :: List.replicate (b.length - (k + 1)) zev := by
            rw [hdrop]; simp only [partF, if_pos, if_pos ht0]; rw [List.length_drop]
          have hset := map_set hLm hpk hkl (.slice ta text.length tc) ⟨1, text, 0⟩
          rw [← hP, hpre] at hset
          have hE := Evs.set (g := g) (cap := b.length) (L := L) (i := k) (x := .slice ta text.length tc) (ev := ⟨1, text, 0⟩) (G := all w) (by omega) (by rw [hLn]; exact hw)
          rw [hLn] at hE
          have hcs := Evs.cells hLn hw k hkl
          obtain ⟨o0, o1, o2, z0, z1, z2⟩ := hcs
          have frz := Evs.frz hLn hw
          have HE := hide hE
          have Hset := hide hset
          have Hs := hide hstr
          clear hE hset hP hpre hLm hw hstr hcell hdrop h192 hpk
          go_wp2_with fail
          go_ret
          exact ⟨_, rfl, _, Hset.out, HE.out, ((Hs.out.setCell _ _).setCell _ _).setCell _ _⟩
        · obtain rfl : text = [] := by cases text with | nil => rfl | cons y t => simp at ht0
          have hP : partF m (f' + 1) [] (b.drop k) = List.replicate (b.length - k) zev := by
            rw [hdrop]; simp only [partF, if_pos]; rw [List.length_drop, show b.length - k = (b.length - (k + 1)) + 1 by omega]; rfl
          rw [← hP, hpre] at hLm
          have hE := hw
          rw [SP.mul_left_comm] at hE
          have HE := hide hE.right
          have Hset := hide hLm
          have Hs := hide hstr
          clear hE hLm hP hpre hw hstr hcell hdrop h192 hpk ht0
          go_wp2_with fail
          go_ret
          exact ⟨_, _, rfl, Hset.out, HE.out, Hs.out⟩
      · have e192 := bne_u8 h192
        rw [show (((192 : UInt8).toNat : Nat) : Int) = 192 from rfl] at e192
        by_cases h219 : b.getD k 0 = 219
        · rw [h219] at cb hdrop
          clear h192 e192
          by_cases hk1 : k + 1 < b.length
          · have cb2 := hcell (k + 1) hk1
            have hdrop2 := drop_at hk1
            have hLm2 := rep_step hLm hkl
            have hp2 : (pre ++ [zev]).length = k + 1 := by simp [hpk]
            generalize b.getD (k + 1) 0 = d at *
            by_cases hx : d ≠ 220 ∧ d ≠ 221
            · have hP : partF m (f' + 1) text (b.drop k) = zev :: ⟨2, [], 7⟩ :: List.replicate (b.length - (k + 2)) zev := by
                rw [hdrop, hdrop2]; simp only [partF]; rw [if_neg (by decide), if_pos True.intro, if_pos hx, List.length_drop]
              have hset := map_set hLm2 hp2 hk1 (.slice Option.none 0 0) ⟨2, [], 7⟩
              rw [List.append_assoc, show ([zev] ++ (⟨2, [], 7⟩ : Ev) :: List.replicate (b.length - (k + 1 + 1)) zev) = partF m (f' + 1) text (b.drop k) by rw [hP]; rfl, hpre] at hset
              have HE := hide (Evs.err (er := 7) hLn hk1 hw)
              obtain ⟨o0, o1, o2, z0, z1, z2⟩ := Evs.cells hLn hw (k + 1) hk1
              have frz := Evs.frz hLn hw
              have Hset := hide hset
              have Hs := hide hstr
              have e0 := bne_u8 hx.1
              have e1 := bne_u8 hx.2
              rw [show (((220 : UInt8).toNat : Nat) : Int) = 220 from rfl] at e0
              rw [show (((221 : UInt8).toNat : Nat) : Int) = 221 from rfl] at e1
              have n0 : (((d.toNat : Nat) : Int) != 220) = true := by simp only [bne, e0]; rfl
              have n1 : (((d.toNat : Nat) : Int) != 221) = true := by simp only [bne, e1]; rfl
              have hdl := UInt8.toNat_lt d
              have x0 : ¬ ((d.toNat : Nat) : Int) = 220 := by simpa using e0
              have x1 : ¬ ((d.toNat : Nat) : Int) = 221 := by simpa using e1
              clear hset hP hpre hLm hLm2 hw hstr hcell hdrop hdrop2 h219 hpk hp2 hx
              go_wp2_with fail
              go_ret
              exact ⟨_, _, rfl, Hset.out, HE.out, ((Hs.out.setCell _ _).setCell _ _).setCell _ _⟩
            · by_cases hd : d = 220
              · subst hd
                by_cases htl : text.length = m
                · have hP : partF m (f' + 1) text (b.drop k) = zev :: ⟨2, [], 17⟩ :: List.replicate (b.length - (k + 2)) zev := by
                    rw [hdrop, hdrop2]; simp only [partF]; rw [if_neg (by decide), if_pos True.intro, if_neg hx, if_pos htl, List.length_drop]
                  have hset := map_set hLm2 hp2 hk1 (.slice Option.none 0 0) ⟨2, [], 17⟩
                  rw [List.append_assoc, show ([zev] ++ (⟨2, [], 17⟩ : Ev) :: List.replicate (b.length - (k + 1 + 1)) zev) = partF m (f' + 1) text (b.drop k) by rw [hP]; rfl, hpre] at hset
                  have HE := hide (Evs.err (er := 17) hLn hk1 hw)
                  obtain ⟨o0, o1, o2, z0, z1, z2⟩ := Evs.cells hLn hw (k + 1) hk1
                  have frz := Evs.frz hLn hw
                  have Hset := hide hset
                  have Hs := hide hstr
                  have etl : ((text.length : Int) == (m : Int)) = true := by simp only [beq_iff_eq]; omega
                  clear hset hP hpre hLm hLm2 hw hstr hcell hdrop hdrop2 h219 hpk hp2 hx htl
                  go_wp2_with fail
                  go_ret
                  exact ⟨_, _, rfl, Hset.out, HE.out, ((Hs.out.setCell _ _).setCell _ _).setCell _ _⟩
                · have hP : partF m (f' + 1) text (b.drop k) = zev :: zev :: partF m f' (text ++ [192]) (b.drop (k + 2)) := by
                    rw [hdrop, hdrop2]; simp only [partF]; rw [if_neg (by decide), if_pos True.intro, if_neg hx, if_neg htl, if_pos True.intro]
                  have hLm3 := rep_step hLm2 hk1
                  have hpk3 : (pre ++ [zev] ++ [zev]).length = k + 1 + 1 := by simp [hpk]
                  rw [hP, show pre ++ zev :: zev :: partF m f' (text ++ [192]) (b.drop (k + 2)) = (pre ++ [zev] ++ [zev]) ++ partF m f' (text ++ [192]) (b.drop (k + 2)) by simp] at hpre
                  have etl : ((text.length : Int) == (m : Int)) = false := by rw [beq_eq_false_iff_ne]; omega
                  have htl2 : text.length < m := by omega
                  have ho0 := own_new (F := Evs (.slice (some ⟨g, 0, Option.none⟩) b.length b.length) L * (ownD (.slice ta text.length tc) text * all w)) 5 1 0 [] hw rfl (by decide)
                  have hb1 : IsBytes (wr.alloc (.cells #[] 5)) (.slice ta text.length tc) text := by
                    have h9 := hw.alloc' (.cells #[] 5)
                    rw [SP.mul_left_comm] at h9
                    exact own_bytes h9
                  have Ho0 := hide ho0
                  have Hb1 := hide hb1
                  have Hs := hide hstr
                  have Hpre := hide hpre
                  have HLm := hide hLm3
                  have Hpk := hide hpk3
                  have hu := Try.underlying22
                  clear ho0 hb1 hP hpre hLm hLm2 hLm3 hw hstr hcell hdrop hdrop2 h219 hpk hp2 hpk3 htl hx
                  go_wp2_with (first
                    | (at_builtin; refine wpList_append_bytes (F := Evs (.slice (some ⟨g, 0, Option.none⟩) b.length b.length) L * (ownD (.slice ta text.length tc) text * all w)) rfl _ _ 22 rfl 5 hu infoD _ text [192] rfl (ho2.alloc' _) _ rfl (IsBytes.new w2 [192] (by simp [maxLen]) 5) (by simp; omega) ?_; clear ho2; intro v3 w3 ho3 hs3)
                    | (at_builtin; refine wpList_append_bytes (F := Evs (.slice (some ⟨g, 0, Option.none⟩) b.length b.length) L * (ownD (.slice ta text.length tc) text * all w)) rfl _ _ 22 rfl 5 hu infoD _ [] text rfl Ho0.out _ rfl Hb1.out (by simp; omega) ?_; intro v2 w2 ho2 hs2; rw [List.nil_append] at ho2))
                  exact ⟨⟨k + 1 + 1, f', text ++ [192], L, pre ++ [zev] ++ [zev], by omega, by simp, by omega, by simp; omega, hLn, Hpk.out, HLm.out, Hpre.out, grow ho3, ((((Hs.out.alloc _).trans hs2).alloc _).trans hs3)⟩, by simp [intOf]; omega⟩
              · have hd1 : d = 221 := by by_cases h1 : d = 221; exact h1; exact (hx ⟨hd, h1⟩).elim
                subst hd1
                clear hd
                by_cases htl : text.length = m
                · have hP : partF m (f' + 1) text (b.drop k) = zev :: ⟨2, [], 17⟩ :: List.replicate (b.length - (k + 2)) zev := by
                    rw [hdrop, hdrop2]; simp only [partF]; rw [if_neg (by decide), if_pos True.intro, if_neg hx, if_pos htl, List.length_drop]
                  have hset := map_set hLm2 hp2 hk1 (.slice Option.none 0 0) ⟨2, [], 17⟩
                  rw [List.append_assoc, show ([zev] ++ (⟨2, [], 17⟩ : Ev) :: List.replicate (b.length - (k + 1 + 1)) zev) = partF m (f' + 1) text (b.drop k) by rw [hP]; rfl, hpre] at hset
                  have HE := hide (Evs.err (er := 17) hLn hk1 hw)
                  obtain ⟨o0, o1, o2, z0, z1, z2⟩ := Evs.cells hLn hw (k + 1) hk1
                  have frz := Evs.frz hLn hw
                  have Hset := hide hset
                  have Hs := hide hstr
                  have etl : ((text.length : Int) == (m : Int)) = true := by simp only [beq_iff_eq]; omega
                  clear hset hP hpre hLm hLm2 hw hstr hcell hdrop hdrop2 h219 hpk hp2 hx htl
                  go_wp2_with fail
                  go_ret
                  exact ⟨_, _, rfl, Hset.out, HE.out, ((Hs.out.setCell _ _).setCell _ _).setCell _ _⟩
                · have hP : partF m (f' + 1) text (b.drop k) = zev :: zev :: partF m f' (text ++ [219]) (b.drop (k + 2)) := by
                    rw [hdrop, hdrop2]; simp only [partF]; rw [if_neg (by decide), if_pos True.intro, if_neg hx, if_neg htl, if_neg (by decide)]
                  have hLm3 := rep_step hLm2 hk1
                  have hpk3 : (pre ++ [zev] ++ [zev]).length = k + 1 + 1 := by simp [hpk]
                  rw [hP, show pre ++ zev :: zev :: partF m f' (text ++ [219]) (b.drop (k + 2)) = (pre ++ [zev] ++ [zev]) ++ partF m f' (text ++ [219]) (b.drop (k + 2)) by simp] at hpre
                  have etl : ((text.length : Int) == (m : Int)) = false := by rw [beq_eq_false_iff_ne]; omega
                  have htl2 : text.length < m := by omega
                  have ho0 := own_new (F := Evs (.slice (some ⟨g, 0, Option.none⟩) b.length b.length) L * (ownD (.slice ta text.length tc) text * all w)) 5 1 0 [] hw rfl (by decide)
                  have hb1 : IsBytes (wr.alloc (.cells #[] 5)) (.slice ta text.length tc) text := by
                    have h9 := hw.alloc' (.cells #[] 5)
                    rw [SP.mul_left_comm] at h9
                    exact own_bytes h9
                  have Ho0 := hide ho0
                  have Hb1 := hide hb1
                  have Hs := hide hstr
                  have Hpre := hide hpre
                  have HLm := hide hLm3
                  have Hpk := hide hpk3
                  have hu := Try.underlying22
                  clear ho0 hb1 hP hpre hLm hLm2 hLm3 hw hstr hcell hdrop hdrop2 h219 hpk hp2 hpk3 htl hx
                  go_wp2_with (first
                    | (at_builtin; refine wpList_append_bytes (F := Evs (.slice (some ⟨g, 0, Option.none⟩) b.length b.length) L * (ownD (.slice ta text.length tc) text * all w)) rfl _ _ 22 rfl 5 hu infoD _ text [219] rfl (ho2.alloc' _) _ rfl (IsBytes.new w2 [219] (by simp [maxLen]) 5) (by simp; omega) ?_; clear ho2; intro v3 w3 ho3 hs3)
                    | (at_builtin; refine wpList_append_bytes (F := Evs (.slice (some ⟨g, 0, Option.none⟩) b.length b.length) L * (ownD (.slice ta text.length tc) text * all w)) rfl _ _ 22 rfl 5 hu infoD _ [] text rfl Ho0.out _ rfl Hb1.out (by simp; omega) ?_; intro v2 w2 ho2 hs2; rw [List.nil_append] at ho2))
                  exact ⟨⟨k + 1 + 1, f', text ++ [219], L, pre ++ [zev] ++ [zev], by omega, by simp, by omega, by simp; omega, hLn, Hpk.out, HLm.out, Hpre.out, grow ho3, ((((Hs.out.alloc _).trans hs2).alloc _).trans hs3)⟩, by simp [intOf]; omega⟩
          · have hk2 : b.length ≤ k + 1 := by omega
            have hP : partF m (f' + 1) text (b.drop k) = List.replicate (b.length - k) zev := by
              rw [hdrop, List.drop_eq_nil_of_le (by omega), show b.length - k = 1 by omega]; rfl
            rw [← hP, hpre] at hLm
            have hE := hw
            rw [SP.mul_left_comm] at hE
            have HE := hide hE.right
            have Hset := hide hLm
            have Hs := hide hstr
            clear hE hLm hP hpre hw hstr hcell hdrop h219 hpk hk1
            go_wp2_with fail
            go_ret
            exact ⟨_, _, rfl, Hset.out, HE.out, Hs.out⟩
        · have e219 := bne_u8 h219
          rw [show (((219 : UInt8).toNat : Nat) : Int) = 219 from rfl] at e219
          generalize b.getD k 0 = cc at *
          have n192 : (((cc.toNat : Nat) : Int) != 192) = true := by simp only [bne, e192]; rfl
          have x192 : ¬ ((cc.toNat : Nat) : Int) = 192 := by simpa using e192
          have x219 : ¬ ((cc.toNat : Nat) : Int) = 219 := by simpa using e219
          by_cases htl : text.length = m
          · have hP : partF m (f' + 1) text (b.drop k) = ⟨2, [], 17⟩ :: List.replicate (b.length - (k + 1)) zev := by
              rw [hdrop]; simp only [partF]; rw [if_neg h192, if_neg h219, if_pos htl, List.length_drop]
            have hset := map_set hLm hpk hkl (.slice Option.none 0 0) ⟨2, [], 17⟩
            rw [← hP, hpre] at hset
            have HE := hide (Evs.err (er := 17) hLn hkl hw)
            obtain ⟨o0, o1, o2, z0, z1, z2⟩ := Evs.cells hLn hw k hkl
            have frz := Evs.frz hLn hw
            have Hset := hide hset
            have Hs := hide hstr
            have etl : ((text.length : Int) == (m : Int)) = true := by simp only [beq_iff_eq]; omega
            clear hset hP hpre hLm hw hstr hcell hdrop h219 h192 hpk htl
            go_wp2_with fail
            go_ret
            exact ⟨_, _, rfl, Hset.out, HE.out, ((Hs.out.setCell _ _).setCell _ _).setCell _ _⟩
          · have hP : partF m (f' + 1) text (b.drop k) = zev :: partF m f' (text ++ [cc]) (b.drop (k + 1)) := by
              rw [hdrop]; simp only [partF]; rw [if_neg h192, if_neg h219, if_neg htl]
            have hLm3 := rep_step hLm hkl
            have hpk3 : (pre ++ [zev]).length = k + 1 := by simp [hpk]
            rw [hP, show pre ++ zev :: partF m f' (text ++ [cc]) (b.drop (k + 1)) = (pre ++ [zev]) ++ partF m f' (text ++ [cc]) (b.drop (k + 1)) by simp] at hpre
            have etl : ((text.length : Int) == (m : Int)) = false := by rw [beq_eq_false_iff_ne]; omega
            have htl2 : text.length < m := by omega
            have ho0 := own_new (F := Evs (.slice (some ⟨g, 0, Option.none⟩) b.length b.length) L * (ownD (.slice ta text.length tc) text * all w)) 5 1 0 [] hw rfl (by decide)
            have hb1 : IsBytes (wr.alloc (.cells #[] 5)) (.slice ta text.length tc) text := by
              have h9 := hw.alloc' (.cells #[] 5)
              rw [SP.mul_left_comm] at h9
              exact own_bytes h9
            have Ho0 := hide ho0
            have Hb1 := hide hb1
            have Hs := hide hstr
            have Hpre := hide hpre
            have HLm := hide hLm3
            have Hpk := hide hpk3
            have hu := Try.underlying22
            clear ho0 hb1 hP hpre hLm hLm3 hw hstr hcell hdrop h219 h192 hpk hpk3 htl
            go_wp2_with (first
              | (at_builtin; refine wpList_append_bytes (F := Evs (.slice (some ⟨g, 0, Option.none⟩) b.length b.length) L * (ownD (.slice ta text.length tc) text * all w)) rfl _ _ 22 rfl 5 hu infoD _ text [cc] rfl (ho2.alloc' _) _ rfl (IsBytes.new w2 [cc] (by simp [maxLen]) 5) (by simp; omega) ?_; clear ho2; intro v3 w3 ho3 hs3)
              | (at_builtin; refine wpList_append_bytes (F := Evs (.slice (some ⟨g, 0, Option.none⟩) b.length b.length) L * (ownD (.slice ta text.length tc) text * all w)) rfl _ _ 22 rfl 5 hu infoD _ [] text rfl Ho0.out _ rfl Hb1.out (by simp; omega) ?_; intro v2 w2 ho2 hs2; rw [List.nil_append] at ho2))
            exact ⟨⟨k + 1, f', text ++ [cc], L, pre ++ [zev], by omega, by simp, by omega, by simp; omega, hLn, Hpk.out, HLm.out, Hpre.out, grow ho3, ((((Hs.out.alloc _).trans hs2).alloc _).trans hs3)⟩, by simp [intOf]; omega⟩
    · have hkb : k = b.length := by omega
      have hP : partF m f text (b.drop k) = List.replicate (b.length - k) zev := by
        rw [List.drop_eq_nil_of_le (by omega), show b.length - k = 0 by omega]
        cases f with
        | zero => rfl
        | succ f => rfl
      rw [← hP, hpre] at hLm
      have hE := hw
      rw [SP.mul_left_comm] at hE
      have HE := hide hE.right
      have Hset := hide hLm
      have Hs := hide hstr
      clear hE hLm hP hpre hw hstr hpk
      go_wp2_with fail
      go_ret
      exact ⟨_, _, rfl, Hset.out, HE.out, Hs.out⟩
end Go.Proofs.Ytdbnjejpejmmjaa
