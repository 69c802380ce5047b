/- The document's answer for tlv: items as bytes; and whether items are the same. -/
import Derived.Test.YtdbnjejpejmmjaaTlv3
import Derived.Test.YtdbnjejpejmmjaaTlv4
namespace Go.Proofs.Ytdbnjejpejmmjaa
open Go.ChangeShapes Go.WideShapes Go.ChangeAt Go.RowKit
set_option linter.unusedVariables false

/-- how an encoding ends -/
def EncEnd (R : List UInt8 × Nat) (w : World) (e : Ending) (w' : World) : Prop := ∃ out, e = .returned (.tuple #[out, .int .i64 (R.2 : Nat)]) ∧ (ownT out R.1 * all w).on w' ∧ Str w w'
theorem lastTag_take (L : List (Value × TItem)) (k : Nat) (h0 : 0 < k) (h : k ≤ L.length) : (itCells L)[(k - 1) * 2]? = some (vb (lastTag ((L.map Prod.snd).take k))) := by
  have hl : L[k - 1]? = some (L[k - 1].1, L[k - 1].2) := List.getElem?_eq_getElem (by omega)
  have := (itCells_get L _ _ _ hl).1
  rw [this]
  congr 2
  unfold lastTag
  rw [List.getLast?_eq_getElem?, List.length_take, List.length_map, Nat.min_eq_left h, List.getElem?_take, if_pos (by omega), List.getElem?_map, hl]
  rfl
theorem lastTag_next (L : List (Value × TItem)) (k : Nat) (u : Value) (x : TItem) (h : L[k]? = some (u, x)) : lastTag ((L.map Prod.snd).take (k + 1)) = x.tag := by
  have hk := (List.getElem?_eq_some_iff.1 h).1
  rw [List.take_succ_eq_append_getElem (by simpa using hk), lastTag_snoc, List.getElem_map, (List.getElem?_eq_some_iff.1 h).2]

set_option maxRecDepth 100000 in
set_option maxHeartbeats 8000000 in
theorem rtencode_any (v : Value) (L : List (Value × TItem)) (w : World) (h : IsItems w v L) (hlen : L.length ≤ 1000000) (hvl : ∀ (i : Nat) (u : Value) (e : TItem), L[i]? = some (u, e) → e.value.length ≤ 1000000) :
    Calls Try.prog 47 #[v] w (EncEnd (encodeF 0 0 (L.map Prod.snd) []) w) := by
  have hu := Try.underlying22
  obtain ⟨a, c, rfl, hc, hmx, hla, hin⟩ := h
  unfold maxLen at hmx
  have Hla := hide hla
  have Hin := hide hin
  have Hvl := hide hvl
  clear hla hin hvl
  generalize hR : encodeF 0 0 (L.map Prod.snd) [] = R
  have HR := hide hR
  clear hR
  go_enter Try.func47, Try.ntmps47
  go_wp2_with fail
  go_loopw [4, 5] (fun bv i wr => ∃ (k : Nat) (acc : List UInt8), k ≤ L.length ∧ i = .int .i64 k ∧ encodeF k (lastTag ((L.map Prod.snd).take k)) ((L.map Prod.snd).drop k) acc = R ∧ acc.length ≤ k * 202 ∧ k ≤ 16 ∧ (ownT bv acc * all w).on wr ∧ Str w wr) (fun _ i _ => L.length - (intOf i).toNat)
  case atStart => exact ⟨0, [], by omega, rfl, by simpa [lastTag] using HR.out, by simp, by omega, own_nil _ 1 (on_all w), Str.refl _⟩
  case round =>
    obtain ⟨k, acc, hk, rfl, he, hacc, hk16, hw, hstr⟩ := hrel
    have hB := all_below hw.right hstr
    obtain ⟨oa, oc, rfl, _, _, _, _⟩ := own_value hw
    by_cases hkl : k < L.length
    · obtain ⟨⟨u, x⟩, hku⟩ : ∃ y, L[k]? = some y := ⟨_, List.getElem?_eq_getElem hkl⟩
      have hdrop : (L.map Prod.snd).drop k = x :: (L.map Prod.snd).drop (k + 1) := by
        rw [List.drop_eq_getElem_cons (by simpa using hkl)]
        congr 1
        rw [List.getElem_map, (List.getElem?_eq_some_iff.1 hku).2]
      rw [hdrop] at he
      have Hnext := hide (lastTag_next L k u x hku)
      obtain ⟨p1, p2⟩ := itCells_get L k u x hku
      obtain ⟨bg, bo, rfl⟩ : ∃ b off, a = some ⟨b, off, Option.none⟩ := by obtain ⟨b, off, e, _⟩ := Hla.out _ _ p1; exact ⟨b, off, e⟩
      have q1 := Lay.cell (Hla.out.below hB) _ p1
      have q2 := Lay.cell (Hla.out.below hB) _ p2
      have key : decide (0 < k) = false ∨ (decide (0 < k) = true ∧ 0 < k ∧ wr.cell? ⟨bg, bo + (k - 1) * 2, Option.none⟩ = some (vb (lastTag ((L.map Prod.snd).take k)))) := by
        by_cases hL0 : k = 0
        · exact .inl (decide_eq_false (by omega))
        · exact .inr ⟨decide_eq_true (by omega), by omega, Lay.cell (Hla.out.below hB) _ (lastTag_take L k (by omega) hk)⟩
      have hk0 : k = 0 → lastTag ((L.map Prod.snd).take k) = 0 := fun h => by subst h; rfl
      have hbx := Hin.out _ _ _ hku
      have hxl := Hvl.out _ _ _ hku
      obtain ⟨tag, val⟩ := x
      simp only at *
      have hbx2 := hbx
      obtain ⟨xa, xc, rfl, hxc, hxm, _, _⟩ := hbx2
      unfold maxLen at hxm
      have He := hide he
      have Hw := hide hw
      have Hstr := hide hstr
      have Hbw := hide hbx
      have P1 := hide p1
      have P2 := hide p2
      clear he hw hstr hbx hB hku hdrop p1 p2
      generalize lastTag ((L.map Prod.snd).take k) = last at *
      have htg : tag.toNat < 256 := UInt8.toNat_lt tag
      have eoff : bo + k * 2 + 1 = bo + (k * 2 + 1) := by omega
      have q1' : ∀ n, (wr.drewN n).cell? ⟨bg, bo + k * 2, Option.none⟩ = some (vb tag) := fun n => q1
      have q2' : ∀ n, (wr.drewN n).cell? ⟨bg, bo + (k * 2 + 1), Option.none⟩ = some (.slice xa val.length xc) := fun n => q2
      by_cases hform : tag.toNat ≤ last.toNat
      · have HE : Hid (([], 7) = R) := hide (by rw [← He.out, encodeF_bad (by rw [fitsN_form hform]; decide), fitsN_form hform])
        by_cases ht0 : tag.toNat = 0
        · have e2 : (((tag.toNat : Nat) : Int) == 0) = true := by simp only [beq_iff_eq]; omega
          clear hform key hk0
          go_wp2_with fail
          go_quiet (fail)
          go_wp2_with fail
          go_ret2
          exact ⟨_, by rw [← HE.out]; rfl, by rw [← HE.out]; exact own_nil _ 1 (Hw.out.right.drewN _), Hstr.out.drewN _⟩
        · have e2 : (((tag.toNat : Nat) : Int) == 0) = false := by rw [beq_eq_false_iff_ne]; omega
          have d2 : decide (tag.toNat ≤ last.toNat) = true := by simpa using hform
          rcases key with d1 | ⟨d1, h0k, c2⟩
          · have := hk0 (by simpa using d1)
            subst this
            simp at hform; omega
          · have s1 : IntKind.i64.wrap ((k : Int) - 1) = ((k - 1 : Nat) : Int) := by rw [IntWalk.i64_in _ (by omega)]; omega
            clear hform ht0 hk0
            go_wp2_with fail
            go_quiet (fail)
            go_wp2_with fail
            go_ret2
            exact ⟨_, by rw [← HE.out]; rfl, by rw [← HE.out]; exact own_nil _ 1 (Hw.out.right.drewN _), Hstr.out.drewN _⟩
      · have e2 : (((tag.toNat : Nat) : Int) == 0) = false := by rw [beq_eq_false_iff_ne]; omega
        have d2 : decide (tag.toNat ≤ last.toNat) = false := decide_eq_false hform
        by_cases hlong : 200 < val.length ∨ 16 ≤ k
        · have HE : Hid (([], 17) = R) := hide (by rw [← He.out, encodeF_bad (by rw [fitsN_long hform hlong]; decide), fitsN_long hform hlong])
          clear hform hk0
          rcases (show 200 < val.length ∨ (val.length ≤ 200 ∧ 16 ≤ k) by omega) with h200 | ⟨h200, h16⟩
          all_goals
            rcases key with d1 | ⟨d1, hL0, c2⟩
            all_goals
              clear hlong
              try have s1 : IntKind.i64.wrap ((k : Int) - 1) = ((k - 1 : Nat) : Int) := by rw [IntWalk.i64_in _ (by omega)]; omega
              go_wp2_with fail
              go_quiet (fail)
              go_wp2_with fail
              go_ret2
              exact ⟨_, by rw [← HE.out]; rfl, by rw [← HE.out]; exact own_nil _ 1 (Hw.out.right.drewN _), Hstr.out.drewN _⟩
        · have h200 : val.length ≤ 200 := by omega
          have h16 : k < 16 := by omega
          have HE := hide ((encodeF_good (t := (L.map Prod.snd).drop (k + 1)) (x := ⟨tag, val⟩) (acc := acc) (fitsN_ok (b := k) hform hlong)).symm.trans He.out)
          simp only at HE
          have H8 := hide (show (UInt8.ofNat val.length).toNat = val.length by simp; omega)
          clear hform hlong hk0
          rcases key with d1 | ⟨d1, hL0, c2⟩
          all_goals
            try have s1 : IntKind.i64.wrap ((k : Int) - 1) = ((k - 1 : Nat) : Int) := by rw [IntWalk.i64_in _ (by omega)]; omega
            go_wp2_with fail
            go_quiet (fail)
            have Hw' := hide (Hw.out.drewN nq)
            have Hs' := hide (Hstr.out.drewN nq)
            have r1 : (wr.drewN nq).cell? ⟨bg, bo + k * 2, Option.none⟩ = some (vb tag) := q1
            have r2 : (wr.drewN nq).cell? ⟨bg, bo + (k * 2 + 1), Option.none⟩ = some (.slice xa val.length xc) := q2
            clear q1' q2' q1 q2
            try clear c2
            generalize wr.drewN nq = W0 at *
            have hn : (vbs [UInt8.ofNat val.length]).toArray = #[.int .u8 (val.length : Int)] := by simp [vbs, vb, H8.out]
            have HN := hide hn
            clear hn
            go_wp2_with (first
              | (at_builtin; refine wpList_append_bytes (F := all w) rfl _ _ 22 rfl 5 hu infoT _ acc3 val rfl Ho3.out _ rfl Hbx3.out (by omega) ?_; intro v4 w4 ho4 hs4; have Ho4 := hide ho4; have Hs4 := hide hs4; clear ho4 hs4 r1 r2)
              | (at_builtin; refine wpList_append_bytes (F := all w) rfl _ _ 22 rfl 5 hu infoT _ acc2 [UInt8.ofNat val.length] rfl (Ho2.out.alloc' _) _ rfl (by have := IsBytes.new w2 [UInt8.ofNat val.length] (by simp [maxLen]) 5; rw [HN.out] at this; exact this) (by simp; omega) ?_; clear r1 r2; intro v3 w3 ho3 hs3
                 have hl3 : (acc2 ++ [UInt8.ofNat val.length]).length ≤ acc2.length + 1 := by simp
                 generalize hq3 : acc2 ++ [UInt8.ofNat val.length] = acc3 at ho3 hl3; have Hq3 := hide hq3; clear hq3
                 have Hs3 := hide ((Hs2.out.alloc _).trans hs3)
                 have hla3 := Hla.out.below (all_below ho3.right Hs3.out); have r1 := Lay.cell hla3 _ P1.out; have r2 := Lay.cell hla3 _ P2.out; have Hbx3 := hide (Hbw.out.below (all_below ho3.right Hs3.out)); clear hla3
                 obtain ⟨oa3, oc3, rfl, _, _, _, _⟩ := own_value ho3; have Ho3 := hide ho3; clear ho3 hs3)
              | (at_builtin; refine wpList_append_bytes (F := all w) rfl _ _ 22 rfl 5 hu infoT _ acc [tag] rfl (Hw'.out.alloc' _) _ rfl (IsBytes.new W0 [tag] (by simp [maxLen]) 5) (by simp; omega) ?_; clear r1 r2; intro v2 w2 ho2 hs2
                 have hl2 : (acc ++ [tag]).length ≤ acc.length + 1 := by simp
                 generalize hq2 : acc ++ [tag] = acc2 at ho2 hl2; have Hq2 := hide hq2; clear hq2
                 have Hs2 := hide ((Hs'.out.alloc _).trans hs2)
                 have hla2 := Hla.out.below (all_below ho2.right Hs2.out); have r1 := Lay.cell hla2 _ P1.out; have r2 := Lay.cell hla2 _ P2.out; clear hla2
                 obtain ⟨oa2, oc2, rfl, _, _, _, _⟩ := own_value ho2; have Ho2 := hide ho2; clear ho2 hs2))
            refine ⟨⟨k + 1, acc3 ++ val, by omega, by simp, by rw [Hnext.out, ← HE.out, ← Hq3.out, ← Hq2.out]; simp, by rw [List.length_append]; omega, by omega, Ho4.out, Hs3.out.trans Hs4.out⟩, by simp [intOf]; omega⟩
    · have hkb : k = L.length := by omega
      subst hkb
      rw [List.drop_of_length_le (by simp)] at he
      have HE : Hid ((acc, 0) = R) := hide (by rw [← he]; rfl)
      have Hw := hide hw
      have Hs := hide hstr
      clear hw he hstr hB
      go_wp2_with fail
      go_ret2
      exact ⟨_, by rw [← HE.out]; rfl, by rw [← HE.out]; exact Hw.out, Hs.out⟩

set_option maxRecDepth 100000 in
set_option maxHeartbeats 4000000 in
theorem same11_any (v1 v2 : Value) (L1 L2 : List (Value × TItem)) (w : World) (h1 : IsItems w v1 L1) (h2 : IsItems w v2 L2) (he : L1.map Prod.snd = L2.map Prod.snd) (hlen : L1.length ≤ 1000000) :
    Calls Try.prog 44 #[v1, v2] w fun e w' => e = .returned (.bool true) ∧ Below w.heap.size w w' := by
  obtain ⟨a1, c1, rfl, hc1, hm1, hl1, hb1⟩ := h1
  obtain ⟨a2, c2, rfl, hc2, hm2, hl2, hb2⟩ := h2
  have hll : L2.length = L1.length := by have := congrArg List.length he; simpa using this.symm
  rw [hll] at hc2 ⊢
  unfold maxLen at hm1 hm2
  have Hl1 := hide hl1
  have Hl2 := hide hl2
  have Hb1 := hide hb1
  have Hb2 := hide hb2
  have He := hide he
  have Hll := hide hll
  clear hl1 hl2 hb1 hb2 he hll
  go_enter Try.func44, Try.ntmps44
  go_wp2_with fail
  go_loopw [13] (fun i wr => ∃ k : Nat, k ≤ L1.length ∧ i = .int .i64 k ∧ Below w.heap.size w wr) (fun i _ => L1.length - (intOf i).toNat)
  case atStart => exact ⟨0, by omega, rfl, Below.refl _ _⟩
  case round =>
    obtain ⟨k, hk, rfl, hB⟩ := hrel
    by_cases hkl : k < L1.length
    · obtain ⟨⟨u1, e1⟩, hk1⟩ : ∃ y, L1[k]? = some y := ⟨_, List.getElem?_eq_getElem hkl⟩
      obtain ⟨u2, hk2⟩ : ∃ u2, L2[k]? = some (u2, e1) := by
        have h9 : (L2.map Prod.snd)[k]? = some e1 := by rw [← He.out, List.getElem?_map, hk1]; rfl
        rw [List.getElem?_map, Option.map_eq_some_iff] at h9
        obtain ⟨⟨v, e'⟩, h8, h7⟩ := h9
        exact ⟨v, by rw [h8, ← h7]⟩
      obtain ⟨p1, p2⟩ := itCells_get L1 k _ _ hk1
      obtain ⟨q1, q2⟩ := itCells_get L2 k _ _ hk2
      obtain ⟨g1, o1, rfl⟩ : ∃ b off, a1 = some ⟨b, off, Option.none⟩ := by obtain ⟨b, off, e, _⟩ := Hl1.out _ _ p1; exact ⟨b, off, e⟩
      obtain ⟨g2, o2, rfl⟩ : ∃ b off, a2 = some ⟨b, off, Option.none⟩ := by obtain ⟨b, off, e, _⟩ := Hl2.out _ _ q1; exact ⟨b, off, e⟩
      have x1 := Lay.cell (Hl1.out.below hB) _ p1
      have x2 := Lay.cell (Hl1.out.below hB) _ p2
      have y1 := Lay.cell (Hl2.out.below hB) _ q1
      have y2 := Lay.cell (Hl2.out.below hB) _ q2
      obtain ⟨f1, d1, rfl, _, _, hf1, _⟩ := (Hb1.out _ _ _ hk1).below hB
      obtain ⟨f2, d2, rfl, _, _, hf2, _⟩ := (Hb2.out _ _ _ hk2).below hB
      have hsu := Try.underlying22
      have hsb := Try.underlying5
      have hst := Try.underlying9
      have k1 := fun n => run_string_of (P := Try.prog) (w := wr.drewN n) (c := d1) hsu hsb (show Lay (wr.drewN n) f1 (vbs e1.value) from fun i v e => by
        obtain ⟨b, off, h1, h2⟩ := hf1 i v e
        exact ⟨b, off, h1, by simpa using h2⟩) _ hst
      have k2 := fun n => run_string_of (P := Try.prog) (w := wr.drewN n) (c := d2) hsu hsb (show Lay (wr.drewN n) f2 (vbs e1.value) from fun i v e => by
        obtain ⟨b, off, h1, h2⟩ := hf2 i v e
        exact ⟨b, off, h1, by simpa using h2⟩) _ hst
      have HB := hide hB
      simp only [← Nat.add_assoc] at x2 y2
      generalize e1.value = fr at *
      have ett : (((e1.tag.toNat : Nat) : Int) != ((e1.tag.toNat : Nat) : Int)) = false := by simp
      generalize e1.tag = tg at *
      clear p1 p2 q1 q2 hk1 hk2 hf1 hf2 hB
      have hki : (k : Int) < (L1.length : Int) := by omega
      have hk0 : (0 : Int) ≤ (k : Int) := by omega
      go_wp2_with fail
      go_quiet (fail)
      go_wp2_with fail
      exact ⟨⟨k + 1, by omega, by simp, HB.out.trans ⟨rfl, rfl, rfl, Nat.le_refl _, fun _ _ => rfl⟩⟩, by simp [intOf]; omega⟩
    · have HB := hide hB
      clear hB
      go_wp2_with fail
      go_ret
      exact ⟨rfl, HB.out⟩
end Go.Proofs.Ytdbnjejpejmmjaa
