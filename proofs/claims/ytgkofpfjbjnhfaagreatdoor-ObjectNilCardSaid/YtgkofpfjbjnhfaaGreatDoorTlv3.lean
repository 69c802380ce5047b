/- tlv.Encode and tlv.Find: items as bytes, and the first of a tag. -/
import Derived.Test.YtgkofpfjbjnhfaaGreatDoorTlv
import Derived.Test.YtgkofpfjbjnhfaaGreatDoorTail
namespace Go.Proofs.YtgkofpfjbjnhfaaGreatDoor
open Go.ChangeShapes Go.WideShapes Go.ChangeAt Go.RowKit
set_option linter.unusedVariables false

/-- items that are read -/
def IsItems (w : World) (v : Value) (L : List (Value × TItem)) : Prop := ∃ a c, v = .slice a L.length c ∧ L.length ≤ c ∧ c ≤ maxLen ∧ Lay w a (itCells L) ∧ ∀ (i : Nat) (u : Value) (e : TItem), L[i]? = some (u, e) → IsBytes w u e.value
theorem IsItems.below {w w' : World} {v : Value} {L : List (Value × TItem)} (h : IsItems w v L) (hb : Below w.heap.size w w') : IsItems w' v L := by
  obtain ⟨a, c, h1, h2, h3, h4, h5⟩ := h
  exact ⟨a, c, h1, h2, h3, h4.below hb, fun i u e he => (h5 i u e he).below hb⟩
theorem Its.lay {F : SP} {w : World} {ty : TypeId} {v : Value} {L : List (Value × TItem)} (h : (Its ty v L * F).on w) : IsItems w v L := by
  unfold Its at h
  rw [SP.mul_assoc] at h
  obtain ⟨a, c, h1, h2, h3, h4, _⟩ := own_value h
  exact ⟨a, c, h1, h2, h3, h4, fun i u e he => itStars_get L i u e h.right he⟩
/-- items as bytes: behind so many items, the last of which has the tag last -/
def encodeF : Nat → UInt8 → List TItem → List UInt8 → List UInt8 × Nat
  | _, _, [], acc => (acc, 0)
  | i, last, x :: t, acc => if fitsN x.tag last x.value.length i ≠ 0 then ([], fitsN x.tag last x.value.length i)
    else encodeF (i + 1) x.tag t (acc ++ x.tag :: UInt8.ofNat x.value.length :: x.value)
theorem fitsN_zero' {tag last : UInt8} {a b : Nat} (h : fitsN tag last a b = 0) : last.toNat < tag.toNat ∧ a ≤ 200 ∧ b < 16 := by
  unfold fitsN at h
  split at h
  · cases h
  · split at h
    · cases h
    · omega
theorem encodeF_bad {i : Nat} {last : UInt8} {x : TItem} {t : List TItem} {acc : List UInt8} (h : fitsN x.tag last x.value.length i ≠ 0) : encodeF i last (x :: t) acc = ([], fitsN x.tag last x.value.length i) := by
  simp only [encodeF]; rw [if_pos h]
theorem encodeF_good {i : Nat} {last : UInt8} {x : TItem} {t : List TItem} {acc : List UInt8} (h : fitsN x.tag last x.value.length i = 0) : encodeF i last (x :: t) acc = encodeF (i + 1) x.tag t (acc ++ x.tag :: UInt8.ofNat x.value.length :: x.value) := by
  simp only [encodeF]; rw [if_neg (by simp [h])]

set_option maxRecDepth 100000 in
set_option maxHeartbeats 4000000 in
theorem tencode_any (v : Value) (L : List (Value × TItem)) (w : World) (h : IsItems w v L) (hlen : L.length ≤ 1000000) (hvl : ∀ (i : Nat) (u : Value) (e : TItem), L[i]? = some (u, e) → e.value.length ≤ 1000000) :
    Calls Tryz.prog 76 #[v] w fun e w' => ∃ out, e = .returned (.tuple #[out, .int .i64 ((encodeF 0 0 (L.map Prod.snd) []).2 : Nat)]) ∧ (ownT out (encodeF 0 0 (L.map Prod.snd) []).1 * all w).on w' ∧ Str w w' := by
  have hu := Tryz.underlying23
  obtain ⟨a, c, rfl, hc, hmx, hla, hin⟩ := h
  unfold maxLen at hmx
  have Hla := hide hla
  have Hin := hide hin
  have Hvl := hide hvl
  clear hla hin hvl
  generalize hR : encodeF 0 0 (L.map Prod.snd) [] = R
  have HR := hide hR
  clear hR
  go_enter Tryz.func76, Tryz.ntmps76
  go_wp2_with fail
  go_loopw [4, 5, 11] (fun bv la i wr => ∃ (k : Nat) (last : UInt8) (acc : List UInt8), k ≤ L.length ∧ i = .int .i64 k ∧ la = vb last ∧ encodeF k last ((L.map Prod.snd).drop k) acc = R ∧ acc.length ≤ k * 202 ∧ k ≤ 16 ∧ (ownT bv acc * all w).on wr ∧ Str w wr) (fun _ _ i _ => L.length - (intOf i).toNat)
  case atStart => exact ⟨0, 0, [], by omega, rfl, rfl, by simpa using HR.out, by simp, by omega, own_nil _ 1 (on_all w), Str.refl _⟩
  case round =>
    obtain ⟨k, last, acc, hk, rfl, rfl, he, hacc, hk16, hw, hstr⟩ := hrel
    have hB := all_below hw.right hstr
    obtain ⟨oa, oc, rfl, _, _, _, _⟩ := own_value hw
    by_cases hkl : k < L.length
    · obtain ⟨⟨u, x⟩, hku⟩ : ∃ y, L[k]? = some y := ⟨_, List.getElem?_eq_getElem hkl⟩
      have hdrop : (L.map Prod.snd).drop k = x :: (L.map Prod.snd).drop (k + 1) := by
        rw [List.drop_eq_getElem_cons (by simpa using hkl)]
        congr 1
        rw [List.getElem_map, (List.getElem?_eq_some_iff.1 hku).2]
      rw [hdrop] at he
      obtain ⟨p1, p2⟩ := itCells_get L k u x hku
      obtain ⟨bg, bo, rfl⟩ : ∃ b off, a = some ⟨b, off, Option.none⟩ := by obtain ⟨b, off, e, _⟩ := Hla.out _ _ p1; exact ⟨b, off, e⟩
      have q1 := Lay.cell (Hla.out.below hB) _ p1
      have q2 := Lay.cell (Hla.out.below hB) _ p2
      have hbx := Hin.out _ _ _ hku
      have hxl := Hvl.out _ _ _ hku
      obtain ⟨tag, val⟩ := x
      simp only at *
      have hbx2 := hbx
      obtain ⟨xa, xc, rfl, hxc, hxm, _, _⟩ := hbx2
      unfold maxLen at hxm
      have HF := hide (fun w => fits_any tag last val.length k w)
      have He := hide he
      have Hw := hide hw
      have Hstr := hide hstr
      have Hbx := hide (hbx.below hB)
      have Hbw := hide hbx
      clear he hw hstr hbx hB hku hdrop p1 p2
      have eoff : bo + k * 2 + 1 = bo + (k * 2 + 1) := by omega
      by_cases hfit : fitsN tag last val.length k = 0
      · obtain ⟨_, hv2, hv3⟩ := fitsN_zero' hfit
        have HE := hide ((encodeF_good (t := (L.map Prod.snd).drop (k + 1)) (x := ⟨tag, val⟩) (acc := acc) hfit).symm.trans He.out)
        simp only at HE
        have H8 := hide (show (UInt8.ofNat val.length).toNat = val.length by simp; omega)
        simp only [hfit] at HF
        clear hfit
        go_wp2_with fail
        refine (HF.out _).mono ?_
        rintro e w1 ⟨rfl, rfl⟩
        have h0 := Hw.out.alloc (.cells #[vb tag, .slice xa val.length xc] 109)
        rw [SP.mul_left_comm] at h0
        have h1 := h0.alloc' (.cells #[vb tag, .int .u8 (val.length : Int)] 5)
        have hn : (vbs [tag, UInt8.ofNat val.length]).toArray = #[vb tag, .int .u8 (val.length : Int)] := by simp [vbs, vb, H8.out]
        have hnew := IsBytes.new (wr.alloc (.cells #[vb tag, .slice xa val.length xc] 109)) [tag, UInt8.ofNat val.length] (by simp [maxLen]) 5
        rw [hn] at hnew
        simp only [World.size_alloc] at hnew
        have H1 := hide h1
        have Hnew := hide hnew
        have Hs1 := hide ((Hstr.out.alloc (.cells #[vb tag, .slice xa val.length xc] 109)).alloc (.cells #[vb tag, .int .u8 (val.length : Int)] 5))
        clear h0 h1 hn hnew
        go_wp2_with (first
          | (at_builtin; refine wpList_append_bytes (F := blk wr.heap.size (.cells #[vb tag, .slice xa val.length xc] 109 (0, 0)) * all w) rfl _ _ 23 rfl 5 hu infoT _ acc2 val rfl Ho2.out _ rfl Hbx2.out (by omega) ?_; clear t0 t1; intro v3 w3 ho3 hs3
             have hb7 := on_blk_mul ho3.right; have t0 := cell_of_row _ wr.heap.size 0 _ _ _ hb7; simp only [List.getElem?_toArray, List.getElem?_cons_zero] at t0; have Ho3 := hide ho3; have Hs3 := hide hs3; clear ho3 hs3 hb7)
          | (at_builtin; refine wpList_append_bytes (F := blk wr.heap.size (.cells #[vb tag, .slice xa val.length xc] 109 (0, 0)) * all w) rfl _ _ 23 rfl 5 hu infoT _ acc [tag, UInt8.ofNat val.length] rfl H1.out _ rfl Hnew.out (by simp; omega) ?_; intro v2 w2 ho2 hs2
             have hl2 : (acc ++ [tag, UInt8.ofNat val.length]).length ≤ acc.length + 2 := by simp
             generalize hq : acc ++ [tag, UInt8.ofNat val.length] = acc2 at ho2 hl2; have Hq := hide hq; clear hq
             have hbx2 := (Hbw.out.below (all_below ho2.right.right (Hs1.out.trans hs2))); have hb7 := on_blk_mul ho2.right; have t0 := cell_of_row _ wr.heap.size 0 _ _ _ hb7; have t1 := cell_of_row _ wr.heap.size 1 _ _ _ hb7; simp only [List.getElem?_toArray, List.getElem?_cons_zero, List.getElem?_cons_succ] at t0 t1
             obtain ⟨oa2, oc2, rfl, _, _, _, _⟩ := own_value ho2; have Ho2 := hide ho2; have Hs2 := hide hs2; have Hbx2 := hide hbx2; clear ho2 hs2 hbx2 hb7))
        refine ⟨⟨k + 1, tag, acc2 ++ val, by omega, by simp, rfl, by rw [← HE.out, ← Hq.out]; simp, by rw [List.length_append]; omega, by omega, ?_, (Hs1.out.trans Hs2.out).trans Hs3.out⟩, by simp [intOf]; omega⟩
        have h9 := Ho3.out
        rw [SP.mul_left_comm] at h9
        exact h9.right
      · have HE : Hid (([], fitsN tag last val.length k) = R) := hide (by rw [← He.out, encodeF_bad hfit])
        generalize fitsN tag last val.length k = z at *
        have hz1 : ((z : Int) != 0) = true := by simpa using hfit
        clear hfit
        go_wp2_with fail
        refine (HF.out _).mono ?_
        rintro e w1 ⟨rfl, rfl⟩
        go_wp2_with fail
        go_ret2
        exact ⟨_, by rw [← HE.out]; rfl, by rw [← HE.out]; exact own_nil _ 1 (Hw.out.right.alloc' _), Hstr.out.alloc _⟩
    · have hkb : k = L.length := by omega
      subst hkb
      rw [List.drop_of_length_le (by simp)] at he
      have He := hide he
      have Hw := hide hw
      have Hs := hide hstr
      clear hw he hstr hB
      go_wp2_with fail
      go_ret2
      exact ⟨_, by rw [← He.out]; rfl, by rw [← He.out]; exact Hw.out, Hs.out⟩

def findF (tag : UInt8) : List TItem → Option TItem
  | [] => Option.none
  | x :: t => if x.tag = tag then some x else findF tag t
/-- what Find answers -/
def findR (tag : UInt8) (L : List TItem) : List UInt8 × Bool := match findF tag L with
  | some x => (x.value, true)
  | Option.none => ([], false)

set_option maxRecDepth 100000 in
set_option maxHeartbeats 4000000 in
theorem tfind_any (v : Value) (L : List (Value × TItem)) (tag : UInt8) (w : World) (h : IsItems w v L) (hlen : L.length ≤ 1000000) (hvl : ∀ (i : Nat) (u : Value) (e : TItem), L[i]? = some (u, e) → e.value.length ≤ 1000000) :
    Calls Tryz.prog 51 #[v, vb tag] w fun e w' => ∃ out, e = .returned (.tuple #[out, .bool (findR tag (L.map Prod.snd)).2]) ∧ (ownT out (findR tag (L.map Prod.snd)).1 * all w).on w' ∧ Str w w' := by
  obtain ⟨a, c, rfl, hc, hmx, hla, hin⟩ := h
  unfold maxLen at hmx
  have Hla := hide hla
  have Hin := hide hin
  have Hvl := hide hvl
  clear hla hin hvl
  generalize hR : findR tag (L.map Prod.snd) = R
  have HR := hide hR
  clear hR
  go_enter Tryz.func51, Tryz.ntmps51
  go_wp2_with fail
  go_loopw [10] (fun i wr => ∃ (k : Nat), k ≤ L.length ∧ i = .int .i64 k ∧ findR tag ((L.map Prod.snd).drop k) = R ∧ Below w.heap.size w wr) (fun i _ => L.length - (intOf i).toNat)
  case atStart => exact ⟨0, by omega, rfl, by simpa using HR.out, Below.refl _ _⟩
  case round =>
    obtain ⟨k, hk, rfl, he, hB⟩ := hrel
    by_cases hkl : k < L.length
    · obtain ⟨⟨u, x⟩, hku⟩ : ∃ y, L[k]? = some y := ⟨_, List.getElem?_eq_getElem hkl⟩
      have hdrop : (L.map Prod.snd).drop k = x :: (L.map Prod.snd).drop (k + 1) := by
        rw [List.drop_eq_getElem_cons (by simpa using hkl)]
        congr 1
        rw [List.getElem_map, (List.getElem?_eq_some_iff.1 hku).2]
      rw [hdrop] at he
      obtain ⟨p1, p2⟩ := itCells_get L k u x hku
      obtain ⟨bg, bo, rfl⟩ : ∃ b off, a = some ⟨b, off, Option.none⟩ := by obtain ⟨b, off, e, _⟩ := Hla.out _ _ p1; exact ⟨b, off, e⟩
      have q1 := Lay.cell (Hla.out.below hB) _ p1
      have q2 := Lay.cell (Hla.out.below hB) _ p2
      have hbx := (Hin.out _ _ _ hku).below hB
      have hxl := Hvl.out _ _ _ hku
      obtain ⟨tg, val⟩ := x
      simp only at *
      have hbx2 := hbx
      obtain ⟨xa, xc, rfl, hxc, hxm, _, _⟩ := hbx2
      unfold maxLen at hxm
      have He := hide he
      have HB := hide hB
      have Hbx := hide hbx
      clear he hbx hB hku hdrop p1 p2
      have eoff : bo + k * 2 + 1 = bo + (k * 2 + 1) := by omega
      by_cases htg : tg = tag
      · subst htg
        have HE : Hid ((val, true) = R) := hide (by rw [← He.out]; simp [findR, findF])
        have HC := hide (copied_any _ val _ (Hbx.out.below ((Below.refl wr.heap.size wr).alloc (Nat.le_refl _) (.cells #[vb tg, .slice xa val.length xc] 109))) (by omega))
        go_wp2_with fail
        refine HC.out.mono ?_
        rintro e w1 ⟨v1, rfl, ho1, hs1⟩
        have HO : Hid ((ownT v1 val * all w).on w1) := hide (on_all_to ho1 ((on_all w).below (HB.out.trans ((Below.refl _ _).alloc HB.out.size _))))
        have HS := hide ((Str.below (HB.out.trans ((Below.refl _ _).alloc HB.out.size _))).trans hs1)
        clear ho1 hs1
        go_wp2_with fail
        go_ret2
        exact ⟨_, by rw [← HE.out]; rfl, by rw [← HE.out]; exact HO.out, HS.out⟩
      · have e1 : (((tg.toNat : Nat) : Int) == ((tag.toNat : Nat) : Int)) = false := by
          rw [beq_eq_false_iff_ne]
          intro e
          exact htg (UInt8.toNat_inj.1 (by omega))
        have HE : Hid (findR tag ((L.map Prod.snd).drop (k + 1)) = R) := hide (by rw [← He.out]; simp [findR, findF, htg])
        clear htg
        go_wp2_with fail
        exact ⟨⟨k + 1, by omega, by simp, HE.out, HB.out.trans ((Below.refl _ _).alloc HB.out.size _)⟩, by simp [intOf]; omega⟩
    · have hkb : k = L.length := by omega
      subst hkb
      rw [List.drop_of_length_le (by simp)] at he
      have HE : Hid (([], false) = R) := hide (by rw [← he]; rfl)
      have HB := hide hB
      clear he hB
      go_wp2_with fail
      go_ret2
      exact ⟨_, by rw [← HE.out]; rfl, by rw [← HE.out]; exact own_nil _ 1 ((on_all w).below HB.out), Str.below HB.out⟩
end Go.Proofs.YtgkofpfjbjnhfaaGreatDoor
