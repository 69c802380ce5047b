/- tlv.Encode and tlv.Find: items as bytes, and the first of a tag. -/
import Derived.Test.YtgmpmlneoiagdaaGreatDoorGBase
namespace Go.Proofs.YtgmpmlneoiagdaaGreatDoor
open Go.ChangeShapes Go.WideShapes Go.ChangeAt Go.RowKit
set_option linter.unusedVariables false

/-- items that are read -/
def IsItems (w : World) (v : Value) (L : List (Value × TItem)) : Prop := ∃ a c, v = .slice a L.length c ∧ L.length ≤ c ∧ c ≤ maxLen ∧ Lay w a (itCells L) ∧ ∀ (i : Nat) (u : Value) (e : TItem), L[i]? = some (u, e) → IsBytes w u e.value
theorem IsItems.below {w w' : World} {v : Value} {L : List (Value × TItem)} (h : IsItems w v L) (hb : Below w.heap.size w w') : IsItems w' v L := by
  obtain ⟨a, c, h1, h2, h3, h4, h5⟩ := h
  exact ⟨a, c, h1, h2, h3, h4.below hb, fun i u e he => (h5 i u e he).below hb⟩
theorem Its.lay {F : SP} {w : World} {ty : TypeId} {v : Value} {L : List (Value × TItem)} (h : (Its ty v L * F).on w) : IsItems w v L := by
  unfold Its at h
  rw [SP.mul_assoc] at h
  obtain ⟨a, c, h1, h2, h3, h4, _⟩ := own_value h
  exact ⟨a, c, h1, h2, h3, h4, fun i u e he => itStars_get L i u e h.right he⟩
/-- items as bytes: behind so many items, the last of which has the tag last -/
def encodeF : Nat → UInt8 → List TItem → List UInt8 → List UInt8 × Nat
  | _, _, [], acc => (acc, 0)
  | i, last, x :: t, acc => if fitsN x.tag last x.value.length i ≠ 0 then ([], fitsN x.tag last x.value.length i)
    else encodeF (i + 1) x.tag t (acc ++ x.tag :: UInt8.ofNat x.value.length :: x.value)
theorem encodeF_bad {i : Nat} {last : UInt8} {x : TItem} {t : List TItem} {acc : List UInt8} (h : fitsN x.tag last x.value.length i ≠ 0) : encodeF i last (x :: t) acc = ([], fitsN x.tag last x.value.length i) := by
  simp only [encodeF]; rw [if_pos h]
theorem encodeF_good {i : Nat} {last : UInt8} {x : TItem} {t : List TItem} {acc : List UInt8} (h : fitsN x.tag last x.value.length i = 0) : encodeF i last (x :: t) acc = encodeF (i + 1) x.tag t (acc ++ x.tag :: UInt8.ofNat x.value.length :: x.value) := by
  simp only [encodeF]; rw [if_neg (by simp [h])]

def findF (tag : UInt8) : List TItem → Option TItem
  | [] => Option.none
  | x :: t => if x.tag = tag then some x else findF tag t
/-- what Find answers -/
def findR (tag : UInt8) (L : List TItem) : List UInt8 × Bool := match findF tag L with
  | some x => (x.value, true)
  | Option.none => ([], false)

set_option maxRecDepth 100000 in
set_option maxHeartbeats 4000000 in
theorem tfind_any (v : Value) (L : List (Value × TItem)) (tag : UInt8) (w : World) (h : IsItems w v L) (hlen : L.length ≤ 1000000) (hvl : ∀ (i : Nat) (u : Value) (e : TItem), L[i]? = some (u, e) → e.value.length ≤ 1000000) :
    Calls Tryz.prog 124 #[v, vb tag] w fun e w' => ∃ out, e = .returned (.tuple #[out, .bool (findR tag (L.map Prod.snd)).2]) ∧ (ownT out (findR tag (L.map Prod.snd)).1 * all w).on w' ∧ Str w w' := by
  obtain ⟨a, c, rfl, hc, hmx, hla, hin⟩ := h
  unfold maxLen at hmx
  have Hla := hide hla
  have Hin := hide hin
  have Hvl := hide hvl
  clear hla hin hvl
  generalize hR : findR tag (L.map Prod.snd) = R
  have HR := hide hR
  clear hR
  go_enter Tryz.func124, Tryz.ntmps124
  go_wp2_with fail
  go_loopw [10] (fun i wr => ∃ (k : Nat), k ≤ L.length ∧ i = .int .i64 k ∧ findR tag ((L.map Prod.snd).drop k) = R ∧ Below w.heap.size w wr) (fun i _ => L.length - (intOf i).toNat)
  case atStart => exact ⟨0, by omega, rfl, by simpa using HR.out, Below.refl _ _⟩
  case round =>
    obtain ⟨k, hk, rfl, he, hB⟩ := hrel
    by_cases hkl : k < L.length
    · obtain ⟨⟨u, x⟩, hku⟩ : ∃ y, L[k]? = some y := ⟨_, List.getElem?_eq_getElem hkl⟩
      have hdrop : (L.map Prod.snd).drop k = x :: (L.map Prod.snd).drop (k + 1) := by
        rw [List.drop_eq_getElem_cons (by simpa using hkl)]
        congr 1
        rw [List.getElem_map, (List.getElem?_eq_some_iff.1 hku).2]
      rw [hdrop] at he
      obtain ⟨p1, p2⟩ := itCells_get L k u x hku
      obtain ⟨bg, bo, rfl⟩ : ∃ b off, a = some ⟨b, off, Option.none⟩ := by obtain ⟨b, off, e, _⟩ := Hla.out _ _ p1; exact ⟨b, off, e⟩
      have q1 := Lay.cell (Hla.out.below hB) _ p1
      have q2 := Lay.cell (Hla.out.below hB) _ p2
      have hbx := (Hin.out _ _ _ hku).below hB
      have hxl := Hvl.out _ _ _ hku
      obtain ⟨tg, val⟩ := x
      simp only at *
      have hbx2 := hbx
      obtain ⟨xa, xc, rfl, hxc, hxm, _, _⟩ := hbx2
      unfold maxLen at hxm
      have He := hide he
      have HB := hide hB
      have Hbx := hide hbx
      clear he hbx hB hku hdrop p1 p2
      have eoff : bo + k * 2 + 1 = bo + (k * 2 + 1) := by omega
      by_cases htg : tg = tag
      · subst htg
        have HE : Hid ((val, true) = R) := hide (by rw [← He.out]; simp [findR, findF])
        have HC := hide (copied_any _ val _ (Hbx.out.below ((Below.refl wr.heap.size wr).alloc (Nat.le_refl _) (.cells #[vb tg, .slice xa val.length xc] 195))) (by omega))
        go_wp2_with fail
        refine HC.out.mono ?_
        rintro e w1 ⟨v1, rfl, ho1, hs1⟩
        have HO : Hid ((ownT v1 val * all w).on w1) := hide (on_all_to ho1 ((on_all w).below (HB.out.trans ((Below.refl _ _).alloc HB.out.size _))))
        have HS := hide ((Str.below (HB.out.trans ((Below.refl _ _).alloc HB.out.size _))).trans hs1)
        clear ho1 hs1
        go_wp2_with fail
        go_ret2
        exact ⟨_, by rw [← HE.out]; rfl, by rw [← HE.out]; exact HO.out, HS.out⟩
      · have e1 : (((tg.toNat : Nat) : Int) == ((tag.toNat : Nat) : Int)) = false := by
          rw [beq_eq_false_iff_ne]
          intro e
          exact htg (UInt8.toNat_inj.1 (by omega))
        have HE : Hid (findR tag ((L.map Prod.snd).drop (k + 1)) = R) := hide (by rw [← He.out]; simp [findR, findF, htg])
        clear htg
        go_wp2_with fail
        exact ⟨⟨k + 1, by omega, by simp, HE.out, HB.out.trans ((Below.refl _ _).alloc HB.out.size _)⟩, by simp [intOf]; omega⟩
    · have hkb : k = L.length := by omega
      subst hkb
      rw [List.drop_of_length_le (by simp)] at he
      have HE : Hid (([], false) = R) := hide (by rw [← he]; rfl)
      have HB := hide hB
      clear he hB
      go_wp2_with fail
      go_ret2
      exact ⟨_, by rw [← HE.out]; rfl, by rw [← HE.out]; exact own_nil _ 1 ((on_all w).below HB.out), Str.below HB.out⟩
end Go.Proofs.YtgmpmlneoiagdaaGreatDoor
