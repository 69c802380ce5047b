/- A part. -/
import Derived.Test.YtjdebgbiockafaaGreatDoorGBase
import Derived.Deep.QuietTactic
import Derived.BigQuiet
set_option linter.unusedVariables false
set_option linter.unusedSimpArgs false
set_option maxRecDepth 100000
set_option maxHeartbeats 8000000
namespace Go.Proofs.YtjdebgbiockafaaGreatDoor
open Go.ChangeShapes Go.WideShapes Go.ChangeAt Go.RowKit
def IsItems (w : World) (v : Value) (L : List (Value × TItem)) : Prop := ∃ a c, v = .slice a L.length c ∧ L.length ≤ c ∧ c ≤ maxLen ∧ Lay w a (itCells L) ∧ ∀ (i : Nat) (u : Value) (e : TItem), L[i]? = some (u, e) → IsBytes w u e.value
theorem IsItems.below {w w' : World} {v : Value} {L : List (Value × TItem)} (h : IsItems w v L) (hb : Below w.heap.size w w') : IsItems w' v L := by
 obtain ⟨a, c, h1, h2, h3, h4, h5⟩ := h
 exact ⟨a, c, h1, h2, h3, h4.below hb, fun i u e he => (h5 i u e he).below hb⟩
theorem Its.lay {F : SP} {w : World} {ty : TypeId} {v : Value} {L : List (Value × TItem)} (h : (Its ty v L * F).on w) : IsItems w v L := by
 unfold Its at h
 rw [SP.mul_assoc] at h
 obtain ⟨a, c, h1, h2, h3, h4, _⟩ := own_value h
 exact ⟨a, c, h1, h2, h3, h4, fun i u e he => itStars_get L i u e h.right he⟩
def encodeF : Nat → UInt8 → List TItem → List UInt8 → List UInt8 × Nat
 | _, _, [], acc => (acc, 0)
 | i, last, x :: t, acc => if fitsN x.tag last x.value.length i ≠ 0 then ([], fitsN x.tag last x.value.length i)
  else encodeF (i + 1) x.tag t (acc ++ x.tag :: UInt8.ofNat x.value.length :: x.value)
theorem fitsN_zero' {tag last : UInt8} {a b : Nat} (h : fitsN tag last a b = 0) : last.toNat < tag.toNat ∧ a ≤ 200 ∧ b < 16 := by
 unfold fitsN at h
 split at h
 ·cases h
 split at h
 ·cases h
 omega
theorem encodeF_bad {i : Nat} {last : UInt8} {x : TItem} {t : List TItem} {acc : List UInt8} (h : fitsN x.tag last x.value.length i ≠ 0) : encodeF i last (x :: t) acc = ([], fitsN x.tag last x.value.length i) := by
 simp only [encodeF]; rw [if_pos h]
theorem encodeF_good {i : Nat} {last : UInt8} {x : TItem} {t : List TItem} {acc : List UInt8} (h : fitsN x.tag last x.value.length i = 0) : encodeF i last (x :: t) acc = encodeF (i + 1) x.tag t (acc ++ x.tag :: UInt8.ofNat x.value.length :: x.value) := by
 simp only [encodeF]; rw [if_neg (by simp [h])]
theorem tencode_any (v : Value) (L : List (Value × TItem)) (w : World) (h : IsItems w v L) (hlen : L.length ≤ 1000000) (hvl : ∀ (i : Nat) (u : Value) (e : TItem), L[i]? = some (u, e) → e.value.length ≤ 1000000) :
  Calls Tryz.prog 51 #[v] w fun e w' => ∃ out, e = .returned (.tuple #[out, .int .i64 ((encodeF 0 0 (L.map Prod.snd) []).2 : Nat)]) ∧ (ownT out (encodeF 0 0 (L.map Prod.snd) []).1 * all w).on w' ∧ Str w w' := by
 have hu := Tryz.underlying35
 obtain ⟨a, c, rfl, hc, hmx, hla, hin⟩ := h
 unfold maxLen at hmx
 have Hla := hide hla
 have Hin := hide hin
 have Hvl := hide hvl
 clear hla hin hvl
 generalize hR : encodeF 0 0 (L.map Prod.snd) [] = R
 have HR := hide hR
 clear hR
 go_enter Tryz.func51, Tryz.ntmps51
 go_wp2_with fail
 go_loopw [4, 5, 11] (fun bv la i wr => ∃ (k : Nat) (last : UInt8) (acc : List UInt8), k ≤ L.length ∧ i = .int .i64 k ∧ la = vb last ∧ encodeF k last ((L.map Prod.snd).drop k) acc = R ∧ acc.length ≤ k * 202 ∧ k ≤ 16 ∧ (ownT bv acc * all w).on wr ∧ Str w wr) (fun _ _ i _ => L.length - (intOf i).toNat)
 case atStart => exact ⟨0, 0, [], by omega, rfl, rfl, by simpa using HR.out, by simp, by omega, own_nil _ 1 (on_all w), Str.refl _⟩
 obtain ⟨k, last, acc, hk, rfl, rfl, he, hacc, hk16, hw, hstr⟩ := hrel
 have hB := all_below hw.right hstr
 obtain ⟨oa, oc, rfl, _, _, _, _⟩ := own_value hw
 by_cases hkl : k < L.length
 ·obtain ⟨⟨u, x⟩, hku⟩ : ∃ y, L[k]? = some y := ⟨_, List.getElem?_eq_getElem hkl⟩
  have hdrop : (L.map Prod.snd).drop k = x :: (L.map Prod.snd).drop (k + 1) := by
   rw [List.drop_eq_getElem_cons (by simpa using hkl)]
   congr 1
   rw [List.getElem_map, (List.getElem?_eq_some_iff.1 hku).2]
  rw [hdrop] at he
  obtain ⟨p1, p2⟩ := itCells_get L k u x hku
  obtain ⟨bg, bo, rfl⟩ : ∃ b off, a = some ⟨b, off, .none⟩ := by obtain ⟨b, off, e, _⟩ := Hla.out _ _ p1; exact ⟨b, off, e⟩
  have q1 := Lay.cell (Hla.out.below hB) _ p1
  have q2 := Lay.cell (Hla.out.below hB) _ p2
  have hbx := Hin.out _ _ _ hku
  have hxl := Hvl.out _ _ _ hku
  obtain ⟨tag, val⟩ := x
  simp only at *
  have hbx2 := hbx
  obtain ⟨xa, xc, rfl, hxc, hxm, _, _⟩ := hbx2
  unfold maxLen at hxm
  have HF := hide (fun w => fits_any tag last val.length k w)
  have He := hide he
  have Hw := hide hw
  have Hstr := hide hstr
  have Hbx := hide (hbx.below hB)
  have Hbw := hide hbx
  clear he hw hstr hbx hB hku hdrop p1 p2
  have eoff : bo + k * 2 + 1 = bo + (k * 2 + 1) := by omega
  by_cases hfit : fitsN tag last val.length k = 0
  ·obtain ⟨_, hv2, hv3⟩ := fitsN_zero' hfit
   have HE := hide ((encodeF_good (t := (L.map Prod.snd).drop (k + 1)) (x := ⟨tag, val⟩) (acc := acc) hfit).symm.trans He.out)
   simp only at HE
   have H8 := hide (show (UInt8.ofNat val.length).toNat = val.length by simp; omega)
   simp only [hfit] at HF
   clear hfit
   go_wp2_with fail
   refine (HF.out _).mono ?_
   rintro e w1 ⟨rfl, rfl⟩
   have h0 := Hw.out.alloc (.cells #[vb tag, .slice xa val.length xc] 72)
   rw [SP.mul_left_comm] at h0
   have h1 := h0.alloc' (.cells #[vb tag, .int .u8 (val.length : Int)] 5)
   have hn : (vbs [tag, UInt8.ofNat val.length]).toArray = #[vb tag, .int .u8 (val.length : Int)] := by simp [vbs, vb, H8.out]
   have hnew := IsBytes.new (wr.alloc (.cells #[vb tag, .slice xa val.length xc] 72)) [tag, UInt8.ofNat val.length] (by simp [maxLen]) 5
   rw [hn] at hnew
   simp only [World.size_alloc] at hnew
   have H1 := hide h1
   have Hnew := hide hnew
   have Hs1 := hide ((Hstr.out.alloc (.cells #[vb tag, .slice xa val.length xc] 72)).alloc (.cells #[vb tag, .int .u8 (val.length : Int)] 5))
   clear h0 h1 hn hnew
   go_wp2_with (first
    | (at_builtin; refine wpList_append_bytes (F := blk wr.heap.size (.cells #[vb tag, .slice xa val.length xc] 72 (0, 0)) * all w) rfl _ _ 35 rfl 5 hu infoT _ acc2 val rfl Ho2.out _ rfl Hbx2.out (by omega) ?_; clear t0 t1; intro v3 w3 ho3 hs3
       have hb7 := on_blk_mul ho3.right; have t0 := cell_of_row _ wr.heap.size 0 _ _ _ hb7; simp only [List.getElem?_toArray, List.getElem?_cons_zero] at t0; have Ho3 := hide ho3; have Hs3 := hide hs3; clear ho3 hs3 hb7)
    | (at_builtin; refine wpList_append_bytes (F := blk wr.heap.size (.cells #[vb tag, .slice xa val.length xc] 72 (0, 0)) * all w) rfl _ _ 35 rfl 5 hu infoT _ acc [tag, UInt8.ofNat val.length] rfl H1.out _ rfl Hnew.out (by simp; omega) ?_; intro v2 w2 ho2 hs2
       have hl2 : (acc ++ [tag, UInt8.ofNat val.length]).length ≤ acc.length + 2 := by simp
       generalize hq : acc ++ [tag, UInt8.ofNat val.length] = acc2 at ho2 hl2; have Hq := hide hq; clear hq
       have hbx2 := (Hbw.out.below (all_below ho2.right.right (Hs1.out.trans hs2))); have hb7 := on_blk_mul ho2.right; have t0 := cell_of_row _ wr.heap.size 0 _ _ _ hb7; have t1 := cell_of_row _ wr.heap.size 1 _ _ _ hb7; simp only [List.getElem?_toArray, List.getElem?_cons_zero, List.getElem?_cons_succ] at t0 t1
       obtain ⟨oa2, oc2, rfl, _, _, _, _⟩ := own_value ho2; have Ho2 := hide ho2; have Hs2 := hide hs2; have Hbx2 := hide hbx2; clear ho2 hs2 hbx2 hb7))
   refine ⟨⟨k + 1, tag, acc2 ++ val, by omega, by simp, rfl, by rw [← HE.out, ← Hq.out]; simp, by rw [List.length_append]; omega, by omega, ?_, (Hs1.out.trans Hs2.out).trans Hs3.out⟩, by simp [intOf]; omega⟩
   have h9 := Ho3.out
   rw [SP.mul_left_comm] at h9
   exact h9.right
  have HE : Hid (([], fitsN tag last val.length k) = R) := hide (by rw [← He.out, encodeF_bad hfit])
  generalize fitsN tag last val.length k = z at *
  have hz1 : ((z : Int) != 0) = true := by simpa using hfit
  clear hfit
  go_wp2_with fail
  refine (HF.out _).mono ?_
  rintro e w1 ⟨rfl, rfl⟩
  go_wp2
  go_ret2
  exact ⟨_, by rw [← HE.out]; rfl, by rw [← HE.out]; exact own_nil _ 1 (Hw.out.right.alloc' _), Hstr.out.alloc _⟩
 have hkb : k = L.length := by omega
 subst hkb
 rw [List.drop_of_length_le (by simp)] at he
 have He := hide he
 have Hw := hide hw
 have Hs := hide hstr
 clear hw he hstr hB
 go_wp2
 go_ret2
 exact ⟨_, by rw [← He.out]; rfl, by rw [← He.out]; exact Hw.out, Hs.out⟩
def findF (tag : UInt8) : List TItem → Option TItem
 | [] => Option.none
 | x :: t => if x.tag = tag then some x else findF tag t
def findR (tag : UInt8) (L : List TItem) : List UInt8 × Bool := match findF tag L with
 | some x => (x.value, true)
 | Option.none => ([], false)
theorem tfind_any (v : Value) (L : List (Value × TItem)) (tag : UInt8) (w : World) (h : IsItems w v L) (hlen : L.length ≤ 1000000) (hvl : ∀ (i : Nat) (u : Value) (e : TItem), L[i]? = some (u, e) → e.value.length ≤ 1000000) :
  Calls Tryz.prog 61 #[v, vb tag] w fun e w' => ∃ out, e = .returned (.tuple #[out, .bool (findR tag (L.map Prod.snd)).2]) ∧ (ownT out (findR tag (L.map Prod.snd)).1 * all w).on w' ∧ Str w w' := by
 obtain ⟨a, c, rfl, hc, hmx, hla, hin⟩ := h
 unfold maxLen at hmx
 have Hla := hide hla
 have Hin := hide hin
 have Hvl := hide hvl
 clear hla hin hvl
 generalize hR : findR tag (L.map Prod.snd) = R
 have HR := hide hR
 clear hR
 go_enter Tryz.func61, Tryz.ntmps61
 go_wp2_with fail
 go_loopw [10] (fun i wr => ∃ (k : Nat), k ≤ L.length ∧ i = .int .i64 k ∧ findR tag ((L.map Prod.snd).drop k) = R ∧ Below w.heap.size w wr) (fun i _ => L.length - (intOf i).toNat)
 case atStart => exact ⟨0, by omega, rfl, by simpa using HR.out, Below.refl _ _⟩
 obtain ⟨k, hk, rfl, he, hB⟩ := hrel
 by_cases hkl : k < L.length
 ·obtain ⟨⟨u, x⟩, hku⟩ : ∃ y, L[k]? = some y := ⟨_, List.getElem?_eq_getElem hkl⟩
  have hdrop : (L.map Prod.snd).drop k = x :: (L.map Prod.snd).drop (k + 1) := by
   rw [List.drop_eq_getElem_cons (by simpa using hkl)]
   congr 1
   rw [List.getElem_map, (List.getElem?_eq_some_iff.1 hku).2]
  rw [hdrop] at he
  obtain ⟨p1, p2⟩ := itCells_get L k u x hku
  obtain ⟨bg, bo, rfl⟩ : ∃ b off, a = some ⟨b, off, .none⟩ := by obtain ⟨b, off, e, _⟩ := Hla.out _ _ p1; exact ⟨b, off, e⟩
  have q1 := Lay.cell (Hla.out.below hB) _ p1
  have q2 := Lay.cell (Hla.out.below hB) _ p2
  have hbx := (Hin.out _ _ _ hku).below hB
  have hxl := Hvl.out _ _ _ hku
  obtain ⟨tg, val⟩ := x
  simp only at *
  have hbx2 := hbx
  obtain ⟨xa, xc, rfl, hxc, hxm, _, _⟩ := hbx2
  unfold maxLen at hxm
  have He := hide he
  have HB := hide hB
  have Hbx := hide hbx
  clear he hbx hB hku hdrop p1 p2
  have eoff : bo + k * 2 + 1 = bo + (k * 2 + 1) := by omega
  by_cases htg : tg = tag
  ·subst htg
   have HE : Hid ((val, true) = R) := hide (by rw [← He.out]; simp [findR, findF])
   have HC := hide (copied_any _ val _ (Hbx.out.below ((Below.refl wr.heap.size wr).alloc (Nat.le_refl _) (.cells #[vb tg, .slice xa val.length xc] 72))) (by omega))
   go_wp2_with fail
   refine HC.out.mono ?_
   rintro e w1 ⟨v1, rfl, ho1, hs1⟩
   have HO : Hid ((ownT v1 val * all w).on w1) := hide (on_all_to ho1 ((on_all w).below (HB.out.trans ((Below.refl _ _).alloc HB.out.size _))))
   have HS := hide ((Str.below (HB.out.trans ((Below.refl _ _).alloc HB.out.size _))).trans hs1)
   clear ho1 hs1
   go_wp2
   go_ret2
   exact ⟨_, by rw [← HE.out]; rfl, by rw [← HE.out]; exact HO.out, HS.out⟩
  have e1 : (((tg.toNat : Nat) : Int) == ((tag.toNat : Nat) : Int)) = false := by
   rw [beq_eq_false_iff_ne]
   intro e
   exact htg (UInt8.toNat_inj.1 (by omega))
  have HE : Hid (findR tag ((L.map Prod.snd).drop (k + 1)) = R) := hide (by rw [← He.out]; simp [findR, findF, htg])
  clear htg
  go_wp2
  exact ⟨⟨k + 1, by omega, by simp, HE.out, HB.out.trans ((Below.refl _ _).alloc HB.out.size _)⟩, by simp [intOf]; omega⟩
 have hkb : k = L.length := by omega
 subst hkb
 rw [List.drop_of_length_le (by simp)] at he
 have HE : Hid (([], false) = R) := hide (by rw [← he]; rfl)
 have HB := hide hB
 clear he hB
 go_wp2
 go_ret2
 exact ⟨_, by rw [← HE.out]; rfl, by rw [← HE.out]; exact own_nil _ 1 ((on_all w).below HB.out), Str.below HB.out⟩
theorem infoItem : (Tryz.prog.info? 72).map (fun i => (i.zero, i.size, i.bytes)) = some (some (.agg #[.int .u8 0, .slice Option.none 0 0]), 2, 32) := by kernel_rfl
def sliceLen : Value → Nat
 | .slice _ n _ => n
 | _ => 0
theorem IsBytes.from {w : World} {g off n c : Nat} {l : List UInt8} (h : IsBytes w (.slice (some ⟨g, off, .none⟩) n c) l) (k : Nat) (hk : k ≤ l.length) : IsBytes w (.slice (some ⟨g, off + k, .none⟩) (n - k) (c - k)) (l.drop k) := by
 obtain ⟨ad, c', e, h1, h2, h3, _⟩ := h
 simp only [Value.slice.injEq] at e
 obtain ⟨rfl, rfl, rfl⟩ := e
 refine ⟨_, _, by rw [List.length_drop], by rw [List.length_drop]; omega, by omega, ?_, by simp⟩
 have := h3.drop k
 rwa [← List.map_drop] at this
theorem parseF_step {f : Nat} {tag sz last : UInt8} {rest : List UInt8} {acc : List TItem} (hf : fitsN tag last sz.toNat acc.length = 0) (hr : sz.toNat ≤ rest.length) :
  parseF (f + 1) (tag :: sz :: rest) last acc = parseF f (rest.drop sz.toNat) tag (acc ++ [⟨tag, rest.take sz.toNat⟩]) := by
 simp only [parseF]
 rw [if_neg (by simp [hf]), if_neg (by omega)]
theorem fitsN_zero {tag last : UInt8} {a b : Nat} (h : fitsN tag last a b = 0) : last.toNat < tag.toNat ∧ a ≤ 200 ∧ b < 16 := by
 unfold fitsN at h
 split at h
 ·cases h
 split at h
 ·cases h
 omega
theorem tparse_any (v : Value) (b : List UInt8) (w : World) (h : IsBytes w v b) (hlen : b.length ≤ 1000000) :
  Calls Tryz.prog 31 #[v] w fun e w' => ∃ out L, e = .returned (.tuple #[out, .int .i64 ((parseF b.length b 0 []).2 : Nat)]) ∧ L.map Prod.snd = (parseF b.length b 0 []).1 ∧ (Its 72 out L * all w).on w' ∧ Str w w' := by
 have H := hide h
 obtain ⟨a, c, rfl, hc, hmx, _, _⟩ := h
 obtain ⟨ie, hie, hz, hsz, hby⟩ := info_some infoItem
 have hue := Tryz.underlying69
 have Hie := hide hie
 have Hz := hide hz
 have Hsz := hide hsz
 have Hby := hide hby
 clear hie hz hsz hby
 unfold maxLen at hmx
 generalize hR : parseF b.length b 0 [] = R
 have HR := hide hR
 clear hR
 go_enter Tryz.func31, Tryz.ntmps31
 go_wp2_with fail
 go_loopw [0, 4, 5] (fun bv lv la wr => ∃ (rest : List UInt8) (L : List (Value × TItem)) (last : UInt8) (f : Nat), IsBytes w bv rest ∧ la = vb last ∧ rest.length ≤ f ∧ rest.length ≤ 1000000 ∧ parseF f rest last (L.map Prod.snd) = R ∧ L.length ≤ 16 ∧ (Its 72 lv L * all w).on wr ∧ Str w wr) (fun bv _ _ _ => sliceLen bv)
 case atStart => exact ⟨b, [], 0, b.length, H.out, rfl, Nat.le_refl _, hlen, HR.out, by simp, Its.nil (on_all w), Str.refl _⟩
 obtain ⟨rest, L, last, f, hb, rfl, hf, hrl, hp, hL, hw, hstr⟩ := hrel
 have hb2 := hb.below (all_below hw.right hstr)
 have hw2 := hw
 unfold Its at hw2
 rw [SP.mul_assoc] at hw2
 obtain ⟨la, lc, rfl, hlc1, hlc2, _, _⟩ := own_value hw2
 obtain ⟨ba, bc, rfl, hbc1, hbc2, hbl, _⟩ := hb2
 unfold maxLen at hlc2 hbc2
 have Hw := hide hw
 have Hstr := hide hstr
 have Hb := hide hb
 have Hp := hide hp
 clear hw hw2 hstr hb hp
 match rest, hf, hrl, hbc1, hbl, Hb, Hp with
 | [], hf, hrl, hbc1, hbl, Hb, Hp =>
  clear hbl
  have HE : Hid ((L.map Prod.snd, 0) = R) := hide (by rw [← Hp.out]; cases f <;> rfl)
  go_wp2
  go_ret2
  exact ⟨_, L, by rw [← HE.out]; rfl, by rw [← HE.out], Hw.out, Hstr.out⟩
 | [x], hf, hrl, hbc1, hbl, Hb, Hp =>
  clear hbl
  have HE : Hid (([], 18) = R) := hide (by rw [← Hp.out]; cases f <;> rfl)
  simp only [List.length_cons, List.length_nil] at *
  go_wp2
  go_ret2
  exact ⟨_, [], by rw [← HE.out]; rfl, by rw [← HE.out]; rfl, Its.nil Hw.out.right, Hstr.out⟩
 | tag :: sz :: rest, hf, hrl, hbc1, hbl, Hb, Hp =>
  obtain ⟨bg, bo, rfl⟩ := Lay.isAddr hbl 0 (by simp)
  have c0 := Lay.cell hbl 0 (v := vb tag) rfl
  have c1 := Lay.cell hbl 1 (v := vb sz) rfl
  rw [Nat.add_zero] at c0
  clear hbl
  simp only [List.length_cons] at *
  have hsz : sz.toNat < 256 := UInt8.toNat_lt sz
  by_cases hfit : fitsN tag last sz.toNat L.length = 0
  ·have HF := hide (fits_any tag last sz.toNat L.length wr)
   rw [hfit] at HF
   have hfz := fitsN_zero hfit
   obtain ⟨_, hfz2, hfz3⟩ := hfz
   have Hfit := hide hfit
   clear hfit
   by_cases hcut : rest.length < sz.toNat
   ·have HE : Hid (([], 18) = R) := hide (by
     rw [← Hp.out]
     cases f with
     | zero => omega
     | succ f => simp only [parseF]; rw [if_neg (by simpa using Hfit.out), if_pos hcut])
    go_wp2_with fail
    refine HF.out.mono ?_
    rintro e w1 ⟨rfl, rfl⟩
    go_wp2
    go_ret2
    exact ⟨_, [], by rw [← HE.out]; rfl, by rw [← HE.out]; rfl, Its.nil Hw.out.right, Hstr.out⟩
   have hcut2 : sz.toNat ≤ rest.length := by omega
   clear hcut
   cases f with
   | zero => omega
   | succ f =>
   have Hp2 := hide ((parseF_step (f := f) (last := last) (rest := rest) (by rw [List.length_map]; exact Hfit.out) hcut2).symm.trans Hp.out)
   go_wp2_with fail
   refine HF.out.mono ?_
   rintro e w1 ⟨rfl, rfl⟩
   go_wp2_with fail
   have hval : Hid (∀ W, Stay wr W → IsBytes W (.slice (some ⟨bg, bo + 2, .none⟩) sz.toNat sz.toNat) (rest.take sz.toNat)) := hide (fun W hT => by
    have h1 := ((Hb.out.below (all_below Hw.out.right Hstr.out)).below hT)
    obtain ⟨_, _, e, _, _, h3, _⟩ := h1
    simp only [Value.slice.injEq] at e
    obtain ⟨rfl, _, rfl⟩ := e
    refine ⟨_, _, by rw [List.length_take, Nat.min_eq_left hcut2], by rw [List.length_take]; omega, by unfold maxLen; omega, ?_, by simp⟩
    have := (h3.drop 2).take sz.toNat
    rwa [← List.map_drop, ← List.map_take] at this)
   have hval0 : Hid (sz.toNat = 0 → ∀ W, IsBytes W (.slice (some ⟨bg, bo, .none⟩) 0 0) (rest.take sz.toNat)) := hide (fun h0 W => by
    rw [h0, List.take_zero]
    exact ⟨_, _, rfl, Nat.le_refl _, Nat.zero_le _, Lay.nil _ _, by simp⟩)
   have hvl : (rest.take sz.toNat).length ≤ 255 := by rw [List.length_take]; omega
   generalize hvv : rest.take sz.toNat = val at *
   refine wp_region_tail 11 [isV (.slice la L.length lc), isV (.slice (some ⟨bg, bo, .none⟩) (rest.length + 1 + 1) bc), isV (.pointer (some ⟨bg, bo, .none⟩)), isV (vb tag), isV (.slice (some ⟨bg, bo, .none⟩) (rest.length + 1 + 1) bc), isV (.int .i64 (2 + (sz.toNat : Int))), isV (.int .i64 (2 + (sz.toNat : Int))),
    (fun v w => IsBytes w v val), (fun v w => (ownT v val * all wr).on w), (fun v w => ∃ x, v = .agg #[vb tag, x] ∧ (ownT x val * all wr).on w),
    (fun v w => ∃ g x, v = .slice (some ⟨g, 0, .none⟩) 1 1 ∧ (blk g (.cells #[vb tag, x] 72 (0, 0)) * (ownT x val * all wr)).on w)]
    (by simp only [List.take_succ_cons, List.take_zero]; rfl) (by simp only [List.drop_succ_cons, List.drop_zero]; rfl) (by kernel_rfl) (by kernel_rfl) (by kernel_rfl) (by decide) rfl ?keep ?todo ?r140
   case keep =>
    exact ⟨Keep.isV _, Keep.isV _, Keep.isV _, Keep.isV _, Keep.isV _, Keep.isV _, Keep.isV _, fun _ _ _ h k => IsBytes.below h k, fun _ _ _ h k => SP.on.below h k, fun _ _ _ ⟨x, h1, h2⟩ k => ⟨x, h1, SP.on.below h2 k⟩, fun _ _ _ ⟨g, x, h1, h2⟩ k => ⟨g, x, h1, SP.on.below h2 k⟩, trivial⟩
   case todo =>
    refine ⟨?_, ?_, ?_, ?_, ?_, ?_, ?_, ?_, ?_, ?_, ?_, trivial⟩
    ·exact fun ev W hT hb hk hf => OpOk.move rfl hk.1 ⟨rfl, Stay.refl _⟩
    ·exact fun ev W hT hb hk hf => OpOk.move rfl hk.1 ⟨rfl, Stay.refl _⟩
    ·intro ev W hT hb hk hf
     have hn : (0 : Int) < (rest.length : Int) + 1 + 1 := by omega
     exact OpOk.run (v := .pointer (some ⟨bg, bo, .none⟩)) (W' := W) (by simp [execOp, fX ev 37 hf.1, hb.1, hn, go_sem]) ⟨rfl, Stay.refl _⟩
    ·intro ev W hT hb hk hf
     have cW := (hT.cell (p := ⟨bg, bo, .none⟩) (World.block_lt_of_cell? wr _ c0)).trans c0
     exact OpOk.run (v := vb tag) (W' := W) (by simp [execOp, fX ev 38 hf.1, cW, go_sem]) ⟨rfl, Stay.refl _⟩
    ·exact fun ev W hT hb hk hf => OpOk.move rfl hk.1 ⟨rfl, Stay.refl _⟩
    ·exact fun ev W hT hb hk hf => OpOk.move rfl hk.1 ⟨rfl, Stay.refl _⟩
    ·exact fun ev W hT hb hk hf => OpOk.move rfl hk.1 ⟨rfl, Stay.refl _⟩
    ·intro ev W hT hb hk hf
     have e0 := fX ev 40 hf.1
     have e1 := fX ev 41 hf.2.1
     have e2 := fX ev 42 hf.2.2.1
     have h1 : (0 : Int) ≤ 2 + (sz.toNat : Int) := by omega
     have h2 : (2 : Int) ≤ 2 + (sz.toNat : Int) := by omega
     have h3 : (2 + (sz.toNat : Int)).toNat = 2 + sz.toNat := by omega
     have h4 : 2 + sz.toNat ≤ bc := by omega
     by_cases hz0 : sz.toNat = 0
     ·refine OpOk.run (v := .slice (some ⟨bg, bo, .none⟩) 0 0) (W' := W) ?_ ⟨hval0.out hz0 W, Stay.refl _⟩
      rw [hz0] at h4 e1 e2
      simp [execOp, e0, e1, e2, hb.1, go_sem]
      intro hx
      omega
     refine OpOk.run (v := .slice (some ⟨bg, bo + 2, .none⟩) sz.toNat sz.toNat) (W' := W) ?_ ⟨hval.out W hT, Stay.refl _⟩
     simp [execOp, e0, e1, e2, hb.1, h1, h3, hz0, go_sem]
     rw [if_pos (by omega), if_pos (by omega)]
    ·intro ev W hT hb hk hf
     have e0 : IsBytes W (ev (.tmp 43)) val := hf.1
     refine OpOk.enters (f := 60) (args := #[ev (.tmp 43)]) (W' := W) (by simp [execOp, resolve, invoke, hb.2.1, go_sem]) ?_
     refine (copied_any _ val W e0 (by omega)).mono ?_
     rintro e w' ⟨v', rfl, ho', hs'⟩
     exact ⟨_, rfl, on_all_to ho' ((on_all wr).below hT), all_below ho'.right hs'⟩
    ·intro ev W hT hb hk hf
     have e0 := fX ev 39 hf.1
     have e1 : (ownT (ev (.tmp 44)) val * all wr).on W := hf.2.1
     have e2 := own_value e1
     obtain ⟨xa, xc, e2, _, _, _, _⟩ := e2
     rw [e2] at e1
     exact OpOk.run (v := .agg #[vb tag, .slice xa val.length xc]) (W' := W) (by simp [execOp, e0, e2, go_sem]) ⟨⟨_, rfl, e1⟩, Stay.refl _⟩
    intro ev W hT hb hk hf
    obtain ⟨x, e0, e1⟩ : ∃ x, ev (.tmp 45) = .agg #[vb tag, x] ∧ (ownT x val * all wr).on W := hf.1
    obtain ⟨xa, xc, rfl, _, _, _, _⟩ := own_value e1
    exact OpOk.run (v := .slice (some ⟨W.heap.size, 0, .none⟩) 1 1) (W' := W.alloc (.cells #[vb tag, .slice xa val.length xc] 72)) (by simp [execOp, e0, go_sem]) ⟨⟨_, _, rfl, e1.alloc _⟩, (Below.refl _ _).alloc (Nat.le_refl _) _⟩
   intro W hT
   rintro _ rfl _ rfl _ rfl _ rfl _ rfl _ rfl _ rfl v43 - v44 - v45 - _ ⟨g, x, rfl, hx⟩
   have h1 := on_all_to2 hx Hw.out
   obtain ⟨xa, xc, rfl, _, _, _, _⟩ := own_value hx.right
   have h2 : (own 72 2 (.slice la L.length lc) L.length (itCells L) * (blk g (.cells #[vb tag, .slice xa val.length xc] 72 (0, 0)) * (itStars L * (ownT (.slice xa val.length xc) val * all w)))).on W := by
    unfold Its at h1
    have e : (blk g (.cells #[vb tag, .slice xa val.length xc] 72 (0, 0)) * (ownT (.slice xa val.length xc) val * ((own 72 2 (.slice la L.length lc) L.length (itCells L) * itStars L) * all w))) = (own 72 2 (.slice la L.length lc) L.length (itCells L) * (blk g (.cells #[vb tag, .slice xa val.length xc] 72 (0, 0)) * (itStars L * (ownT (.slice xa val.length xc) val * all w)))) := by ac_rfl
    rw [e] at h1
    exact h1
   have hlay : Lay W (some ⟨g, 0, .none⟩) [vb tag, .slice xa val.length xc] := fun i u hu => ⟨_, _, rfl, by
    rw [Nat.zero_add, cell_of_row _ _ _ _ _ _ (on_blk_mul hx)]
    simpa using hu⟩
   have H2 := hide h2
   have Hlay := hide hlay
   have HsT := hide (Str.below hT)
   clear h1 h2 hx hlay hT
   go_wp2
   refine Rest.done ?_
   go_wp2_with (at_builtin; refine wpList_append_sp (F := blk g (.cells #[vb tag, .slice xa val.length xc] 72 (0, 0)) * (itStars L * (ownT (.slice xa val.length xc) val * all w))) rfl _ _ 69 rfl 72 ie _ 2 32 hue Hie.out Hz.out Hsz.out Hby.out rfl (by decide) _ L.length (itCells L) rfl H2.out (some ⟨g, 0, .none⟩) 1 1 [vb tag, .slice xa val.length xc] rfl (by simp) rfl Hlay.out (by intro u hu; simp at hu; rcases hu with rfl | rfl <;> rfl) (by unfold maxLen; omega) (by omega) ?_; intro v3 w3 ho3 hs3)
   have ho4 := ho3
   rw [SP.mul_left_comm] at ho4
   have ho5 := ho4.right
   have HS3 := hide ((Hstr.out.trans HsT.out).trans hs3)
   have c3 : w3.cell? ⟨bg, bo, .none⟩ = some (vb tag) := by
    have h1 := Hb.out.below (all_below ho5.right.right.right HS3.out)
    obtain ⟨_, _, e, _, _, h3, _⟩ := h1
    simp only [Value.slice.injEq] at e
    obtain ⟨rfl, _, rfl⟩ := e
    have := Lay.cell h3 0 (v := vb tag) rfl
    rwa [Nat.add_zero] at this
   have HN := hide (Its.push (it := ⟨tag, val⟩) ho5)
   have hfrom := Hb.out.from (2 + sz.toNat) (by simp; omega)
   have edrop : (tag :: sz :: rest).drop (2 + sz.toNat) = rest.drop sz.toNat := by rw [Nat.add_comm, List.drop_succ_cons, List.drop_succ_cons]
   rw [edrop] at hfrom
   clear ho3 ho4 ho5 hs3 H2 Hlay HsT edrop c0 c1 hval hval0
   obtain ⟨oa, oc, rfl, _, _, _, _⟩ := own_value (by have := HN.out; unfold Its at this; rw [SP.mul_assoc] at this; exact this)
   have HF3 := hide hfrom
   have HP3 := hide (show parseF f (rest.drop sz.toNat) tag ((L ++ [(Value.slice xa val.length xc, (⟨tag, val⟩ : TItem))]).map Prod.snd) = R by rw [List.map_append]; exact Hp2.out)
   have hrl2 : (rest.drop sz.toNat).length ≤ f ∧ (rest.drop sz.toNat).length ≤ 1000000 := by rw [List.length_drop]; omega
   obtain ⟨hrl2, hrl3⟩ := hrl2
   clear hfrom hvv
   by_cases hcap : bc = 2 + sz.toNat
   ·subst hcap
    have hz3 : rest.length + 1 + 1 - (2 + sz.toNat) = 0 := by omega
    have HF4 : Hid (IsBytes w (.slice (some ⟨bg, bo, .none⟩) (rest.length + 1 + 1 - (2 + sz.toNat)) (2 + sz.toNat - (2 + sz.toNat))) (rest.drop sz.toNat)) := hide (by
     have := HF3.out
     have h0 : (rest.drop sz.toNat) = [] := List.drop_eq_nil_of_le (by omega)
     rw [h0]
     exact ⟨_, _, by rw [hz3]; rfl, Nat.zero_le _, by unfold maxLen; omega, Lay.nil _ _, by simp⟩)
    go_wp2_with fail
    go_region
    go_wp2_with fail
    exact ⟨⟨rest.drop sz.toNat, _, tag, f, HF4.out, rfl, hrl2, hrl3, HP3.out, by simp; omega, HN.out.drew, HS3.out.drew⟩, by simp only [sliceLen]; omega⟩
   go_wp2_with fail
   go_region
   go_wp2_with fail
   exact ⟨⟨rest.drop sz.toNat, _, tag, f, HF3.out, rfl, hrl2, hrl3, HP3.out, by simp; omega, HN.out.drew, HS3.out.drew⟩, by simp only [sliceLen]; omega⟩
  have HE : Hid (([], fitsN tag last sz.toNat L.length) = R) := hide (by
   rw [← Hp.out]
   cases f with
   | zero => omega
   | succ f => simp only [parseF]; rw [if_pos (by simpa using hfit)]; simp)
  have HF := hide (fits_any tag last sz.toNat L.length wr)
  generalize fitsN tag last sz.toNat L.length = z at *
  have hz1 : ((z : Int) != 0) = true := by simpa using hfit
  clear hfit
  go_wp2_with fail
  refine HF.out.mono ?_
  rintro e w1 ⟨rfl, rfl⟩
  go_wp2
  go_ret2
  exact ⟨_, [], by rw [← HE.out]; rfl, by rw [← HE.out]; rfl, Its.nil Hw.out.right, Hstr.out⟩
theorem infoRItem : (Tryz.prog.info? 139).map (fun i => (i.zero, i.size, i.bytes)) = some (some (.agg #[.int .u8 0, .slice Option.none 0 0]), 2, 32) := by kernel_rfl
abbrev lvOf {ty : TypeId} {v : Value} {L : List (Value × TItem)} {F : SP} {w : World} (_ : Hid ((Its ty v L * F).on w)) : Value := v
def TlvEnd (ty : TypeId) (R : List TItem × Nat) (w : World) (e : Ending) (w' : World) : Prop := ∃ out L, e = .returned (.tuple #[out, .int .i64 (R.2 : Nat)]) ∧ L.map Prod.snd = R.1 ∧ (Its ty out L * all w).on w' ∧ Str w w'
def lastTag (L : List TItem) : UInt8 := match L.getLast? with
 | some x => x.tag
 | Option.none => 0
theorem lastTag_snoc (L : List TItem) (x : TItem) : lastTag (L ++ [x]) = x.tag := by simp [lastTag]
theorem lastTag_cell (L : List (Value × TItem)) (h : 0 < L.length) : (itCells L)[(L.length - 1) * 2]? = some (vb (lastTag (L.map Prod.snd))) := by
 have hl : L[L.length - 1]? = some (L[L.length - 1].1, L[L.length - 1].2) := List.getElem?_eq_getElem (by omega)
 have := (itCells_get L _ _ _ hl).1
 rw [this]
 congr 2
 unfold lastTag
 rw [List.getLast?_eq_getElem?, List.getElem?_map, List.length_map, hl]
 rfl
theorem fitsN_form {tag last : UInt8} {a b : Nat} (h : tag.toNat ≤ last.toNat) : fitsN tag last a b = 7 := by unfold fitsN; rw [if_pos h]
theorem fitsN_long {tag last : UInt8} {a b : Nat} (h : ¬tag.toNat ≤ last.toNat) (h2 : 200 < a ∨ 16 ≤ b) : fitsN tag last a b = 17 := by unfold fitsN; rw [if_neg h, if_pos h2]
theorem fitsN_ok {tag last : UInt8} {a b : Nat} (h : ¬tag.toNat ≤ last.toNat) (h2 : ¬(200 < a ∨ 16 ≤ b)) : fitsN tag last a b = 0 := by unfold fitsN; rw [if_neg h, if_neg h2]
theorem parseF_bad {f : Nat} {tag sz last : UInt8} {rest : List UInt8} {acc : List TItem} {z : Nat} (hf : fitsN tag last sz.toNat acc.length = z) (hz : z ≠ 0) :
  parseF (f + 1) (tag :: sz :: rest) last acc = ([], z) := by
 simp only [parseF]; rw [if_pos (by omega), hf]
theorem parseF_cut {f : Nat} {tag sz last : UInt8} {rest : List UInt8} {acc : List TItem} (hf : fitsN tag last sz.toNat acc.length = 0) (hr : rest.length < sz.toNat) :
  parseF (f + 1) (tag :: sz :: rest) last acc = ([], 18) := by
 simp only [parseF]; rw [if_neg (by simp [hf]), if_pos hr]
theorem rtparse_any (v : Value) (b : List UInt8) (w : World) (h : IsBytes w v b) (hlen : b.length ≤ 1000000) :
  Calls Tryz.prog 54 #[v] w (TlvEnd 139 (parseF b.length b 0 []) w) := by
 have H := hide h
 obtain ⟨a, c, rfl, hc, hmx, _, _⟩ := h
 obtain ⟨ie, hie, hz, hsz, hby⟩ := info_some infoRItem
 have hue := Tryz.underlying104
 have hu8 := Tryz.underlying35
 have Hie := hide hie
 have Hz := hide hz
 have Hsz := hide hsz
 have Hby := hide hby
 clear hie hz hsz hby
 unfold maxLen at hmx
 generalize hR : parseF b.length b 0 [] = R
 have HR := hide hR
 clear hR
 go_enter Tryz.func54, Tryz.ntmps54
 go_wp2_with fail
 go_loopw [4, 5] (fun lv at' wr => ∃ (k : Nat) (L : List (Value × TItem)) (f : Nat), at' = .int .i64 k ∧ k ≤ b.length ∧ b.length - k ≤ f ∧ parseF f (b.drop k) (lastTag (L.map Prod.snd)) (L.map Prod.snd) = R ∧ L.length ≤ 16 ∧ (Its 139 lv L * all w).on wr ∧ Str w wr) (fun _ at' _ => b.length - (intOf at').toNat)
 case atStart => exact ⟨0, [], b.length, rfl, by omega, by omega, by simpa [lastTag] using HR.out, by simp, Its.nil (on_all w), Str.refl _⟩
 obtain ⟨k, L, f, rfl, hk, hf, hp, hL, hw, hstr⟩ := hrel
 have hw2 := hw
 unfold Its at hw2
 rw [SP.mul_assoc] at hw2
 obtain ⟨la, lc, rfl, hlc1, hlc2, hlay, _⟩ := own_value hw2
 obtain ⟨_, _, eb, _, _, hbl, _⟩ := H.out.below (all_below hw.right hstr)
 simp only [Value.slice.injEq] at eb
 obtain ⟨rfl, _, rfl⟩ := eb
 unfold maxLen at hlc2
 have Hlay := hide hlay
 have Hw := hide hw
 have Hstr := hide hstr
 clear hw hw2 hstr hlay
 by_cases hk0 : k = b.length
 ·subst hk0
  rw [List.drop_length] at hp
  have HE : Hid ((L.map Prod.snd, 0) = R) := hide (by rw [← hp]; cases f <;> rfl)
  clear hp hbl
  go_wp2
  go_ret2
  exact ⟨_, L, by rw [← HE.out]; rfl, by rw [← HE.out], Hw.out, Hstr.out⟩
 have hk1 : k < b.length := by omega
 have hd := List.drop_eq_getElem_cons hk1
 by_cases hk2 : k + 1 = b.length
 ·have HE : Hid (([], 18) = R) := hide (by rw [← hp, hd, List.drop_eq_nil_of_le (by omega)]; cases f <;> rfl)
  have e1 : ((k : Int) + 1 == (b.length : Int)) = true := by simp only [beq_iff_eq]; omega
  clear hp hbl hk0 hd hk2
  go_wp2
  go_ret2
  exact ⟨_, [], by rw [← HE.out]; rfl, by rw [← HE.out]; rfl, Its.nil Hw.out.right, Hstr.out⟩
 have hk3 : k + 1 < b.length := by omega
 have e1 : ((k : Int) + 1 == (b.length : Int)) = false := by rw [beq_eq_false_iff_ne]; omega
 rw [List.drop_eq_getElem_cons hk3] at hd
 have g0 := vbs_get b k hk1
 have g1 := vbs_get b (k + 1) hk3
 generalize b[k] = tag at *
 generalize b[k + 1] = sz at *
 rw [hd] at hp
 obtain ⟨bg, bo, rfl⟩ := Lay.isAddr hbl k (by simpa using hk1)
 have c0 := Lay.cell hbl k g0
 have c1 := Lay.cell hbl (k + 1) g1
 have hsz : sz.toNat < 256 := UInt8.toNat_lt sz
 have htg : tag.toNat < 256 := UInt8.toNat_lt tag
 cases f with
 | zero => omega
 | succ f =>
 have Hp := hide hp
 have Hd := hide hd
 clear hp hd hk0 hk2 g0 g1 hbl
 by_cases hform : tag.toNat ≤ (lastTag (L.map Prod.snd)).toNat
 ·have HE : Hid (([], 7) = R) := hide (by rw [← Hp.out, parseF_bad (fitsN_form hform) (by decide)])
  by_cases ht0 : tag.toNat = 0
  ·have e2 : (((tag.toNat : Nat) : Int) == 0) = true := by simp only [beq_iff_eq]; omega
   clear hform
   go_wp2_with fail
   go_quiet (fail)
   go_wp2
   go_ret2
   exact ⟨_, [], by rw [← HE.out]; rfl, by rw [← HE.out]; rfl, Its.nil (Hw.out.right.drewN _), Hstr.out.drewN _⟩
  have e2 : (((tag.toNat : Nat) : Int) == 0) = false := by rw [beq_eq_false_iff_ne]; omega
  have hL0 : 0 < L.length := by
   cases L with
   | nil => simp [lastTag] at hform; omega
   | cons _ _ => simp
  obtain ⟨og, oo, rfl⟩ : ∃ g o, la = some ⟨g, o, .none⟩ := by obtain ⟨g, o, e, _⟩ := Hlay.out _ _ (lastTag_cell L hL0); exact ⟨g, o, e⟩
  have c2 := Lay.cell Hlay.out _ (lastTag_cell L hL0)
  have d1 : decide (0 < L.length) = true := by simpa using hL0
  have d2 : decide (tag.toNat ≤ (lastTag (L.map Prod.snd)).toNat) = true := by simpa using hform
  have s1 : IntKind.i64.wrap ((L.length : Int) - 1) = ((L.length - 1 : Nat) : Int) := by rw [IntWalk.i64_in _ (by omega)]; omega
  clear hform ht0
  generalize lastTag (L.map Prod.snd) = last at *
  go_wp2_with fail
  go_quiet (fail)
  go_wp2
  go_ret2
  exact ⟨_, [], by rw [← HE.out]; rfl, by rw [← HE.out]; rfl, Its.nil (Hw.out.right.drewN _), Hstr.out.drewN _⟩
 have ht0 : ¬ tag.toNat = 0 := by omega
 have e2 : (((tag.toNat : Nat) : Int) == 0) = false := by rw [beq_eq_false_iff_ne]; omega
 have key : decide (0 < L.length) = false ∨ (decide (0 < L.length) = true ∧ 0 < L.length ∧ ∃ og oo, la = some ⟨og, oo, .none⟩ ∧ wr.cell? ⟨og, oo + (L.length - 1) * 2, .none⟩ = some (vb (lastTag (L.map Prod.snd)))) := by
  by_cases hL0 : L.length = 0
  ·exact .inl (decide_eq_false (by omega))
  obtain ⟨og, oo, e, h9⟩ := Hlay.out _ _ (lastTag_cell L (by omega))
  exact .inr ⟨decide_eq_true (by omega), by omega, og, oo, e, h9⟩
 have d2 : decide (tag.toNat ≤ (lastTag (L.map Prod.snd)).toNat) = false := decide_eq_false hform
 by_cases hlong : 200 < sz.toNat ∨ 16 ≤ L.length
 ·have HE : Hid (([], 17) = R) := hide (by rw [← Hp.out, parseF_bad (fitsN_long hform (by rw [List.length_map]; exact hlong)) (by decide)])
  generalize lastTag (L.map Prod.snd) = last at *
  clear hform ht0
  rcases (show 200 < sz.toNat ∨ (sz.toNat ≤ 200 ∧ 16 ≤ L.length) by omega) with h200 | ⟨h200, h16⟩
  all_goals
   rcases key with d1 | ⟨d1, hL0, og, oo, rfl, c2⟩
   all_goals
    clear hlong
    try have s1 : IntKind.i64.wrap ((L.length : Int) - 1) = ((L.length - 1 : Nat) : Int) := by rw [IntWalk.i64_in _ (by omega)]; omega
    go_wp2_with fail
    go_quiet (fail)
    go_wp2
    go_ret2
    exact ⟨_, [], by rw [← HE.out]; rfl, by rw [← HE.out]; rfl, Its.nil (Hw.out.right.drewN _), Hstr.out.drewN _⟩
 have h200 : sz.toNat ≤ 200 := by omega
 have h16 : L.length < 16 := by omega
 have HFit := hide (fitsN_ok (b := (L.map Prod.snd).length) hform (by rw [List.length_map]; exact hlong))
 clear hlong
 by_cases hcut : b.length < k + 2 + sz.toNat
 ·have HE : Hid (([], 18) = R) := hide (by rw [← Hp.out, parseF_cut HFit.out (by rw [List.length_drop]; omega)])
  generalize lastTag (L.map Prod.snd) = last at *
  clear hform ht0
  rcases key with d1 | ⟨d1, hL0, og, oo, rfl, c2⟩
  all_goals
   try have s1 : IntKind.i64.wrap ((L.length : Int) - 1) = ((L.length - 1 : Nat) : Int) := by rw [IntWalk.i64_in _ (by omega)]; omega
   go_wp2_with fail
   go_quiet (fail)
   go_wp2
   go_ret2
   exact ⟨_, [], by rw [← HE.out]; rfl, by rw [← HE.out]; rfl, Its.nil (Hw.out.right.drewN _), Hstr.out.drewN _⟩
 have hcut2 : k + 2 + sz.toNat ≤ b.length := by omega
 have Hp2 := hide ((parseF_step (f := f) HFit.out (rest := b.drop (k + 2)) (by rw [List.length_drop]; omega)).symm.trans Hp.out)
 generalize lastTag (L.map Prod.snd) = last at *
 clear hform ht0 hcut
 rcases key with d1 | ⟨d1, hL0, og, oo, rfl, c2⟩
 all_goals
  try have s1 : IntKind.i64.wrap ((L.length : Int) - 1) = ((L.length - 1 : Nat) : Int) := by rw [IntWalk.i64_in _ (by omega)]; omega
  go_wp2_with fail
  go_quiet (fail)
  go_wp2_with fail
  have c0' : (wr.drewN nq).cell? ⟨bg, bo + k, .none⟩ = some (vb tag) := c0
  have Hw' := hide (Hw.out.drewN nq)
  have Hs' := hide (Hstr.out.drewN nq)
  generalize wr.drewN nq = W0 at *
  have a1 : IntKind.i64.wrap ((k : Int) + 2) = (k : Int) + 2 := by rw [IntWalk.i64_in _ (by omega)]
  have a2 : IntKind.i64.wrap ((k : Int) + 2 + (sz.toNat : Int)) = (k : Int) + 2 + (sz.toNat : Int) := by rw [IntWalk.i64_in _ (by omega)]
  have hval : Hid (∀ W, Stay W0 W → IsBytes W (.slice (some ⟨bg, bo + (k + 2), .none⟩) sz.toNat (c - (k + 2))) ((b.drop (k + 2)).take sz.toNat)) := hide (fun W hT => by
   have h1 := ((H.out.below (all_below Hw'.out.right Hs'.out)).below hT)
   obtain ⟨_, _, e, h5, _, h3, _⟩ := h1
   simp only [Value.slice.injEq] at e
   obtain ⟨rfl, _, rfl⟩ := e
   refine ⟨_, _, by rw [List.length_take, List.length_drop, Nat.min_eq_left (by omega)], by rw [List.length_take, List.length_drop]; omega, by unfold maxLen; omega, ?_, by simp⟩
   have := (h3.drop (k + 2)).take sz.toNat
   rwa [← List.map_drop, ← List.map_take] at this)
  have hval0 : Hid (sz.toNat = 0 → ∀ W, IsBytes W (.slice (some ⟨bg, bo, .none⟩) 0 0) ((b.drop (k + 2)).take sz.toNat)) := hide (fun h0 W => by
   rw [h0, List.take_zero]
   exact ⟨_, _, rfl, Nat.le_refl _, Nat.zero_le _, Lay.nil _ _, by simp⟩)
  have hvl : ((b.drop (k + 2)).take sz.toNat).length ≤ 255 := by rw [List.length_take]; omega
  generalize hvv : (b.drop (k + 2)).take sz.toNat = val at *
  refine wp_region_tail 17 [isV (lvOf Hw'), isV (.slice (some ⟨bg, bo, .none⟩) b.length c), isV (.int .i64 (k : Int)), isV (.pointer (some ⟨bg, bo + k, .none⟩)), isV (vb tag),
   (fun v w => ∃ a0, v = .slice a0 0 0 ∧ (ownT v [] * all W0).on w), isV (.slice (some ⟨bg, bo, .none⟩) b.length c), isV (.int .i64 (k : Int)), isV (.int .i64 ((k : Int) + 2)), isV (.int .i64 (k : Int)), isV (.int .i64 ((k : Int) + 2)), isV (.int .i64 (sz.toNat : Int)), isV (.int .i64 ((k : Int) + 2 + (sz.toNat : Int))),
   (fun v w => IsBytes w v val), (fun v w => (ownT v val * all W0).on w), (fun v w => ∃ x, v = .agg #[vb tag, x] ∧ (ownT x val * all W0).on w),
   (fun v w => ∃ g x, v = .slice (some ⟨g, 0, .none⟩) 1 1 ∧ (blk g (.cells #[vb tag, x] 139 (0, 0)) * (ownT x val * all W0)).on w)]
   (by simp only [List.take_succ_cons, List.take_zero]; rfl) (by simp only [List.drop_succ_cons, List.drop_zero]; rfl) (by kernel_rfl) (by kernel_rfl) (by kernel_rfl) (by decide) rfl ?keep ?todo ?rest
  case keep =>
   exact ⟨Keep.isV _, Keep.isV _, Keep.isV _, Keep.isV _, Keep.isV _, fun _ _ _ ⟨a0, h1, h2⟩ k => ⟨a0, h1, SP.on.below h2 k⟩, Keep.isV _, Keep.isV _, Keep.isV _, Keep.isV _, Keep.isV _, Keep.isV _, Keep.isV _, fun _ _ _ h k => IsBytes.below h k, fun _ _ _ h k => SP.on.below h k, fun _ _ _ ⟨x, h1, h2⟩ k => ⟨x, h1, SP.on.below h2 k⟩, fun _ _ _ ⟨g, x, h1, h2⟩ k => ⟨g, x, h1, SP.on.below h2 k⟩, trivial⟩
  case todo =>
   refine ⟨?_, ?_, ?_, ?_, ?_, ?_, ?_, ?_, ?_, ?_, ?_, ?_, ?_, ?_, ?_, ?_, ?_, trivial⟩
   ·exact fun ev W hT hb hk hf => OpOk.move rfl hk.1 ⟨rfl, Stay.refl _⟩
   ·exact fun ev W hT hb hk hf => OpOk.move rfl hk.1 ⟨rfl, Stay.refl _⟩
   ·exact fun ev W hT hb hk hf => OpOk.move rfl hk.1 ⟨rfl, Stay.refl _⟩
   ·intro ev W hT hb hk hf
    exact OpOk.run (v := .pointer (some ⟨bg, bo + k, .none⟩)) (W' := W) (by simp [execOp, fX ev 61 hf.1, fX ev 62 hf.2.1, hk1, go_sem]) ⟨rfl, Stay.refl _⟩
   ·intro ev W hT hb hk hf
    have cW := (hT.cell (p := ⟨bg, bo + k, .none⟩) (World.block_lt_of_cell? W0 _ c0')).trans c0'
    exact OpOk.run (v := vb tag) (W' := W) (by simp [execOp, fX ev 63 hf.1, cW, go_sem]) ⟨rfl, Stay.refl _⟩
   ·intro ev W hT hb hk hf
    exact OpOk.run (v := .slice (some ⟨W.heap.size, 0, .none⟩) 0 0) (W' := W.alloc (.cells #[] 5)) (by simp [execOp, go_sem]) ⟨⟨_, rfl, own_new 5 1 0 [] ((on_all W0).below hT) rfl (by decide)⟩, (Below.refl _ _).alloc (Nat.le_refl _) _⟩
   ·exact fun ev W hT hb hk hf => OpOk.move rfl hk.1 ⟨rfl, Stay.refl _⟩
   ·exact fun ev W hT hb hk hf => OpOk.move rfl hk.1 ⟨rfl, Stay.refl _⟩
   ·intro ev W hT hb hk hf
    exact OpOk.run (v := .int .i64 ((k : Int) + 2)) (W' := W) (by simp [execOp, fX ev 67 hf.1, hb.1, a1, go_sem]) ⟨rfl, Stay.refl _⟩
   ·exact fun ev W hT hb hk hf => OpOk.move rfl hk.1 ⟨rfl, Stay.refl _⟩
   ·intro ev W hT hb hk hf
    exact OpOk.run (v := .int .i64 ((k : Int) + 2)) (W' := W) (by simp [execOp, fX ev 69 hf.1, hb.1, a1, go_sem]) ⟨rfl, Stay.refl _⟩
   ·exact fun ev W hT hb hk hf => OpOk.move rfl hk.1 ⟨rfl, Stay.refl _⟩
   ·intro ev W hT hb hk hf
    exact OpOk.run (v := .int .i64 ((k : Int) + 2 + (sz.toNat : Int))) (W' := W) (by simp [execOp, fX ev 70 hf.1, fX ev 71 hf.2.1, a2, go_sem]) ⟨rfl, Stay.refl _⟩
   ·intro ev W hT hb hk hf
    have e0 := fX ev 66 hf.1
    have e1 := fX ev 68 hf.2.1
    have e2 := fX ev 72 hf.2.2.1
    have f1 : (0 : Int) ≤ (k : Int) + 2 + (sz.toNat : Int) := by omega
    have f2 : (k : Int) + 2 ≤ (k : Int) + 2 + (sz.toNat : Int) := by omega
    have f3 : ((k : Int) + 2 + (sz.toNat : Int)).toNat = k + 2 + sz.toNat := by omega
    have f4 : ((k : Int) + 2).toNat = k + 2 := by omega
    have f5 : (k : Int) + 2 + (sz.toNat : Int) ≤ (c : Int) := by omega
    have f6 : (0 : Int) ≤ (k : Int) + 2 := by omega
    by_cases hz0 : c = k + 2
    ·have hs0 : sz.toNat = 0 := by omega
     refine OpOk.run (v := .slice (some ⟨bg, bo, .none⟩) 0 0) (W' := W) ?_ ⟨hval0.out hs0 W, Stay.refl _⟩
     simp [execOp, e0, e1, e2, f4, f6, hz0, hs0, go_sem]
    refine OpOk.run (v := .slice (some ⟨bg, bo + (k + 2), .none⟩) sz.toNat (c - (k + 2))) (W' := W) ?_ ⟨hval.out W hT, Stay.refl _⟩
    simp [execOp, e0, e1, e2, f2, f3, f4, f5, f6, hz0, go_sem]
   ·intro ev W hT hb hk hf
    obtain ⟨a0, e0, e1⟩ : ∃ a0, ev (.tmp 65) = .slice a0 0 0 ∧ (ownT (ev (.tmp 65)) [] * all W0).on W := hf.1
    have e2 : IsBytes W (ev (.tmp 73)) val := hf.2.1
    rw [e0] at e1
    obtain ⟨v', w', r1, r2, r3⟩ := run_append_fresh (P := Tryz.prog) 35 35 5 hu8 infoT a0 e1 _ val e2 (by omega)
    exact OpOk.append rfl e0 rfl r1 ⟨r2, r3⟩
   ·intro ev W hT hb hk hf
    have e0 := fX ev 64 hf.1
    have e1 : (ownT (ev (.tmp 74)) val * all W0).on W := hf.2.1
    have e2 := own_value e1
    obtain ⟨xa, xc, e2, _, _, _, _⟩ := e2
    rw [e2] at e1
    exact OpOk.run (v := .agg #[vb tag, .slice xa val.length xc]) (W' := W) (by simp [execOp, e0, e2, go_sem]) ⟨⟨_, rfl, e1⟩, Stay.refl _⟩
   intro ev W hT hb hk hf
   obtain ⟨x, e0, e1⟩ : ∃ x, ev (.tmp 75) = .agg #[vb tag, x] ∧ (ownT x val * all W0).on W := hf.1
   obtain ⟨xa, xc, rfl, _, _, _, _⟩ := own_value e1
   exact OpOk.run (v := .slice (some ⟨W.heap.size, 0, .none⟩) 1 1) (W' := W.alloc (.cells #[vb tag, .slice xa val.length xc] 139)) (by simp [execOp, e0, go_sem]) ⟨⟨_, _, rfl, e1.alloc _⟩, (Below.refl _ _).alloc (Nat.le_refl _) _⟩
  case rest =>
   intro W hT
   rintro _ rfl _ rfl _ rfl _ rfl _ rfl v65 - _ rfl _ rfl _ rfl _ rfl _ rfl _ rfl _ rfl v73 - v74 - v75 - _ ⟨g, x, rfl, hx⟩
   have h1 := on_all_to2 hx Hw'.out
   obtain ⟨xa, xc, rfl, _, _, _, _⟩ := own_value hx.right
   have h2 : (own 139 2 (lvOf Hw') L.length (itCells L) * (blk g (.cells #[vb tag, .slice xa val.length xc] 139 (0, 0)) * (itStars L * (ownT (.slice xa val.length xc) val * all w)))).on W := by
    unfold Its at h1
    have e : (blk g (.cells #[vb tag, .slice xa val.length xc] 139 (0, 0)) * (ownT (.slice xa val.length xc) val * ((own 139 2 (lvOf Hw') L.length (itCells L) * itStars L) * all w))) = (own 139 2 (lvOf Hw') L.length (itCells L) * (blk g (.cells #[vb tag, .slice xa val.length xc] 139 (0, 0)) * (itStars L * (ownT (.slice xa val.length xc) val * all w)))) := by ac_rfl
    rw [← e]
    exact h1
   have hlay : Lay W (some ⟨g, 0, .none⟩) [vb tag, .slice xa val.length xc] := fun i u hu => ⟨_, _, rfl, by
    rw [Nat.zero_add, cell_of_row _ _ _ _ _ _ (on_blk_mul hx)]
    simpa using hu⟩
   have H2 := hide h2
   have Hlay2 := hide hlay
   have HsT := hide (Str.below hT)
   clear h1 h2 hx hlay hT hval hval0
   go_wp2
   refine Rest.done ?_
   go_wp2_with (at_builtin; refine wpList_append_sp (F := blk g (.cells #[vb tag, .slice xa val.length xc] 139 (0, 0)) * (itStars L * (ownT (.slice xa val.length xc) val * all w))) rfl _ _ 104 rfl 139 ie _ 2 32 hue Hie.out Hz.out Hsz.out Hby.out rfl (by decide) _ L.length (itCells L) rfl H2.out (some ⟨g, 0, .none⟩) 1 1 [vb tag, .slice xa val.length xc] rfl (by simp) rfl Hlay2.out (by intro u hu; simp at hu; rcases hu with rfl | rfl <;> rfl) (by unfold maxLen; omega) (by omega) ?_; intro v3 w3 ho3 hs3)
   have ho4 := ho3
   rw [SP.mul_left_comm] at ho4
   have HN := Its.push (it := ⟨tag, val⟩) ho4.right
   have HS3 := (Hs'.out.trans HsT.out).trans hs3
   refine ⟨⟨k + (2 + sz.toNat), L ++ [(.slice xa val.length xc, ⟨tag, val⟩)], f, by simp, by omega, by omega, ?_, by simp; omega, HN, HS3⟩, by simp [intOf]; omega⟩
   rw [List.map_append, ← Nat.add_assoc, ← List.drop_drop]
   have := Hp2.out
   simp only [List.map_cons, List.map_nil, lastTag_snoc]
   exact this
end Go.Proofs.YtjdebgbiockafaaGreatDoor
namespace Go.Proofs.YtjdebgbiockafaaGreatDoor
theorem parseF_inv : ∀ (f : Nat) (b : List UInt8) (last : UInt8) (acc items : List TItem), parseF f b last acc = (items, 0) →
  ∃ new, items = acc ++ new ∧ (∀ (ab : List UInt8), encodeF acc.length last new ab = (ab ++ b, 0)) ∧ (∀ x ∈ new, last.toNat < x.tag.toNat ∧ x.value.length ≤ 200) ∧ new.Pairwise (fun x y => x.tag.toNat < y.tag.toNat) := by
 intro f
 induction f with
 | zero =>
  intro b last acc items h
  match b, h with
  | [], h => simp only [parseF, Prod.mk.injEq] at h; exact ⟨[], by simp [h.1], by simp [encodeF], by simp, by simp⟩
  | [_], h => simp [parseF] at h
  | _ :: _ :: _, h => simp [parseF] at h
 | succ f ih =>
  intro b last acc items h
  match b, h with
  | [], h => simp only [parseF, Prod.mk.injEq] at h; exact ⟨[], by simp [h.1], by simp [encodeF], by simp, by simp⟩
  | [_], h => simp [parseF] at h
  | tag :: sz :: rest, h =>
   by_cases hf : fitsN tag last sz.toNat acc.length = 0
   ·by_cases hr : rest.length < sz.toNat
    ·rw [parseF_cut hf hr] at h; simp at h
    rw [parseF_step hf (by omega)] at h
    obtain ⟨new, h1, h2, h3, h4⟩ := ih _ _ _ _ h
    obtain ⟨g1, g2, g3⟩ := fitsN_zero hf
    have hl : (rest.take sz.toNat).length = sz.toNat := by rw [List.length_take]; omega
    refine ⟨⟨tag, rest.take sz.toNat⟩ :: new, by rw [h1]; simp, ?_, ?_, ?_⟩
    ·intro ab
     rw [encodeF_good (by simp only [hl]; exact hf)]
     have := h2 (ab ++ tag :: UInt8.ofNat (rest.take sz.toNat).length :: rest.take sz.toNat)
     rw [List.length_append] at this
     simp only [List.length_cons, List.length_nil, Nat.zero_add] at this
     simp only at this ⊢
     rw [this, hl]
     simp
    ·intro x hx
     simp only [List.mem_cons] at hx
     rcases hx with rfl | hx
     ·exact ⟨g1, by simp only [hl]; omega⟩
     have := h3 x hx
     exact ⟨by omega, this.2⟩
    rw [List.pairwise_cons]
    exact ⟨fun x hx => (h3 x hx).1, h4⟩
   have := parseF_bad (f := f) (rest := rest) (sz := sz) (acc := acc) (last := last) (tag := tag) rfl hf
   rw [this] at h
   simp at h
   exact (hf h.2).elim
theorem parse_encode {b : List UInt8} {items : List TItem} (h : parseF b.length b 0 [] = (items, 0)) : encodeF 0 0 items [] = (b, 0) := by
 obtain ⟨new, h1, h2, _, _⟩ := parseF_inv _ _ _ _ _ h
 rw [List.nil_append] at h1
 subst h1
 have := h2 []
 simpa using this
theorem parse_short {b : List UInt8} {R : List TItem × Nat} (h : parseF b.length b 0 [] = R) : (∀ x ∈ R.1, x.value.length ≤ 200) ∧ R.1.Pairwise (fun x y => x.tag.toNat < y.tag.toNat) := by
 have herr : ∀ (f : Nat) (b : List UInt8) (last : UInt8) (acc : List TItem), (parseF f b last acc).2 ≠ 0 → (parseF f b last acc).1 = [] := by
  intro f
  induction f with
  | zero => intro b last acc h; match b, h with
   | [], h => simp [parseF] at h
   | [_], h => rfl
   | _ :: _ :: _, h => rfl
  | succ f ih => intro b last acc h; match b, h with
   | [], h => simp [parseF] at h
   | [_], h => rfl
   | tag :: sz :: rest, h =>
    by_cases hf : fitsN tag last sz.toNat acc.length = 0
    ·by_cases hr : rest.length < sz.toNat
     ·rw [parseF_cut hf hr]
     rw [parseF_step hf (by omega)] at h ⊢; exact ih _ _ _ h
    rw [parseF_bad rfl hf]
 by_cases h0 : R.2 = 0
 ·obtain ⟨items, z⟩ := R
  simp only at h0
  subst h0
  obtain ⟨new, h1, _, h3, h4⟩ := parseF_inv _ _ _ _ _ h
  rw [List.nil_append] at h1
  subst h1
  exact ⟨fun x hx => (h3 x hx).2, h4⟩
 have := herr b.length b 0 [] (by rw [h]; exact h0)
 rw [h] at this
 rw [this]
 simp
theorem parse_count : ∀ (f : Nat) (b : List UInt8) (last : UInt8) (acc : List TItem), (parseF f b last acc).1.length ≤ acc.length + b.length := by
 intro f
 induction f with
 | zero => intro b last acc; match b with
  | [] => simp [parseF]
  | [_] => simp [parseF]
  | _ :: _ :: _ => simp [parseF]
 | succ f ih => intro b last acc; match b with
  | [] => simp [parseF]
  | [_] => simp [parseF]
  | tag :: sz :: rest =>
   by_cases hf : fitsN tag last sz.toNat acc.length = 0
   ·by_cases hr : rest.length < sz.toNat
    ·rw [parseF_cut hf hr]; simp
    rw [parseF_step hf (by omega)]
    have := ih (rest.drop sz.toNat) tag (acc ++ [⟨tag, rest.take sz.toNat⟩])
    simp only [List.length_append, List.length_cons, List.length_nil, List.length_drop] at this ⊢
    omega
   rw [parseF_bad rfl hf]; simp
theorem encodeF_inv : ∀ (items : List TItem) (i : Nat) (last : UInt8) (acc bytes : List UInt8), encodeF i last items acc = (bytes, 0) →
  ∃ tail, bytes = acc ++ tail ∧ ∀ (f : Nat) (ai : List TItem), ai.length = i → tail.length ≤ f → parseF f tail last ai = (ai ++ items, 0) := by
 intro items
 induction items with
 | nil =>
  intro i last acc bytes h
  simp only [encodeF, Prod.mk.injEq] at h
  refine ⟨[], by simp [h.1], fun f ai _ _ => ?_⟩
  cases f <;> simp [parseF]
 | cons x t ih =>
  intro i last acc bytes h
  by_cases hf : fitsN x.tag last x.value.length i = 0
  ·rw [encodeF_good hf] at h
   obtain ⟨tail, h1, h2⟩ := ih _ _ _ _ h
   obtain ⟨g1, g2, g3⟩ := fitsN_zero hf
   refine ⟨x.tag :: UInt8.ofNat x.value.length :: (x.value ++ tail), by rw [h1]; simp, fun f ai ha hl => ?_⟩
   have h8 : (UInt8.ofNat x.value.length).toNat = x.value.length := by simp; omega
   cases f with
   | zero => simp at hl
   | succ f =>
    rw [parseF_step (by rw [h8, ha]; exact hf) (by rw [h8]; simp), h8]
    rw [List.drop_append_of_le_length (Nat.le_refl _), List.drop_length, List.nil_append, List.take_append_of_le_length (Nat.le_refl _), List.take_length]
    have := h2 f (ai ++ [⟨x.tag, x.value⟩]) (by simp [ha]) (by simp at hl; omega)
    rw [this]
    simp
  rw [encodeF_bad hf] at h
  simp at h
  exact (hf h.2).elim
theorem encode_parse {items : List TItem} {bytes : List UInt8} (h : encodeF 0 0 items [] = (bytes, 0)) : parseF bytes.length bytes 0 [] = (items, 0) := by
 obtain ⟨tail, h1, h2⟩ := encodeF_inv _ _ _ _ _ h
 rw [List.nil_append] at h1
 subst h1
 have := h2 bytes.length [] rfl (Nat.le_refl _)
 simpa using this
end Go.Proofs.YtjdebgbiockafaaGreatDoor
