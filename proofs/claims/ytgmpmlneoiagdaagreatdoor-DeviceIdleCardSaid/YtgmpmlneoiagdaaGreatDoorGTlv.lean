/- LAID TOGETHER: Tlv3, Tlv2, Tlv4, Tlv5, TlvMath, TlvMath2. -/
import Derived.Test.YtgmpmlneoiagdaaGreatDoorGBase
import Derived.Deep.QuietTactic
import Derived.BigQuiet
/- tlv.Encode and tlv.Find: items as bytes, and the first of a tag. -/
namespace Go.Proofs.YtgmpmlneoiagdaaGreatDoor
open Go.ChangeShapes Go.WideShapes Go.ChangeAt Go.RowKit
set_option linter.unusedVariables false

/-- items that are read -/
def IsItems (w : World) (v : Value) (L : List (Value × TItem)) : Prop := ∃ a c, v = .slice a L.length c ∧ L.length ≤ c ∧ c ≤ maxLen ∧ Lay w a (itCells L) ∧ ∀ (i : Nat) (u : Value) (e : TItem), L[i]? = some (u, e) → IsBytes w u e.value
theorem IsItems.below {w w' : World} {v : Value} {L : List (Value × TItem)} (h : IsItems w v L) (hb : Below w.heap.size w w') : IsItems w' v L := by
  obtain ⟨a, c, h1, h2, h3, h4, h5⟩ := h
  exact ⟨a, c, h1, h2, h3, h4.below hb, fun i u e he => (h5 i u e he).below hb⟩
theorem Its.lay {F : SP} {w : World} {ty : TypeId} {v : Value} {L : List (Value × TItem)} (h : (Its ty v L * F).on w) : IsItems w v L := by
  unfold Its at h
  rw [SP.mul_assoc] at h
  obtain ⟨a, c, h1, h2, h3, h4, _⟩ := own_value h
  exact ⟨a, c, h1, h2, h3, h4, fun i u e he => itStars_get L i u e h.right he⟩
/-- items as bytes: behind so many items, the last of which has the tag last -/
def encodeF : Nat → UInt8 → List TItem → List UInt8 → List UInt8 × Nat
  | _, _, [], acc => (acc, 0)
  | i, last, x :: t, acc => if fitsN x.tag last x.value.length i ≠ 0 then ([], fitsN x.tag last x.value.length i)
    else encodeF (i + 1) x.tag t (acc ++ x.tag :: UInt8.ofNat x.value.length :: x.value)
theorem encodeF_bad {i : Nat} {last : UInt8} {x : TItem} {t : List TItem} {acc : List UInt8} (h : fitsN x.tag last x.value.length i ≠ 0) : encodeF i last (x :: t) acc = ([], fitsN x.tag last x.value.length i) := by
  simp only [encodeF]; rw [if_pos h]
theorem encodeF_good {i : Nat} {last : UInt8} {x : TItem} {t : List TItem} {acc : List UInt8} (h : fitsN x.tag last x.value.length i = 0) : encodeF i last (x :: t) acc = encodeF (i + 1) x.tag t (acc ++ x.tag :: UInt8.ofNat x.value.length :: x.value) := by
  simp only [encodeF]; rw [if_neg (by simp [h])]

def findF (tag : UInt8) : List TItem → Option TItem
  | [] => Option.none
  | x :: t => if x.tag = tag then some x else findF tag t
/-- what Find answers -/
def findR (tag : UInt8) (L : List TItem) : List UInt8 × Bool := match findF tag L with
  | some x => (x.value, true)
  | Option.none => ([], false)

set_option maxRecDepth 100000 in
set_option maxHeartbeats 4000000 in
theorem tfind_any (v : Value) (L : List (Value × TItem)) (tag : UInt8) (w : World) (h : IsItems w v L) (hlen : L.length ≤ 1000000) (hvl : ∀ (i : Nat) (u : Value) (e : TItem), L[i]? = some (u, e) → e.value.length ≤ 1000000) :
    Calls Tryz.prog 124 #[v, vb tag] w fun e w' => ∃ out, e = .returned (.tuple #[out, .bool (findR tag (L.map Prod.snd)).2]) ∧ (ownT out (findR tag (L.map Prod.snd)).1 * all w).on w' ∧ Str w w' := by
  obtain ⟨a, c, rfl, hc, hmx, hla, hin⟩ := h
  unfold maxLen at hmx
  have Hla := hide hla
  have Hin := hide hin
  have Hvl := hide hvl
  clear hla hin hvl
  generalize hR : findR tag (L.map Prod.snd) = R
  have HR := hide hR
  clear hR
  go_enter Tryz.func124, Tryz.ntmps124
  go_wp2_with fail
  go_loopw [10] (fun i wr => ∃ (k : Nat), k ≤ L.length ∧ i = .int .i64 k ∧ findR tag ((L.map Prod.snd).drop k) = R ∧ Below w.heap.size w wr) (fun i _ => L.length - (intOf i).toNat)
  case atStart => exact ⟨0, by omega, rfl, by simpa using HR.out, Below.refl _ _⟩
  case round =>
    obtain ⟨k, hk, rfl, he, hB⟩ := hrel
    by_cases hkl : k < L.length
    · obtain ⟨⟨u, x⟩, hku⟩ : ∃ y, L[k]? = some y := ⟨_, List.getElem?_eq_getElem hkl⟩
      have hdrop : (L.map Prod.snd).drop k = x :: (L.map Prod.snd).drop (k + 1) := by
        rw [List.drop_eq_getElem_cons (by simpa using hkl)]
        congr 1
        rw [List.getElem_map, (List.getElem?_eq_some_iff.1 hku).2]
      rw [hdrop] at he
      obtain ⟨p1, p2⟩ := itCells_get L k u x hku
      obtain ⟨bg, bo, rfl⟩ : ∃ b off, a = some ⟨b, off, Option.none⟩ := by obtain ⟨b, off, e, _⟩ := Hla.out _ _ p1; exact ⟨b, off, e⟩
      have q1 := Lay.cell (Hla.out.below hB) _ p1
      have q2 := Lay.cell (Hla.out.below hB) _ p2
      have hbx := (Hin.out _ _ _ hku).below hB
      have hxl := Hvl.out _ _ _ hku
      obtain ⟨tg, val⟩ := x
      simp only at *
      have hbx2 := hbx
      obtain ⟨xa, xc, rfl, hxc, hxm, _, _⟩ := hbx2
      unfold maxLen at hxm
      have He := hide he
      have HB := hide hB
      have Hbx := hide hbx
      clear he hbx hB hku hdrop p1 p2
      have eoff : bo + k * 2 + 1 = bo + (k * 2 + 1) := by omega
      by_cases htg : tg = tag
      · subst htg
        have HE : Hid ((val, true) = R) := hide (by rw [← He.out]; simp [findR, findF])
        have HC := hide (copied_any _ val _ (Hbx.out.below ((Below.refl wr.heap.size wr).alloc (Nat.le_refl _) (.cells #[vb tg, .slice xa val.length xc] 195))) (by omega))
        go_wp2_with fail
        refine HC.out.mono ?_
        rintro e w1 ⟨v1, rfl, ho1, hs1⟩
        have HO : Hid ((ownT v1 val * all w).on w1) := hide (on_all_to ho1 ((on_all w).below (HB.out.trans ((Below.refl _ _).alloc HB.out.size _))))
        have HS := hide ((Str.below (HB.out.trans ((Below.refl _ _).alloc HB.out.size _))).trans hs1)
        clear ho1 hs1
        go_wp2_with fail
        go_ret2
        exact ⟨_, by rw [← HE.out]; rfl, by rw [← HE.out]; exact HO.out, HS.out⟩
      · have e1 : (((tg.toNat : Nat) : Int) == ((tag.toNat : Nat) : Int)) = false := by
          rw [beq_eq_false_iff_ne]
          intro e
          exact htg (UInt8.toNat_inj.1 (by omega))
        have HE : Hid (findR tag ((L.map Prod.snd).drop (k + 1)) = R) := hide (by rw [← He.out]; simp [findR, findF, htg])
        clear htg
        go_wp2_with fail
        exact ⟨⟨k + 1, by omega, by simp, HE.out, HB.out.trans ((Below.refl _ _).alloc HB.out.size _)⟩, by simp [intOf]; omega⟩
    · have hkb : k = L.length := by omega
      subst hkb
      rw [List.drop_of_length_le (by simp)] at he
      have HE : Hid (([], false) = R) := hide (by rw [← he]; rfl)
      have HB := hide hB
      clear he hB
      go_wp2_with fail
      go_ret2
      exact ⟨_, by rw [← HE.out]; rfl, by rw [← HE.out]; exact own_nil _ 1 ((on_all w).below HB.out), Str.below HB.out⟩
end Go.Proofs.YtgmpmlneoiagdaaGreatDoor

/- tlv.Parse: the items of bytes. -/
namespace Go.Proofs.YtgmpmlneoiagdaaGreatDoor
open Go.ChangeShapes Go.WideShapes Go.ChangeAt Go.RowKit
set_option linter.unusedVariables false

theorem infoItem : (Tryz.prog.info? 195).map (fun i => (i.zero, i.size, i.bytes)) = some (some (.agg #[.int .u8 0, .slice Option.none 0 0]), 2, 32) := by kernel_rfl
def sliceLen : Value → Nat
  | .slice _ n _ => n
  | _ => 0
/-- the rest of bytes, as a slice -/
theorem IsBytes.from {w : World} {g off n c : Nat} {l : List UInt8} (h : IsBytes w (.slice (some ⟨g, off, Option.none⟩) n c) l) (k : Nat) (hk : k ≤ l.length) : IsBytes w (.slice (some ⟨g, off + k, Option.none⟩) (n - k) (c - k)) (l.drop k) := by
  obtain ⟨ad, c', e, h1, h2, h3, _⟩ := h
  simp only [Value.slice.injEq] at e
  obtain ⟨rfl, rfl, rfl⟩ := e
  refine ⟨_, _, by rw [List.length_drop], by rw [List.length_drop]; omega, by omega, ?_, by simp⟩
  have := h3.drop k
  rwa [← List.map_drop] at this
theorem parseF_step {f : Nat} {tag sz last : UInt8} {rest : List UInt8} {acc : List TItem} (hf : fitsN tag last sz.toNat acc.length = 0) (hr : sz.toNat ≤ rest.length) :
    parseF (f + 1) (tag :: sz :: rest) last acc = parseF f (rest.drop sz.toNat) tag (acc ++ [⟨tag, rest.take sz.toNat⟩]) := by
  simp only [parseF]
  rw [if_neg (by simp [hf]), if_neg (by omega)]
theorem fitsN_zero {tag last : UInt8} {a b : Nat} (h : fitsN tag last a b = 0) : last.toNat < tag.toNat ∧ a ≤ 200 ∧ b < 16 := by
  unfold fitsN at h
  split at h
  · cases h
  · split at h
    · cases h
    · omega

set_option maxRecDepth 100000 in
set_option maxHeartbeats 4000000 in
theorem tparse_any (v : Value) (b : List UInt8) (w : World) (h : IsBytes w v b) (hlen : b.length ≤ 1000000) :
    Calls Tryz.prog 109 #[v] w fun e w' => ∃ out L, e = .returned (.tuple #[out, .int .i64 ((parseF b.length b 0 []).2 : Nat)]) ∧ L.map Prod.snd = (parseF b.length b 0 []).1 ∧ (Its 195 out L * all w).on w' ∧ Str w w' := by
  have H := hide h
  obtain ⟨a, c, rfl, hc, hmx, _, _⟩ := h
  obtain ⟨ie, hie, hz, hsz, hby⟩ := info_some infoItem
  have hue := Tryz.underlying177
  have Hie := hide hie
  have Hz := hide hz
  have Hsz := hide hsz
  have Hby := hide hby
  clear hie hz hsz hby
  unfold maxLen at hmx
  generalize hR : parseF b.length b 0 [] = R
  have HR := hide hR
  clear hR
  go_enter Tryz.func109, Tryz.ntmps109
  go_wp2_with fail
  go_loopw [0, 4, 5] (fun bv lv la wr => ∃ (rest : List UInt8) (L : List (Value × TItem)) (last : UInt8) (f : Nat), IsBytes w bv rest ∧ la = vb last ∧ rest.length ≤ f ∧ rest.length ≤ 1000000 ∧ parseF f rest last (L.map Prod.snd) = R ∧ L.length ≤ 16 ∧ (Its 195 lv L * all w).on wr ∧ Str w wr) (fun bv _ _ _ => sliceLen bv)
  case atStart => exact ⟨b, [], 0, b.length, H.out, rfl, Nat.le_refl _, hlen, HR.out, by simp, Its.nil (on_all w), Str.refl _⟩
  case round =>
    obtain ⟨rest, L, last, f, hb, rfl, hf, hrl, hp, hL, hw, hstr⟩ := hrel
    have hb2 := hb.below (all_below hw.right hstr)
    have hw2 := hw
    unfold Its at hw2
    rw [SP.mul_assoc] at hw2
    obtain ⟨la, lc, rfl, hlc1, hlc2, _, _⟩ := own_value hw2
    obtain ⟨ba, bc, rfl, hbc1, hbc2, hbl, _⟩ := hb2
    unfold maxLen at hlc2 hbc2
    have Hw := hide hw
    have Hstr := hide hstr
    have Hb := hide hb
    have Hp := hide hp
    clear hw hw2 hstr hb hp
    match rest, hf, hrl, hbc1, hbl, Hb, Hp with
    | [], hf, hrl, hbc1, hbl, Hb, Hp =>
      clear hbl
      have HE : Hid ((L.map Prod.snd, 0) = R) := hide (by rw [← Hp.out]; cases f <;> rfl)
      go_wp2_with fail
      go_ret2
      exact ⟨_, L, by rw [← HE.out]; rfl, by rw [← HE.out], Hw.out, Hstr.out⟩
    | [x], hf, hrl, hbc1, hbl, Hb, Hp =>
      clear hbl
      have HE : Hid (([], 18) = R) := hide (by rw [← Hp.out]; cases f <;> rfl)
      simp only [List.length_cons, List.length_nil] at *
      go_wp2_with fail
      go_ret2
      exact ⟨_, [], by rw [← HE.out]; rfl, by rw [← HE.out]; rfl, Its.nil Hw.out.right, Hstr.out⟩
    | tag :: sz :: rest, hf, hrl, hbc1, hbl, Hb, Hp =>
      obtain ⟨bg, bo, rfl⟩ := Lay.isAddr hbl 0 (by simp)
      have c0 := Lay.cell hbl 0 (v := vb tag) rfl
      have c1 := Lay.cell hbl 1 (v := vb sz) rfl
      rw [Nat.add_zero] at c0
      clear hbl
      simp only [List.length_cons] at *
      have hsz : sz.toNat < 256 := UInt8.toNat_lt sz
      by_cases hfit : fitsN tag last sz.toNat L.length = 0
      · have HF := hide (fits_any tag last sz.toNat L.length wr)
        rw [hfit] at HF
        have hfz := fitsN_zero hfit
        obtain ⟨_, hfz2, hfz3⟩ := hfz
        have Hfit := hide hfit
        clear hfit
        by_cases hcut : rest.length < sz.toNat
        · have HE : Hid (([], 18) = R) := hide (by
            rw [← Hp.out]
            cases f with
            | zero => omega
            | succ f => simp only [parseF]; rw [if_neg (by simpa using Hfit.out), if_pos hcut])
          go_wp2_with fail
          refine HF.out.mono ?_
          rintro e w1 ⟨rfl, rfl⟩
          go_wp2_with fail
          go_ret2
          exact ⟨_, [], by rw [← HE.out]; rfl, by rw [← HE.out]; rfl, Its.nil Hw.out.right, Hstr.out⟩
        · have hcut2 : sz.toNat ≤ rest.length := by omega
          clear hcut
          cases f with
          | zero => omega
          | succ f =>
          have Hp2 := hide ((parseF_step (f := f) (last := last) (rest := rest) (by rw [List.length_map]; exact Hfit.out) hcut2).symm.trans Hp.out)
          go_wp2_with fail
          refine HF.out.mono ?_
          rintro e w1 ⟨rfl, rfl⟩
          go_wp2_with fail
          have hval : Hid (∀ W, Stay wr W → IsBytes W (.slice (some ⟨bg, bo + 2, Option.none⟩) sz.toNat sz.toNat) (rest.take sz.toNat)) := hide (fun W hT => by
            have h1 := ((Hb.out.below (all_below Hw.out.right Hstr.out)).below hT)
            obtain ⟨_, _, e, _, _, h3, _⟩ := h1
            simp only [Value.slice.injEq] at e
            obtain ⟨rfl, _, rfl⟩ := e
            refine ⟨_, _, by rw [List.length_take, Nat.min_eq_left hcut2], by rw [List.length_take]; omega, by unfold maxLen; omega, ?_, by simp⟩
            have := (h3.drop 2).take sz.toNat
            rwa [← List.map_drop, ← List.map_take] at this)
          have hval0 : Hid (sz.toNat = 0 → ∀ W, IsBytes W (.slice (some ⟨bg, bo, Option.none⟩) 0 0) (rest.take sz.toNat)) := hide (fun h0 W => by
            rw [h0, List.take_zero]
            exact ⟨_, _, rfl, Nat.le_refl _, Nat.zero_le _, Lay.nil _ _, by simp⟩)
          have hvl : (rest.take sz.toNat).length ≤ 255 := by rw [List.length_take]; omega
          generalize hvv : rest.take sz.toNat = val at *
          refine wp_region_tail 11 [isV (.slice la L.length lc), isV (.slice (some ⟨bg, bo, Option.none⟩) (rest.length + 1 + 1) bc), isV (.pointer (some ⟨bg, bo, Option.none⟩)), isV (vb tag), isV (.slice (some ⟨bg, bo, Option.none⟩) (rest.length + 1 + 1) bc), isV (.int .i64 (2 + (sz.toNat : Int))), isV (.int .i64 (2 + (sz.toNat : Int))),
            (fun v w => IsBytes w v val), (fun v w => (ownT v val * all wr).on w), (fun v w => ∃ x, v = .agg #[vb tag, x] ∧ (ownT x val * all wr).on w),
            (fun v w => ∃ g x, v = .slice (some ⟨g, 0, Option.none⟩) 1 1 ∧ (blk g (.cells #[vb tag, x] 195 (0, 0)) * (ownT x val * all wr)).on w)]
            (by simp only [List.take_succ_cons, List.take_zero]; rfl) (by simp only [List.drop_succ_cons, List.drop_zero]; rfl) (by kernel_rfl) (by kernel_rfl) (by kernel_rfl) (by decide) rfl ?keep ?todo ?rest
          case keep =>
            exact ⟨Keep.isV _, Keep.isV _, Keep.isV _, Keep.isV _, Keep.isV _, Keep.isV _, Keep.isV _, fun _ _ _ h k => IsBytes.below h k, fun _ _ _ h k => SP.on.below h k, fun _ _ _ ⟨x, h1, h2⟩ k => ⟨x, h1, SP.on.below h2 k⟩, fun _ _ _ ⟨g, x, h1, h2⟩ k => ⟨g, x, h1, SP.on.below h2 k⟩, trivial⟩
          case todo =>
            refine ⟨?_, ?_, ?_, ?_, ?_, ?_, ?_, ?_, ?_, ?_, ?_, trivial⟩
            · exact fun ev W hT hb hk hf => OpOk.move rfl hk.1 ⟨rfl, Stay.refl _⟩
            · exact fun ev W hT hb hk hf => OpOk.move rfl hk.1 ⟨rfl, Stay.refl _⟩
            · intro ev W hT hb hk hf
              have e0 : ev (.tmp 37) = .slice (some ⟨bg, bo, Option.none⟩) (rest.length + 1 + 1) bc := hf.1
              have hn : (0 : Int) < (rest.length : Int) + 1 + 1 := by omega
              exact OpOk.run (v := .pointer (some ⟨bg, bo, Option.none⟩)) (W' := W) (by simp [execOp, e0, hb.1, hn, go_sem]) ⟨rfl, Stay.refl _⟩
            · intro ev W hT hb hk hf
              have e0 : ev (.tmp 38) = .pointer (some ⟨bg, bo, Option.none⟩) := hf.1
              have cW := (hT.cell (p := ⟨bg, bo, Option.none⟩) (World.block_lt_of_cell? wr _ c0)).trans c0
              exact OpOk.run (v := vb tag) (W' := W) (by simp [execOp, e0, cW, go_sem]) ⟨rfl, Stay.refl _⟩
            · exact fun ev W hT hb hk hf => OpOk.move rfl hk.1 ⟨rfl, Stay.refl _⟩
            · exact fun ev W hT hb hk hf => OpOk.move rfl hk.1 ⟨rfl, Stay.refl _⟩
            · exact fun ev W hT hb hk hf => OpOk.move rfl hk.1 ⟨rfl, Stay.refl _⟩
            · intro ev W hT hb hk hf
              have e0 : ev (.tmp 40) = .slice (some ⟨bg, bo, Option.none⟩) (rest.length + 1 + 1) bc := hf.1
              have e1 : ev (.tmp 41) = .int .i64 (2 + (sz.toNat : Int)) := hf.2.1
              have e2 : ev (.tmp 42) = .int .i64 (2 + (sz.toNat : Int)) := hf.2.2.1
              have h1 : (0 : Int) ≤ 2 + (sz.toNat : Int) := by omega
              have h2 : (2 : Int) ≤ 2 + (sz.toNat : Int) := by omega
              have h3 : (2 + (sz.toNat : Int)).toNat = 2 + sz.toNat := by omega
              have h4 : 2 + sz.toNat ≤ bc := by omega
              by_cases hz0 : sz.toNat = 0
              · refine OpOk.run (v := .slice (some ⟨bg, bo, Option.none⟩) 0 0) (W' := W) ?_ ⟨hval0.out hz0 W, Stay.refl _⟩
                rw [hz0] at h4 e1 e2
                simp [execOp, e0, e1, e2, hb.1, go_sem]
                intro hx
                omega
              · refine OpOk.run (v := .slice (some ⟨bg, bo + 2, Option.none⟩) sz.toNat sz.toNat) (W' := W) ?_ ⟨hval.out W hT, Stay.refl _⟩
                simp [execOp, e0, e1, e2, hb.1, h1, h3, hz0, go_sem]
                rw [if_pos (by omega), if_pos (by omega)]
            · intro ev W hT hb hk hf
              have e0 : IsBytes W (ev (.tmp 43)) val := hf.1
              refine OpOk.enters (f := 123) (args := #[ev (.tmp 43)]) (W' := W) (by simp [execOp, resolve, invoke, hb.2.1, go_sem]) ?_
              refine (copied_any _ val W e0 (by omega)).mono ?_
              rintro e w' ⟨v', rfl, ho', hs'⟩
              exact ⟨_, rfl, on_all_to ho' ((on_all wr).below hT), all_below ho'.right hs'⟩
            · intro ev W hT hb hk hf
              have e0 : ev (.tmp 39) = vb tag := hf.1
              have e1 : (ownT (ev (.tmp 44)) val * all wr).on W := hf.2.1
              have e2 := own_value e1
              obtain ⟨xa, xc, e2, _, _, _, _⟩ := e2
              rw [e2] at e1
              exact OpOk.run (v := .agg #[vb tag, .slice xa val.length xc]) (W' := W) (by simp [execOp, e0, e2, go_sem]) ⟨⟨_, rfl, e1⟩, Stay.refl _⟩
            · intro ev W hT hb hk hf
              obtain ⟨x, e0, e1⟩ : ∃ x, ev (.tmp 45) = .agg #[vb tag, x] ∧ (ownT x val * all wr).on W := hf.1
              obtain ⟨xa, xc, rfl, _, _, _, _⟩ := own_value e1
              exact OpOk.run (v := .slice (some ⟨W.heap.size, 0, Option.none⟩) 1 1) (W' := W.alloc (.cells #[vb tag, .slice xa val.length xc] 195)) (by simp [execOp, e0, go_sem]) ⟨⟨_, _, rfl, e1.alloc _⟩, (Below.refl _ _).alloc (Nat.le_refl _) _⟩
          case rest =>
            intro W hT
            rintro _ rfl _ rfl _ rfl _ rfl _ rfl _ rfl _ rfl v43 - v44 - v45 - _ ⟨g, x, rfl, hx⟩
            have h1 := on_all_to2 hx Hw.out
            obtain ⟨xa, xc, rfl, _, _, _, _⟩ := own_value hx.right
            have h2 : (own 195 2 (.slice la L.length lc) L.length (itCells L) * (blk g (.cells #[vb tag, .slice xa val.length xc] 195 (0, 0)) * (itStars L * (ownT (.slice xa val.length xc) val * all w)))).on W := by
              unfold Its at h1
              have e : (blk g (.cells #[vb tag, .slice xa val.length xc] 195 (0, 0)) * (ownT (.slice xa val.length xc) val * ((own 195 2 (.slice la L.length lc) L.length (itCells L) * itStars L) * all w))) = (own 195 2 (.slice la L.length lc) L.length (itCells L) * (blk g (.cells #[vb tag, .slice xa val.length xc] 195 (0, 0)) * (itStars L * (ownT (.slice xa val.length xc) val * all w)))) := by ac_rfl
              rw [e] at h1
              exact h1
            have hlay : Lay W (some ⟨g, 0, Option.none⟩) [vb tag, .slice xa val.length xc] := fun i u hu => ⟨_, _, rfl, by
              rw [Nat.zero_add, cell_of_row _ _ _ _ _ _ (on_blk_mul hx)]
              simpa using hu⟩
            have H2 := hide h2
            have Hlay := hide hlay
            have HsT := hide (Str.below hT)
            clear h1 h2 hx hlay hT
            go_wp2
            refine Rest.done ?_
            go_wp2_with (at_builtin; refine wpList_append_sp (F := blk g (.cells #[vb tag, .slice xa val.length xc] 195 (0, 0)) * (itStars L * (ownT (.slice xa val.length xc) val * all w))) rfl _ _ 177 rfl 195 ie _ 2 32 hue Hie.out Hz.out Hsz.out Hby.out rfl (by decide) _ L.length (itCells L) rfl H2.out (some ⟨g, 0, Option.none⟩) 1 1 [vb tag, .slice xa val.length xc] rfl (by simp) rfl Hlay.out (by intro u hu; simp at hu; rcases hu with rfl | rfl <;> rfl) (by unfold maxLen; omega) (by omega) ?_; intro v3 w3 ho3 hs3)
            have ho4 := ho3
            rw [SP.mul_left_comm] at ho4
            have ho5 := ho4.right
            have HS3 := hide ((Hstr.out.trans HsT.out).trans hs3)
            have c3 : w3.cell? ⟨bg, bo, Option.none⟩ = some (vb tag) := by
              have h1 := Hb.out.below (all_below ho5.right.right.right HS3.out)
              obtain ⟨_, _, e, _, _, h3, _⟩ := h1
              simp only [Value.slice.injEq] at e
              obtain ⟨rfl, _, rfl⟩ := e
              have := Lay.cell h3 0 (v := vb tag) rfl
              rwa [Nat.add_zero] at this
            have HN := hide (Its.push (it := ⟨tag, val⟩) ho5)
            have hfrom := Hb.out.from (2 + sz.toNat) (by simp; omega)
            have edrop : (tag :: sz :: rest).drop (2 + sz.toNat) = rest.drop sz.toNat := by rw [Nat.add_comm, List.drop_succ_cons, List.drop_succ_cons]
            rw [edrop] at hfrom
            clear ho3 ho4 ho5 hs3 H2 Hlay HsT edrop c0 c1 hval hval0
            obtain ⟨oa, oc, rfl, _, _, _, _⟩ := own_value (by have := HN.out; unfold Its at this; rw [SP.mul_assoc] at this; exact this)
            have HF3 := hide hfrom
            have HP3 := hide (show parseF f (rest.drop sz.toNat) tag ((L ++ [(Value.slice xa val.length xc, (⟨tag, val⟩ : TItem))]).map Prod.snd) = R by rw [List.map_append]; exact Hp2.out)
            have hrl2 : (rest.drop sz.toNat).length ≤ f ∧ (rest.drop sz.toNat).length ≤ 1000000 := by rw [List.length_drop]; omega
            obtain ⟨hrl2, hrl3⟩ := hrl2
            clear hfrom hvv
            by_cases hcap : bc = 2 + sz.toNat
            · subst hcap
              have hz3 : rest.length + 1 + 1 - (2 + sz.toNat) = 0 := by omega
              have HF4 : Hid (IsBytes w (.slice (some ⟨bg, bo, Option.none⟩) (rest.length + 1 + 1 - (2 + sz.toNat)) (2 + sz.toNat - (2 + sz.toNat))) (rest.drop sz.toNat)) := hide (by
                have := HF3.out
                have h0 : (rest.drop sz.toNat) = [] := List.drop_eq_nil_of_le (by omega)
                rw [h0]
                exact ⟨_, _, by rw [hz3]; rfl, Nat.zero_le _, by unfold maxLen; omega, Lay.nil _ _, by simp⟩)
              go_wp2_with fail
              go_region
              go_wp2_with fail
              exact ⟨⟨rest.drop sz.toNat, _, tag, f, HF4.out, rfl, hrl2, hrl3, HP3.out, by simp; omega, HN.out.drew, HS3.out.drew⟩, by simp only [sliceLen]; omega⟩
            · go_wp2_with fail
              go_region
              go_wp2_with fail
              exact ⟨⟨rest.drop sz.toNat, _, tag, f, HF3.out, rfl, hrl2, hrl3, HP3.out, by simp; omega, HN.out.drew, HS3.out.drew⟩, by simp only [sliceLen]; omega⟩
      · have HE : Hid (([], fitsN tag last sz.toNat L.length) = R) := hide (by
          rw [← Hp.out]
          cases f with
          | zero => omega
          | succ f => simp only [parseF]; rw [if_pos (by simpa using hfit)]; simp)
        have HF := hide (fits_any tag last sz.toNat L.length wr)
        generalize fitsN tag last sz.toNat L.length = z at *
        have hz1 : ((z : Int) != 0) = true := by simpa using hfit
        clear hfit
        go_wp2_with fail
        refine HF.out.mono ?_
        rintro e w1 ⟨rfl, rfl⟩
        go_wp2_with fail
        go_ret2
        exact ⟨_, [], by rw [← HE.out]; rfl, by rw [← HE.out]; rfl, Its.nil Hw.out.right, Hstr.out⟩
end Go.Proofs.YtgmpmlneoiagdaaGreatDoor

/- The document's answer for tlv: the items of bytes. -/
namespace Go.Proofs.YtgmpmlneoiagdaaGreatDoor
open Go.ChangeShapes Go.WideShapes Go.ChangeAt Go.RowKit
set_option linter.unusedVariables false

theorem parseF_bad {f : Nat} {tag sz last : UInt8} {rest : List UInt8} {acc : List TItem} {z : Nat} (hf : fitsN tag last sz.toNat acc.length = z) (hz : z ≠ 0) :
    parseF (f + 1) (tag :: sz :: rest) last acc = ([], z) := by
  simp only [parseF]; rw [if_pos (by omega), hf]
theorem parseF_cut {f : Nat} {tag sz last : UInt8} {rest : List UInt8} {acc : List TItem} (hf : fitsN tag last sz.toNat acc.length = 0) (hr : rest.length < sz.toNat) :
    parseF (f + 1) (tag :: sz :: rest) last acc = ([], 18) := by
  simp only [parseF]; rw [if_neg (by simp [hf]), if_pos hr]

end Go.Proofs.YtgmpmlneoiagdaaGreatDoor

/- The document's answer for tlv: items as bytes; and whether items are the same. -/
namespace Go.Proofs.YtgmpmlneoiagdaaGreatDoor
open Go.ChangeShapes Go.WideShapes Go.ChangeAt Go.RowKit
set_option linter.unusedVariables false

end Go.Proofs.YtgmpmlneoiagdaaGreatDoor

/- Items and bytes: what is parsed has just these bytes; the first of a tag is the only one. -/
namespace Go.Proofs.YtgmpmlneoiagdaaGreatDoor
set_option linter.unusedVariables false

theorem parseF_inv : ∀ (f : Nat) (b : List UInt8) (last : UInt8) (acc items : List TItem), parseF f b last acc = (items, 0) →
    ∃ new, items = acc ++ new ∧ (∀ (ab : List UInt8), encodeF acc.length last new ab = (ab ++ b, 0)) ∧ (∀ x ∈ new, last.toNat < x.tag.toNat ∧ x.value.length ≤ 200) ∧ new.Pairwise (fun x y => x.tag.toNat < y.tag.toNat) := by
  intro f
  induction f with
  | zero =>
    intro b last acc items h
    match b, h with
    | [], h => simp only [parseF, Prod.mk.injEq] at h; exact ⟨[], by simp [h.1], by simp [encodeF], by simp, by simp⟩
    | [_], h => simp [parseF] at h
    | _ :: _ :: _, h => simp [parseF] at h
  | succ f ih =>
    intro b last acc items h
    match b, h with
    | [], h => simp only [parseF, Prod.mk.injEq] at h; exact ⟨[], by simp [h.1], by simp [encodeF], by simp, by simp⟩
    | [_], h => simp [parseF] at h
    | tag :: sz :: rest, h =>
      by_cases hf : fitsN tag last sz.toNat acc.length = 0
      · by_cases hr : rest.length < sz.toNat
        · rw [parseF_cut hf hr] at h; simp at h
        · rw [parseF_step hf (by omega)] at h
          obtain ⟨new, h1, h2, h3, h4⟩ := ih _ _ _ _ h
          obtain ⟨g1, g2, g3⟩ := fitsN_zero hf
          have hl : (rest.take sz.toNat).length = sz.toNat := by rw [List.length_take]; omega
          refine ⟨⟨tag, rest.take sz.toNat⟩ :: new, by rw [h1]; simp, ?_, ?_, ?_⟩
          · intro ab
            rw [encodeF_good (by simp only [hl]; exact hf)]
            have := h2 (ab ++ tag :: UInt8.ofNat (rest.take sz.toNat).length :: rest.take sz.toNat)
            rw [List.length_append] at this
            simp only [List.length_cons, List.length_nil, Nat.zero_add] at this
            simp only at this ⊢
            rw [this, hl]
            simp
          · intro x hx
            simp only [List.mem_cons] at hx
            rcases hx with rfl | hx
            · exact ⟨g1, by simp only [hl]; omega⟩
            · have := h3 x hx
              exact ⟨by omega, this.2⟩
          · rw [List.pairwise_cons]
            exact ⟨fun x hx => (h3 x hx).1, h4⟩
      · have := parseF_bad (f := f) (rest := rest) (sz := sz) (acc := acc) (last := last) (tag := tag) rfl hf
        rw [this] at h
        simp at h
        exact (hf h.2).elim
theorem parse_encode {b : List UInt8} {items : List TItem} (h : parseF b.length b 0 [] = (items, 0)) : encodeF 0 0 items [] = (b, 0) := by
  obtain ⟨new, h1, h2, _, _⟩ := parseF_inv _ _ _ _ _ h
  rw [List.nil_append] at h1
  subst h1
  have := h2 []
  simpa using this
theorem parse_short {b : List UInt8} {R : List TItem × Nat} (h : parseF b.length b 0 [] = R) : (∀ x ∈ R.1, x.value.length ≤ 200) ∧ R.1.Pairwise (fun x y => x.tag.toNat < y.tag.toNat) := by
  have herr : ∀ (f : Nat) (b : List UInt8) (last : UInt8) (acc : List TItem), (parseF f b last acc).2 ≠ 0 → (parseF f b last acc).1 = [] := by
    intro f
    induction f with
    | zero => intro b last acc h; match b, h with
      | [], h => simp [parseF] at h
      | [_], h => rfl
      | _ :: _ :: _, h => rfl
    | succ f ih => intro b last acc h; match b, h with
      | [], h => simp [parseF] at h
      | [_], h => rfl
      | tag :: sz :: rest, h =>
        by_cases hf : fitsN tag last sz.toNat acc.length = 0
        · by_cases hr : rest.length < sz.toNat
          · rw [parseF_cut hf hr]
          · rw [parseF_step hf (by omega)] at h ⊢; exact ih _ _ _ h
        · rw [parseF_bad rfl hf]
  by_cases h0 : R.2 = 0
  · obtain ⟨items, z⟩ := R
    simp only at h0
    subst h0
    obtain ⟨new, h1, _, h3, h4⟩ := parseF_inv _ _ _ _ _ h
    rw [List.nil_append] at h1
    subst h1
    exact ⟨fun x hx => (h3 x hx).2, h4⟩
  · have := herr b.length b 0 [] (by rw [h]; exact h0)
    rw [h] at this
    rw [this]
    simp
theorem parse_count : ∀ (f : Nat) (b : List UInt8) (last : UInt8) (acc : List TItem), (parseF f b last acc).1.length ≤ acc.length + b.length := by
  intro f
  induction f with
  | zero => intro b last acc; match b with
    | [] => simp [parseF]
    | [_] => simp [parseF]
    | _ :: _ :: _ => simp [parseF]
  | succ f ih => intro b last acc; match b with
    | [] => simp [parseF]
    | [_] => simp [parseF]
    | tag :: sz :: rest =>
      by_cases hf : fitsN tag last sz.toNat acc.length = 0
      · by_cases hr : rest.length < sz.toNat
        · rw [parseF_cut hf hr]; simp
        · rw [parseF_step hf (by omega)]
          have := ih (rest.drop sz.toNat) tag (acc ++ [⟨tag, rest.take sz.toNat⟩])
          simp only [List.length_append, List.length_cons, List.length_nil, List.length_drop] at this ⊢
          omega
      · rw [parseF_bad rfl hf]; simp
end Go.Proofs.YtgmpmlneoiagdaaGreatDoor

/- Bytes that were made of items are parsed to them. -/
namespace Go.Proofs.YtgmpmlneoiagdaaGreatDoor
set_option linter.unusedVariables false

theorem encodeF_inv : ∀ (items : List TItem) (i : Nat) (last : UInt8) (acc bytes : List UInt8), encodeF i last items acc = (bytes, 0) →
    ∃ tail, bytes = acc ++ tail ∧ ∀ (f : Nat) (ai : List TItem), ai.length = i → tail.length ≤ f → parseF f tail last ai = (ai ++ items, 0) := by
  intro items
  induction items with
  | nil =>
    intro i last acc bytes h
    simp only [encodeF, Prod.mk.injEq] at h
    refine ⟨[], by simp [h.1], fun f ai _ _ => ?_⟩
    cases f <;> simp [parseF]
  | cons x t ih =>
    intro i last acc bytes h
    by_cases hf : fitsN x.tag last x.value.length i = 0
    · rw [encodeF_good hf] at h
      obtain ⟨tail, h1, h2⟩ := ih _ _ _ _ h
      obtain ⟨g1, g2, g3⟩ := fitsN_zero hf
      refine ⟨x.tag :: UInt8.ofNat x.value.length :: (x.value ++ tail), by rw [h1]; simp, fun f ai ha hl => ?_⟩
      have h8 : (UInt8.ofNat x.value.length).toNat = x.value.length := by simp; omega
      cases f with
      | zero => simp at hl
      | succ f =>
        rw [parseF_step (by rw [h8, ha]; exact hf) (by rw [h8]; simp), h8]
        rw [List.drop_append_of_le_length (Nat.le_refl _), List.drop_length, List.nil_append, List.take_append_of_le_length (Nat.le_refl _), List.take_length]
        have := h2 f (ai ++ [⟨x.tag, x.value⟩]) (by simp [ha]) (by simp at hl; omega)
        rw [this]
        simp
    · rw [encodeF_bad hf] at h
      simp at h
      exact (hf h.2).elim
theorem encode_parse {items : List TItem} {bytes : List UInt8} (h : encodeF 0 0 items [] = (bytes, 0)) : parseF bytes.length bytes 0 [] = (items, 0) := by
  obtain ⟨tail, h1, h2⟩ := encodeF_inv _ _ _ _ _ h
  rw [List.nil_append] at h1
  subst h1
  have := h2 bytes.length [] rfl (Nat.le_refl _)
  simpa using this
end Go.Proofs.YtgmpmlneoiagdaaGreatDoor
