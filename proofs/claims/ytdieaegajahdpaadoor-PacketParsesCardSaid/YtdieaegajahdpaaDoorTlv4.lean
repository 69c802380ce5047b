/- The document's answer for tlv: the items of bytes. -/
import Derived.Test.YtdieaegajahdpaaDoorTlv2
import Derived.Test.YtdieaegajahdpaaDoorFresh
import Derived.Deep.QuietTactic
import Derived.BigQuiet
namespace Go.Proofs.YtdieaegajahdpaaDoor
open Go.ChangeShapes Go.WideShapes Go.ChangeAt Go.RowKit
set_option linter.unusedVariables false

theorem infoRItem : (Tryd.prog.info? 120).map (fun i => (i.zero, i.size, i.bytes)) = some (some (.agg #[.int .u8 0, .slice Option.none 0 0]), 2, 32) := by kernel_rfl
/-- the value that is spoken of -/
abbrev lvOf {ty : TypeId} {v : Value} {L : List (Value × TItem)} {F : SP} {w : World} (_ : Hid ((Its ty v L * F).on w)) : Value := v
/-- how a parsing ends -/
def ParseEnd (ty : TypeId) (R : List TItem × Nat) (w : World) (e : Ending) (w' : World) : Prop := ∃ out L, e = .returned (.tuple #[out, .int .i64 (R.2 : Nat)]) ∧ L.map Prod.snd = R.1 ∧ (Its ty out L * all w).on w' ∧ Str w w'
def lastTag (L : List TItem) : UInt8 := match L.getLast? with
  | some x => x.tag
  | Option.none => 0
theorem lastTag_snoc (L : List TItem) (x : TItem) : lastTag (L ++ [x]) = x.tag := by simp [lastTag]
theorem lastTag_cell (L : List (Value × TItem)) (h : 0 < L.length) : (itCells L)[(L.length - 1) * 2]? = some (vb (lastTag (L.map Prod.snd))) := by
  have hl : L[L.length - 1]? = some (L[L.length - 1].1, L[L.length - 1].2) := List.getElem?_eq_getElem (by omega)
  have := (itCells_get L _ _ _ hl).1
  rw [this]
  congr 2
  unfold lastTag
  rw [List.getLast?_eq_getElem?, List.getElem?_map, List.length_map, hl]
  rfl
theorem fitsN_form {tag last : UInt8} {a b : Nat} (h : tag.toNat ≤ last.toNat) : fitsN tag last a b = 7 := by unfold fitsN; rw [if_pos h]
theorem fitsN_long {tag last : UInt8} {a b : Nat} (h : ¬tag.toNat ≤ last.toNat) (h2 : 200 < a ∨ 16 ≤ b) : fitsN tag last a b = 17 := by unfold fitsN; rw [if_neg h, if_pos h2]
theorem fitsN_ok {tag last : UInt8} {a b : Nat} (h : ¬tag.toNat ≤ last.toNat) (h2 : ¬(200 < a ∨ 16 ≤ b)) : fitsN tag last a b = 0 := by unfold fitsN; rw [if_neg h, if_neg h2]
theorem parseF_bad {f : Nat} {tag sz last : UInt8} {rest : List UInt8} {acc : List TItem} {z : Nat} (hf : fitsN tag last sz.toNat acc.length = z) (hz : z ≠ 0) :
    parseF (f + 1) (tag :: sz :: rest) last acc = ([], z) := by
  simp only [parseF]; rw [if_pos (by omega), hf]
theorem parseF_cut {f : Nat} {tag sz last : UInt8} {rest : List UInt8} {acc : List TItem} (hf : fitsN tag last sz.toNat acc.length = 0) (hr : rest.length < sz.toNat) :
    parseF (f + 1) (tag :: sz :: rest) last acc = ([], 18) := by
  simp only [parseF]; rw [if_neg (by simp [hf]), if_pos hr]

set_option maxRecDepth 100000 in
set_option maxHeartbeats 8000000 in
theorem rtparse_any (v : Value) (b : List UInt8) (w : World) (h : IsBytes w v b) (hlen : b.length ≤ 1000000) :
    Calls Tryd.prog 55 #[v] w (ParseEnd 120 (parseF b.length b 0 []) w) := by
  have H := hide h
  obtain ⟨a, c, rfl, hc, hmx, _, _⟩ := h
  obtain ⟨ie, hie, hz, hsz, hby⟩ := info_some infoRItem
  have hue := Tryd.underlying97
  have hu8 := Tryd.underlying22
  have Hie := hide hie
  have Hz := hide hz
  have Hsz := hide hsz
  have Hby := hide hby
  clear hie hz hsz hby
  unfold maxLen at hmx
  generalize hR : parseF b.length b 0 [] = R
  have HR := hide hR
  clear hR
  go_enter Tryd.func55, Tryd.ntmps55
  go_wp2_with fail
  go_loopw [4, 5] (fun lv at' wr => ∃ (k : Nat) (L : List (Value × TItem)) (f : Nat), at' = .int .i64 k ∧ k ≤ b.length ∧ b.length - k ≤ f ∧ parseF f (b.drop k) (lastTag (L.map Prod.snd)) (L.map Prod.snd) = R ∧ L.length ≤ 16 ∧ (Its 120 lv L * all w).on wr ∧ Str w wr) (fun _ at' _ => b.length - (intOf at').toNat)
  case atStart => exact ⟨0, [], b.length, rfl, by omega, by omega, by simpa [lastTag] using HR.out, by simp, Its.nil (on_all w), Str.refl _⟩
  case round =>
    obtain ⟨k, L, f, rfl, hk, hf, hp, hL, hw, hstr⟩ := hrel
    have hw2 := hw
    unfold Its at hw2
    rw [SP.mul_assoc] at hw2
    obtain ⟨la, lc, rfl, hlc1, hlc2, hlay, _⟩ := own_value hw2
    obtain ⟨_, _, eb, _, _, hbl, _⟩ := H.out.below (all_below hw.right hstr)
    simp only [Value.slice.injEq] at eb
    obtain ⟨rfl, _, rfl⟩ := eb
    unfold maxLen at hlc2
    have Hlay := hide hlay
    have Hw := hide hw
    have Hstr := hide hstr
    clear hw hw2 hstr hlay
    by_cases hk0 : k = b.length
    · subst hk0
      rw [List.drop_length] at hp
      have HE : Hid ((L.map Prod.snd, 0) = R) := hide (by rw [← hp]; cases f <;> rfl)
      clear hp hbl
      go_wp2_with fail
      go_ret2
      exact ⟨_, L, by rw [← HE.out]; rfl, by rw [← HE.out], Hw.out, Hstr.out⟩
    · have hk1 : k < b.length := by omega
      have hd := List.drop_eq_getElem_cons hk1
      by_cases hk2 : k + 1 = b.length
      · have HE : Hid (([], 18) = R) := hide (by rw [← hp, hd, List.drop_eq_nil_of_le (by omega)]; cases f <;> rfl)
        have e1 : ((k : Int) + 1 == (b.length : Int)) = true := by simp only [beq_iff_eq]; omega
        clear hp hbl hk0 hd hk2
        go_wp2_with fail
        go_ret2
        exact ⟨_, [], by rw [← HE.out]; rfl, by rw [← HE.out]; rfl, Its.nil Hw.out.right, Hstr.out⟩
      · have hk3 : k + 1 < b.length := by omega
        have e1 : ((k : Int) + 1 == (b.length : Int)) = false := by rw [beq_eq_false_iff_ne]; omega
        rw [List.drop_eq_getElem_cons hk3] at hd
        have g0 := vbs_get b k hk1
        have g1 := vbs_get b (k + 1) hk3
        generalize b[k] = tag at *
        generalize b[k + 1] = sz at *
        rw [hd] at hp
        obtain ⟨bg, bo, rfl⟩ := Lay.isAddr hbl k (by simpa using hk1)
        have c0 := Lay.cell hbl k g0
        have c1 := Lay.cell hbl (k + 1) g1
        have hsz : sz.toNat < 256 := UInt8.toNat_lt sz
        have htg : tag.toNat < 256 := UInt8.toNat_lt tag
        cases f with
        | zero => omega
        | succ f =>
        have Hp := hide hp
        have Hd := hide hd
        clear hp hd hk0 hk2 g0 g1 hbl
        by_cases hform : tag.toNat ≤ (lastTag (L.map Prod.snd)).toNat
        · have HE : Hid (([], 7) = R) := hide (by rw [← Hp.out, parseF_bad (fitsN_form hform) (by decide)])
          by_cases ht0 : tag.toNat = 0
          · have e2 : (((tag.toNat : Nat) : Int) == 0) = true := by simp only [beq_iff_eq]; omega
            clear hform
            go_wp2_with fail
            go_quiet (fail)
            go_wp2_with fail
            go_ret2
            exact ⟨_, [], by rw [← HE.out]; rfl, by rw [← HE.out]; rfl, Its.nil (Hw.out.right.drewN _), Hstr.out.drewN _⟩
          · have e2 : (((tag.toNat : Nat) : Int) == 0) = false := by rw [beq_eq_false_iff_ne]; omega
            have hL0 : 0 < L.length := by
              cases L with
              | nil => simp [lastTag] at hform; omega
              | cons _ _ => simp
            obtain ⟨og, oo, rfl⟩ : ∃ g o, la = some ⟨g, o, Option.none⟩ := by obtain ⟨g, o, e, _⟩ := Hlay.out _ _ (lastTag_cell L hL0); exact ⟨g, o, e⟩
            have c2 := Lay.cell Hlay.out _ (lastTag_cell L hL0)
            have d1 : decide (0 < L.length) = true := by simpa using hL0
            have d2 : decide (tag.toNat ≤ (lastTag (L.map Prod.snd)).toNat) = true := by simpa using hform
            have s1 : IntKind.i64.wrap ((L.length : Int) - 1) = ((L.length - 1 : Nat) : Int) := by rw [IntWalk.i64_in _ (by omega)]; omega
            clear hform ht0
            generalize lastTag (L.map Prod.snd) = last at *
            go_wp2_with fail
            go_quiet (fail)
            go_wp2_with fail
            go_ret2
            exact ⟨_, [], by rw [← HE.out]; rfl, by rw [← HE.out]; rfl, Its.nil (Hw.out.right.drewN _), Hstr.out.drewN _⟩
        · have ht0 : ¬ tag.toNat = 0 := by omega
          have e2 : (((tag.toNat : Nat) : Int) == 0) = false := by rw [beq_eq_false_iff_ne]; omega
          have key : decide (0 < L.length) = false ∨ (decide (0 < L.length) = true ∧ 0 < L.length ∧ ∃ og oo, la = some ⟨og, oo, Option.none⟩ ∧ wr.cell? ⟨og, oo + (L.length - 1) * 2, Option.none⟩ = some (vb (lastTag (L.map Prod.snd)))) := by
            by_cases hL0 : L.length = 0
            · exact .inl (decide_eq_false (by omega))
            · obtain ⟨og, oo, e, h9⟩ := Hlay.out _ _ (lastTag_cell L (by omega))
              exact .inr ⟨decide_eq_true (by omega), by omega, og, oo, e, h9⟩
          have d2 : decide (tag.toNat ≤ (lastTag (L.map Prod.snd)).toNat) = false := decide_eq_false hform
          by_cases hlong : 200 < sz.toNat ∨ 16 ≤ L.length
          · have HE : Hid (([], 17) = R) := hide (by rw [← Hp.out, parseF_bad (fitsN_long hform (by rw [List.length_map]; exact hlong)) (by decide)])
            generalize lastTag (L.map Prod.snd) = last at *
            clear hform ht0
            rcases (show 200 < sz.toNat ∨ (sz.toNat ≤ 200 ∧ 16 ≤ L.length) by omega) with h200 | ⟨h200, h16⟩
            all_goals
              rcases key with d1 | ⟨d1, hL0, og, oo, rfl, c2⟩
              all_goals
                clear hlong
                try have s1 : IntKind.i64.wrap ((L.length : Int) - 1) = ((L.length - 1 : Nat) : Int) := by rw [IntWalk.i64_in _ (by omega)]; omega
                go_wp2_with fail
                go_quiet (fail)
                go_wp2_with fail
                go_ret2
                exact ⟨_, [], by rw [← HE.out]; rfl, by rw [← HE.out]; rfl, Its.nil (Hw.out.right.drewN _), Hstr.out.drewN _⟩
          · have h200 : sz.toNat ≤ 200 := by omega
            have h16 : L.length < 16 := by omega
            have HFit := hide (fitsN_ok (b := (L.map Prod.snd).length) hform (by rw [List.length_map]; exact hlong))
            clear hlong
            by_cases hcut : b.length < k + 2 + sz.toNat
            · have HE : Hid (([], 18) = R) := hide (by rw [← Hp.out, parseF_cut HFit.out (by rw [List.length_drop]; omega)])
              generalize lastTag (L.map Prod.snd) = last at *
              clear hform ht0
              rcases key with d1 | ⟨d1, hL0, og, oo, rfl, c2⟩
              all_goals
                try have s1 : IntKind.i64.wrap ((L.length : Int) - 1) = ((L.length - 1 : Nat) : Int) := by rw [IntWalk.i64_in _ (by omega)]; omega
                go_wp2_with fail
                go_quiet (fail)
                go_wp2_with fail
                go_ret2
                exact ⟨_, [], by rw [← HE.out]; rfl, by rw [← HE.out]; rfl, Its.nil (Hw.out.right.drewN _), Hstr.out.drewN _⟩
            · have hcut2 : k + 2 + sz.toNat ≤ b.length := by omega
              have Hp2 := hide ((parseF_step (f := f) HFit.out (rest := b.drop (k + 2)) (by rw [List.length_drop]; omega)).symm.trans Hp.out)
              generalize lastTag (L.map Prod.snd) = last at *
              clear hform ht0 hcut
              rcases key with d1 | ⟨d1, hL0, og, oo, rfl, c2⟩
              all_goals
                try have s1 : IntKind.i64.wrap ((L.length : Int) - 1) = ((L.length - 1 : Nat) : Int) := by rw [IntWalk.i64_in _ (by omega)]; omega
                go_wp2_with fail
                go_quiet (fail)
                go_wp2_with fail
                have c0' : (wr.drewN nq).cell? ⟨bg, bo + k, Option.none⟩ = some (vb tag) := c0
                have Hw' := hide (Hw.out.drewN nq)
                have Hs' := hide (Hstr.out.drewN nq)
                generalize wr.drewN nq = W0 at *
                have a1 : IntKind.i64.wrap ((k : Int) + 2) = (k : Int) + 2 := by rw [IntWalk.i64_in _ (by omega)]
                have a2 : IntKind.i64.wrap ((k : Int) + 2 + (sz.toNat : Int)) = (k : Int) + 2 + (sz.toNat : Int) := by rw [IntWalk.i64_in _ (by omega)]
                have hval : Hid (∀ W, Stay W0 W → IsBytes W (.slice (some ⟨bg, bo + (k + 2), Option.none⟩) sz.toNat (c - (k + 2))) ((b.drop (k + 2)).take sz.toNat)) := hide (fun W hT => by
                  have h1 := ((H.out.below (all_below Hw'.out.right Hs'.out)).below hT)
                  obtain ⟨_, _, e, h5, _, h3, _⟩ := h1
                  simp only [Value.slice.injEq] at e
                  obtain ⟨rfl, _, rfl⟩ := e
                  refine ⟨_, _, by rw [List.length_take, List.length_drop, Nat.min_eq_left (by omega)], by rw [List.length_take, List.length_drop]; omega, by unfold maxLen; omega, ?_, by simp⟩
                  have := (h3.drop (k + 2)).take sz.toNat
                  rwa [← List.map_drop, ← List.map_take] at this)
                have hval0 : Hid (sz.toNat = 0 → ∀ W, IsBytes W (.slice (some ⟨bg, bo, Option.none⟩) 0 0) ((b.drop (k + 2)).take sz.toNat)) := hide (fun h0 W => by
                  rw [h0, List.take_zero]
                  exact ⟨_, _, rfl, Nat.le_refl _, Nat.zero_le _, Lay.nil _ _, by simp⟩)
                have hvl : ((b.drop (k + 2)).take sz.toNat).length ≤ 255 := by rw [List.length_take]; omega
                generalize hvv : (b.drop (k + 2)).take sz.toNat = val at *
                refine wp_region_tail 17 [isV (lvOf Hw'), isV (.slice (some ⟨bg, bo, Option.none⟩) b.length c), isV (.int .i64 (k : Int)), isV (.pointer (some ⟨bg, bo + k, Option.none⟩)), isV (vb tag),
                  (fun v w => ∃ a0, v = .slice a0 0 0 ∧ (ownT v [] * all W0).on w), isV (.slice (some ⟨bg, bo, Option.none⟩) b.length c), isV (.int .i64 (k : Int)), isV (.int .i64 ((k : Int) + 2)), isV (.int .i64 (k : Int)), isV (.int .i64 ((k : Int) + 2)), isV (.int .i64 (sz.toNat : Int)), isV (.int .i64 ((k : Int) + 2 + (sz.toNat : Int))),
                  (fun v w => IsBytes w v val), (fun v w => (ownT v val * all W0).on w), (fun v w => ∃ x, v = .agg #[vb tag, x] ∧ (ownT x val * all W0).on w),
                  (fun v w => ∃ g x, v = .slice (some ⟨g, 0, Option.none⟩) 1 1 ∧ (blk g (.cells #[vb tag, x] 120 (0, 0)) * (ownT x val * all W0)).on w)]
                  (by simp only [List.take_succ_cons, List.take_zero]; rfl) (by simp only [List.drop_succ_cons, List.drop_zero]; rfl) (by kernel_rfl) (by kernel_rfl) (by kernel_rfl) (by decide) rfl ?keep ?todo ?rest
                case keep =>
                  exact ⟨Keep.isV _, Keep.isV _, Keep.isV _, Keep.isV _, Keep.isV _, fun _ _ _ ⟨a0, h1, h2⟩ k => ⟨a0, h1, SP.on.below h2 k⟩, Keep.isV _, Keep.isV _, Keep.isV _, Keep.isV _, Keep.isV _, Keep.isV _, Keep.isV _, fun _ _ _ h k => IsBytes.below h k, fun _ _ _ h k => SP.on.below h k, fun _ _ _ ⟨x, h1, h2⟩ k => ⟨x, h1, SP.on.below h2 k⟩, fun _ _ _ ⟨g, x, h1, h2⟩ k => ⟨g, x, h1, SP.on.below h2 k⟩, trivial⟩
                case todo =>
                  refine ⟨?_, ?_, ?_, ?_, ?_, ?_, ?_, ?_, ?_, ?_, ?_, ?_, ?_, ?_, ?_, ?_, ?_, trivial⟩
                  · exact fun ev W hT hb hk hf => OpOk.move rfl hk.1 ⟨rfl, Stay.refl _⟩
                  · exact fun ev W hT hb hk hf => OpOk.move rfl hk.1 ⟨rfl, Stay.refl _⟩
                  · exact fun ev W hT hb hk hf => OpOk.move rfl hk.1 ⟨rfl, Stay.refl _⟩
                  · intro ev W hT hb hk hf
                    have e0 : ev (.tmp 61) = .slice (some ⟨bg, bo, Option.none⟩) b.length c := hf.1
                    have e1 : ev (.tmp 62) = .int .i64 (k : Int) := hf.2.1
                    exact OpOk.run (v := .pointer (some ⟨bg, bo + k, Option.none⟩)) (W' := W) (by simp [execOp, e0, e1, hk1, go_sem]) ⟨rfl, Stay.refl _⟩
                  · intro ev W hT hb hk hf
                    have e0 : ev (.tmp 63) = .pointer (some ⟨bg, bo + k, Option.none⟩) := hf.1
                    have cW := (hT.cell (p := ⟨bg, bo + k, Option.none⟩) (World.block_lt_of_cell? W0 _ c0')).trans c0'
                    exact OpOk.run (v := vb tag) (W' := W) (by simp [execOp, e0, cW, go_sem]) ⟨rfl, Stay.refl _⟩
                  · intro ev W hT hb hk hf
                    exact OpOk.run (v := .slice (some ⟨W.heap.size, 0, Option.none⟩) 0 0) (W' := W.alloc (.cells #[] 5)) (by simp [execOp, go_sem]) ⟨⟨_, rfl, own_new 5 1 0 [] ((on_all W0).below hT) rfl (by decide)⟩, (Below.refl _ _).alloc (Nat.le_refl _) _⟩
                  · exact fun ev W hT hb hk hf => OpOk.move rfl hk.1 ⟨rfl, Stay.refl _⟩
                  · exact fun ev W hT hb hk hf => OpOk.move rfl hk.1 ⟨rfl, Stay.refl _⟩
                  · intro ev W hT hb hk hf
                    have e0 : ev (.tmp 67) = .int .i64 (k : Int) := hf.1
                    exact OpOk.run (v := .int .i64 ((k : Int) + 2)) (W' := W) (by simp [execOp, e0, hb.1, a1, go_sem]) ⟨rfl, Stay.refl _⟩
                  · exact fun ev W hT hb hk hf => OpOk.move rfl hk.1 ⟨rfl, Stay.refl _⟩
                  · intro ev W hT hb hk hf
                    have e0 : ev (.tmp 69) = .int .i64 (k : Int) := hf.1
                    exact OpOk.run (v := .int .i64 ((k : Int) + 2)) (W' := W) (by simp [execOp, e0, hb.1, a1, go_sem]) ⟨rfl, Stay.refl _⟩
                  · exact fun ev W hT hb hk hf => OpOk.move rfl hk.1 ⟨rfl, Stay.refl _⟩
                  · intro ev W hT hb hk hf
                    have e0 : ev (.tmp 70) = .int .i64 ((k : Int) + 2) := hf.1
                    have e1 : ev (.tmp 71) = .int .i64 (sz.toNat : Int) := hf.2.1
                    exact OpOk.run (v := .int .i64 ((k : Int) + 2 + (sz.toNat : Int))) (W' := W) (by simp [execOp, e0, e1, a2, go_sem]) ⟨rfl, Stay.refl _⟩
                  · intro ev W hT hb hk hf
                    have e0 : ev (.tmp 66) = .slice (some ⟨bg, bo, Option.none⟩) b.length c := hf.1
                    have e1 : ev (.tmp 68) = .int .i64 ((k : Int) + 2) := hf.2.1
                    have e2 : ev (.tmp 72) = .int .i64 ((k : Int) + 2 + (sz.toNat : Int)) := hf.2.2.1
                    have f1 : (0 : Int) ≤ (k : Int) + 2 + (sz.toNat : Int) := by omega
                    have f2 : (k : Int) + 2 ≤ (k : Int) + 2 + (sz.toNat : Int) := by omega
                    have f3 : ((k : Int) + 2 + (sz.toNat : Int)).toNat = k + 2 + sz.toNat := by omega
                    have f4 : ((k : Int) + 2).toNat = k + 2 := by omega
                    have f5 : (k : Int) + 2 + (sz.toNat : Int) ≤ (c : Int) := by omega
                    have f6 : (0 : Int) ≤ (k : Int) + 2 := by omega
                    by_cases hz0 : c = k + 2
                    · have hs0 : sz.toNat = 0 := by omega
                      refine OpOk.run (v := .slice (some ⟨bg, bo, Option.none⟩) 0 0) (W' := W) ?_ ⟨hval0.out hs0 W, Stay.refl _⟩
                      simp [execOp, e0, e1, e2, f4, f6, hz0, hs0, go_sem]
                    · refine OpOk.run (v := .slice (some ⟨bg, bo + (k + 2), Option.none⟩) sz.toNat (c - (k + 2))) (W' := W) ?_ ⟨hval.out W hT, Stay.refl _⟩
                      simp [execOp, e0, e1, e2, f2, f3, f4, f5, f6, hz0, go_sem]
                  · intro ev W hT hb hk hf
                    obtain ⟨a0, e0, e1⟩ : ∃ a0, ev (.tmp 65) = .slice a0 0 0 ∧ (ownT (ev (.tmp 65)) [] * all W0).on W := hf.1
                    have e2 : IsBytes W (ev (.tmp 73)) val := hf.2.1
                    rw [e0] at e1
                    obtain ⟨v', w', r1, r2, r3⟩ := run_append_fresh (P := Tryd.prog) 22 22 5 hu8 infoT a0 e1 _ val e2 (by omega)
                    exact OpOk.append rfl e0 rfl r1 ⟨r2, r3⟩
                  · intro ev W hT hb hk hf
                    have e0 : ev (.tmp 64) = vb tag := hf.1
                    have e1 : (ownT (ev (.tmp 74)) val * all W0).on W := hf.2.1
                    have e2 := own_value e1
                    obtain ⟨xa, xc, e2, _, _, _, _⟩ := e2
                    rw [e2] at e1
                    exact OpOk.run (v := .agg #[vb tag, .slice xa val.length xc]) (W' := W) (by simp [execOp, e0, e2, go_sem]) ⟨⟨_, rfl, e1⟩, Stay.refl _⟩
                  · intro ev W hT hb hk hf
                    obtain ⟨x, e0, e1⟩ : ∃ x, ev (.tmp 75) = .agg #[vb tag, x] ∧ (ownT x val * all W0).on W := hf.1
                    obtain ⟨xa, xc, rfl, _, _, _, _⟩ := own_value e1
                    exact OpOk.run (v := .slice (some ⟨W.heap.size, 0, Option.none⟩) 1 1) (W' := W.alloc (.cells #[vb tag, .slice xa val.length xc] 120)) (by simp [execOp, e0, go_sem]) ⟨⟨_, _, rfl, e1.alloc _⟩, (Below.refl _ _).alloc (Nat.le_refl _) _⟩
                case rest =>
                  intro W hT
                  rintro _ rfl _ rfl _ rfl _ rfl _ rfl v65 - _ rfl _ rfl _ rfl _ rfl _ rfl _ rfl _ rfl v73 - v74 - v75 - _ ⟨g, x, rfl, hx⟩
                  have h1 := on_all_to2 hx Hw'.out
                  obtain ⟨xa, xc, rfl, _, _, _, _⟩ := own_value hx.right
                  have h2 : (own 120 2 (lvOf Hw') L.length (itCells L) * (blk g (.cells #[vb tag, .slice xa val.length xc] 120 (0, 0)) * (itStars L * (ownT (.slice xa val.length xc) val * all w)))).on W := by
                    unfold Its at h1
                    have e : (blk g (.cells #[vb tag, .slice xa val.length xc] 120 (0, 0)) * (ownT (.slice xa val.length xc) val * ((own 120 2 (lvOf Hw') L.length (itCells L) * itStars L) * all w))) = (own 120 2 (lvOf Hw') L.length (itCells L) * (blk g (.cells #[vb tag, .slice xa val.length xc] 120 (0, 0)) * (itStars L * (ownT (.slice xa val.length xc) val * all w)))) := by ac_rfl
                    rw [← e]
                    exact h1
                  have hlay : Lay W (some ⟨g, 0, Option.none⟩) [vb tag, .slice xa val.length xc] := fun i u hu => ⟨_, _, rfl, by
                    rw [Nat.zero_add, cell_of_row _ _ _ _ _ _ (on_blk_mul hx)]
                    simpa using hu⟩
                  have H2 := hide h2
                  have Hlay2 := hide hlay
                  have HsT := hide (Str.below hT)
                  clear h1 h2 hx hlay hT hval hval0
                  go_wp2
                  refine Rest.done ?_
                  go_wp2_with (at_builtin; refine wpList_append_sp (F := blk g (.cells #[vb tag, .slice xa val.length xc] 120 (0, 0)) * (itStars L * (ownT (.slice xa val.length xc) val * all w))) rfl _ _ 97 rfl 120 ie _ 2 32 hue Hie.out Hz.out Hsz.out Hby.out rfl (by decide) _ L.length (itCells L) rfl H2.out (some ⟨g, 0, Option.none⟩) 1 1 [vb tag, .slice xa val.length xc] rfl (by simp) rfl Hlay2.out (by intro u hu; simp at hu; rcases hu with rfl | rfl <;> rfl) (by unfold maxLen; omega) (by omega) ?_; intro v3 w3 ho3 hs3)
                  have ho4 := ho3
                  rw [SP.mul_left_comm] at ho4
                  have HN := Its.push (it := ⟨tag, val⟩) ho4.right
                  have HS3 := (Hs'.out.trans HsT.out).trans hs3
                  refine ⟨⟨k + (2 + sz.toNat), L ++ [(.slice xa val.length xc, ⟨tag, val⟩)], f, by simp, by omega, by omega, ?_, by simp; omega, HN, HS3⟩, by simp [intOf]; omega⟩
                  rw [List.map_append, ← Nat.add_assoc, ← List.drop_drop]
                  have := Hp2.out
                  simp only [List.map_cons, List.map_nil, lastTag_snoc]
                  exact this
end Go.Proofs.YtdieaegajahdpaaDoor
