/- The law UploaderActs: the Model hears bytes. -/
import Derived.Test.YtjmgnfpcieofkaaUA4
import Derived.Test.YtjmgnfpcieofkaaUA7
import Derived.Test.YtjmgnfpcieofkaaUA5
import Derived.Test.YtjmgnfpcieofkaaGDp
import Derived.Test.YtjmgnfpcieofkaaSlice2
namespace Go.Proofs.Ytjmgnfpcieofkaa
open Go.ChangeShapes Go.WideShapes Go.ChangeAt Go.RowKit
set_option linter.unusedVariables false
set_option linter.unusedSimpArgs false

/-- a slice of bytes, wherever these lie -/
def RestS (rv : Value) (rest : List UInt8) : SP := ex fun y : Value × List UInt8 => pure (∀ W, IsBytes W y.1 y.2 → IsBytes W rv rest) * ownR y.1 y.2
theorem RestS.bytes {rv : Value} {rest : List UInt8} {F : SP} {W : World} (h : (RestS rv rest * F).on W) : IsBytes W rv rest := by
  obtain ⟨y, h⟩ := on_ex_mul.1 h
  rw [SP.mul_assoc] at h
  obtain ⟨h1, h2⟩ := on_pure_mul.1 h
  exact h1 _ (own_bytes h2)
theorem RestS.of {rv bv : Value} {rest both : List UInt8} {F : SP} {W : World} (h1 : ∀ W, IsBytes W bv both → IsBytes W rv rest) (h : (ownR bv both * F).on W) : (RestS rv rest * F).on W := by
  refine on_ex_mul.2 ⟨(bv, both), ?_⟩
  rw [SP.mul_assoc]
  exact on_pure_mul.2 ⟨h1, h⟩
theorem RestS.nil {F : SP} {W : World} (h : F.on W) : (RestS nilV [] * F).on W :=
  RestS.of (bv := nilV) (both := []) (fun W h => h) (own_nil 5 1 h)
theorem run_length (s : DsS) (b : List UInt8) : (run s b).1.length = b.length := by rw [← feedK_all, feedK_length]
/-- which events the bytes behind the rest bring -/
theorem events_rest (m : Nat) (rest b : List UInt8) : ((partsF (rest ++ b)).flatMap (fun p => partF m (p.length + 1) [] p)).drop rest.length = (run (run ⟨[], m, false, false⟩ rest).2 b).1 := by
  rw [← run_parts m _ (rest ++ b) (Nat.lt_succ_self _), run_append]
  show ((run ⟨[], m, false, false⟩ rest).1 ++ _).drop _ = _
  rw [List.drop_append_of_le_length (by rw [run_length]; exact Nat.le_refl _), List.drop_of_length_le (by rw [run_length]; exact Nat.le_refl _), List.nil_append]
theorem mhear_any (p : Nat) (iv rv : Value) (s : US) (mg mo mc : Nat) (img : List UInt8) (hl : img.length ≤ 4096) (hmc : img.length ≤ mc) (F : SP) (w : World) (h : (blk p (.cells (mC22 iv (.slice (some ⟨mg, mo, Option.none⟩) img.length mc) rv s) 84 (0, 0)) * F).on w) (hmv : ∀ W, F.on W → IsBytes W (.slice (some ⟨mg, mo, Option.none⟩) img.length mc) img) (ok : s.Ok img)
    (tv : Value) (t : List UInt8) (htl : t.length ≤ 1000000) (htv : ∀ W, F.on W → IsBytes W tv t) :
    Calls Try.prog 78 #[ptrV p, tv] w fun e w' => (∃ v, e = .returned v) ∧ (blk p (.cells (mC22 iv (.slice (some ⟨mg, mo, Option.none⟩) img.length mc) rv (s.hear img t)) 84 (0, 0)) * F).on w' ∧ Str w w' := by
  by_cases he : ansErr t = 0
  case neg => exact mhear_short p iv rv s mg mo mc img hl hmc F w h hmv ok tv t (htv w h.right) he
  case pos =>
    have hh : s.hear img t = s.answer img (ansGot t).op (ansGot t).result (ansGot t).data := by unfold US.hear; rw [if_pos he]
    rw [hh]
    match t, he, htl, htv with
    | [], he, _, _ => exact absurd he (show ¬ (18 : Nat) = 0 by decide)
    | [_], he, _, _ => exact absurd he (show ¬ (18 : Nat) = 0 by decide)
    | [_, _], he, _, _ => exact absurd he (show ¬ (18 : Nat) = 0 by decide)
    | x :: y :: z :: d, he, htl, htv =>
      have hx : x = 96 := by
        apply Decidable.byContradiction
        intro hc
        have h7 : ansErr (x :: y :: z :: d) = 7 := by show (if x = 96 then 0 else 7) = 7; rw [if_neg hc]
        omega
      subst hx
      obtain ⟨tb, to, tc, rfl, _⟩ := IsBytes.at (htv w h.right) 0 (by simp)
      exact mhear_full p iv rv s mg mo mc img hl hmc F w h hmv ok tb to tc y z d (by simp at htl; omega) (fun W hW => htv W hW)
theorem ev_hz (X : World) : (zeroValue 144).run Try.prog X = .ok (.agg zcell) X := by kernel_rfl
abbrev evC (x : Value) (e : Ev) : Array Value := #[.int .i64 (e.kind : Int), x, .int .i64 (e.err : Int)]
theorem ev_info (x : Value) (e : Ev) : (Try.prog.info? 144).map (·.size) = some (evC x e).size := by
  show _ = some 3
  kernel_rfl

theorem evs_short (b : List UInt8) : ∀ (s : DsS), s.Ok → ∀ e ∈ (run s b).1, e.frame.length ≤ 65536 := by
  induction b with
  | nil => intro s _ e he; cases he
  | cons c t ih =>
    intro s h e he
    rcases List.mem_cons.1 he with rfl | he
    · have h1 := feed_len s c
      have h2 := h.text
      have h3 := h.most
      unfold evOf
      repeat' split
      all_goals first | exact Nat.zero_le _ | (show (s.feed c).1.length ≤ _; omega)
    · exact ih _ (DsS.feed_ok h c) e he
theorem evCells_drop : ∀ (L : List (Value × Ev)) (r : Nat), (evCells L).drop (r * 3) = evCells (L.drop r)
  | L, 0 => by simp
  | [], r + 1 => by simp [evCells]
  | y :: L, r + 1 => by
    rw [show (r + 1) * 3 = r * 3 + 3 by omega, List.drop_succ_cons, ← evCells_drop L r]
    show ([_, _, _] ++ evCells L).drop _ = _
    rw [show r * 3 + 3 = [(0 : Nat), 0, 0].length + r * 3 by simp; omega, ← List.drop_drop]
    rfl
theorem evs_from (a : Option Addr) (L : List (Value × Ev)) (c r : Nat) (hr : r ≤ L.length) (hc : L.length ≤ c) : ∃ a' c', sliced a r L.length c 3 = .slice a' (L.length - r) c' ∧ ∀ W, Lay W a (evCells L) → Lay W a' (evCells (L.drop r)) := by
  unfold sliced
  refine ⟨_, _, rfl, fun W h => ?_⟩
  by_cases hcr : c = r
  · rw [List.drop_of_length_le (by omega)]
    exact Lay.nil _ _
  · rw [if_neg hcr]
    rcases Nat.eq_zero_or_pos L.length with h0 | h0
    · rw [List.drop_of_length_le (by omega)]
      exact Lay.nil _ _
    · obtain ⟨b, off, rfl⟩ := h.isAddr 0 (by rw [evCells_length]; omega)
      have : (⟨b, off, Option.none⟩ : Addr).add (r * 3) = ⟨b, off + r * 3, Option.none⟩ := by unfold Addr.add; split <;> simp_all
      simp only [Option.map_some, this]
      rw [← evCells_drop]
      exact h.drop _

set_option maxRecDepth 100000 in
set_option maxHeartbeats 16000000 in
theorem mbytes_any (p : Nat) (iv rv : Value) (s : US) (mg mo mc : Nat) (img : List UInt8) (hl : img.length ≤ 4096) (hmc : img.length ≤ mc) (rest : List UInt8) (F : SP) (w : World) (h : (blk p (.cells (mC22 iv (.slice (some ⟨mg, mo, Option.none⟩) img.length mc) rv s) 84 (0, 0)) * (RestS rv rest * F)).on w) (hmv : ∀ W, F.on W → IsBytes W (.slice (some ⟨mg, mo, Option.none⟩) img.length mc) img) (ok : s.Ok img)
    (v : Value) (b : List UInt8) (hbl : b.length ≤ 400000) (hrl : rest.length ≤ 400000) (hrd : ∀ W, F.on W → IsBytes W v b) :
    Calls Try.prog 43 #[ptrV p, v] w fun e w' => (∃ v, e = .returned v) ∧ (∃ rv', (blk p (.cells (mC22 iv (.slice (some ⟨mg, mo, Option.none⟩) img.length mc) rv' (s.hears img (run (run ⟨[], 70, false, false⟩ rest).2 b).1)) 84 (0, 0)) * (RestS rv' (lastP (rest ++ b)) * F)).on w') ∧ Str w w' := by
  have hum := Try.underlying84
  have hub := Try.underlying33
  have hue := Try.underlying141
  have hur := Try.underlying144
  have huw := Try.underlying145
  have hz := ev_hz
  have hrb := RestS.bytes h.right
  obtain ⟨ra, rc, rfl, hrc, hrm, _, _⟩ := hrb
  obtain ⟨ba, bc, rfl, hbc, hbm, _, _⟩ := hrd w h.right.right
  unfold maxLen at hrm hbm
  have H0 := hide (own_new 5 1 0 [] h rfl (by decide))
  have S0 := hide ((Str.refl w).alloc (.cells #[] 5))
  have HR0 := hide (RestS.bytes (H0.out.right.right))
  have Hrd := hide hrd
  have Hmv := hide hmv
  have Hok := hide ok
  have q8 : (w.alloc (.cells #[] 5)).cell? ⟨p, 8, Option.none⟩ = some (.slice ra rest.length rc) := cell_of_row _ p 8 _ _ _ (on_blk_mul H0.out.right)
  clear h hrd hmv ok
  go_enter Try.func43, Try.ntmps43
  go_wp2_with (first
    | (at_builtin; refine wpList_append_bytes (F := blk p (.cells (mC22 iv (.slice (some ⟨mg, mo, Option.none⟩) img.length mc) (.slice ra rest.length rc) s) 84 (0, 0)) * (RestS (.slice ra rest.length rc) rest * F)) rfl _ _ 33 rfl 5 hub infoByte _ rest b rfl HO_1.out _ rfl (Hrd.out _ HO_1.out.right.right.right) (by omega) ?_; intro v2 w2 ho2 hs2; obtain ⟨z2, hz2⟩ : ∃ z, z = rest ++ b := ⟨_, rfl⟩; rw [← hz2] at ho2; obtain ⟨a2, c2, rfl, _, _, _, _⟩ := own_value ho2; have HO_2 := hide ho2; have HS_2 := hide (HS_1.out.trans hs2); have HZ_2 := hide hz2; clear ho2 hs2 hz2 HO_1 HS_1)
    | (at_builtin; refine wpList_append_bytes (F := blk p (.cells (mC22 iv (.slice (some ⟨mg, mo, Option.none⟩) img.length mc) (.slice ra rest.length rc) s) 84 (0, 0)) * (RestS (.slice ra rest.length rc) rest * F)) rfl _ _ 33 rfl 5 hub infoByte _ [] rest rfl H0.out _ rfl HR0.out (by simp; omega) ?_; intro v1 w1 ho1 hs1; rw [List.nil_append] at ho1; obtain ⟨a1, c1, rfl, _, _, _, _⟩ := own_value ho1; have HO_1 := hide ho1; have HS_1 := hide (S0.out.trans hs1); clear ho1 hs1 H0 HR0 S0))
  have hzl : z2.length = rest.length + b.length := by rw [HZ_2.out, List.length_append]
  have HL2 := hide (show z2.length ≤ 800000 by omega)
  obtain ⟨E, hE⟩ : ∃ E, E = (partsF z2).flatMap (fun p => partF 70 (p.length + 1) [] p) := ⟨_, rfl⟩
  have HE1 := hide hE.symm
  have HE0 := hide (show E.drop rest.length = (run (run ⟨[], 70, false, false⟩ rest).2 b).1 by rw [hE, HZ_2.out]; exact events_rest 70 rest b)
  have HEl := hide (show E.length = rest.length + b.length by rw [hE, ← run_parts 70 _ z2 (Nat.lt_succ_self _), run_length]; exact hzl)
  obtain ⟨Es, hEs⟩ : ∃ Es, Es = (run (run ⟨[], 70, false, false⟩ rest).2 b).1 := ⟨_, rfl⟩
  have HEk := hide (show ∀ e ∈ Es, e.frame.length ≤ 65536 by rw [hEs]; exact evs_short b _ (run_ok ⟨by decide, Nat.zero_le _⟩ _))
  rw [← hEs] at HE0
  have HEs := hide hEs.symm
  have HPz := hide (show lastP (rest ++ b) = lastP z2 by rw [HZ_2.out])
  obtain ⟨ie, hie, hz9, hsz9, hby9⟩ := info_some infoEv
  have Hie := hide hie
  have Hsz := hide hsz9
  have hele : Try.prog.elem 141 = 144 := by simp [Program.elem, hue]
  have hue' : Try.prog.underlying 141 = some (.slice (Try.prog.elem 141)) := by rw [hele]; exact hue
  have c8 : w2.cell? ⟨p, 8, Option.none⟩ = some (.slice ra rest.length rc) := cell_of_row _ p 8 _ _ _ (on_blk_mul HO_2.out.right)
  have C8 : Hid (∀ X, Stay w2 X → X.cell? ⟨p, 8, Option.none⟩ = some (.slice ra rest.length rc)) := hide fun X hT => stay_cell c8 hT
  clear hE hEs hie hz9 hsz9 hby9 c8 HZ_2 hzl q8
  refine wp_region_vs [isV ((.slice a2 z2.length c2)), fun v X => ∃ L : List (Value × Ev), L.map Prod.snd = E ∧ (Evs v L * (ownR (.slice a2 z2.length c2) z2 * (blk p (.cells (mC22 iv (.slice (some ⟨mg, mo, Option.none⟩) img.length mc) (.slice ra rest.length rc) s) 84 (0, 0)) * (RestS (.slice ra rest.length rc) rest * F)))).on X, isV (.pointer (some ⟨p, 0, Option.none⟩)), isV (.pointer (some ⟨p, 0, Option.none⟩)), isV (.pointer (some ⟨p, 8, Option.none⟩)), isV (.slice ra rest.length rc), isV (.int .i64 ((rest.length : Nat) : Int)), fun v X => ∃ (L : List (Value × Ev)) (out : Value) (a1 : Option Addr) (c1 : Nat), L.map Prod.snd = E ∧ v = .slice a1 (L.length - rest.length) c1 ∧ (Evs out L * (ownR (.slice a2 z2.length c2) z2 * (blk p (.cells (mC22 iv (.slice (some ⟨mg, mo, Option.none⟩) img.length mc) (.slice ra rest.length rc) s) 84 (0, 0)) * (RestS (.slice ra rest.length rc) rest * F)))).on X ∧ ∀ W (G : SP), (Evs out L * G).on W → Lay W a1 (evCells (L.drop rest.length)), isV (.int .i64 ((E.length - rest.length : Nat) : Int)), isV (.int .i64 0)]
    (by kernel_rfl) (by kernel_rfl) rfl ?keep ?todo ?rest
  case keep => exact ⟨Keep.isV _, fun _ _ _ ⟨L, h1, h2⟩ k => ⟨L, h1, SP.on.below h2 k⟩, Keep.isV _, Keep.isV _, Keep.isV _, Keep.isV _, Keep.isV _, fun _ _ _ ⟨L, out, a1, c1, h1, h2, h3, h4⟩ k => ⟨L, out, a1, c1, h1, h2, SP.on.below h3 k, h4⟩, Keep.isV _, Keep.isV _, trivial⟩
  case todo =>
    refine ⟨?_, ?_, ?_, ?_, ?_, ?_, ?_, ?_, ?_, ?_, trivial⟩
    · intro ev X hT hb hk hf
      have e0 : ev (.tmp 4) = (.slice a2 z2.length c2) := hk.1
      exact OpOk.move rfl e0 ⟨rfl, Stay.refl _⟩
    · intro ev X hT hb hk hf
      have e0 : ev (.tmp 16) = (.slice a2 z2.length c2) := hf.1
      refine OpOk.enters (f := 77) (args := #[(.slice a2 z2.length c2), .int .i64 ((70 : Nat) : Int)]) (W' := X) (by simp [execOp, resolve, invoke, e0, hb.1, hb.2.1, go_sem]) ((events_any _ z2 70 (by decide) X (own_bytes (HO_2.out.below hT)) (by have := HL2.out; omega)).mono ?_)
      rintro e X2 ⟨out, L, rfl, hL, ho, hs⟩
      exact ⟨_, rfl, ⟨L, hL.trans HE1.out, on_all_to ho (HO_2.out.below hT)⟩, all_below ho.right hs⟩
    · intro ev X hT hb hk hf
      have e0 : ev (.tmp 0) = .pointer (some ⟨p, 0, Option.none⟩) := hk.1
      exact OpOk.move rfl e0 ⟨rfl, Stay.refl _⟩
    · intro ev X hT hb hk hf
      have e0 : ev (.tmp 18) = .pointer (some ⟨p, 0, Option.none⟩) := hf.1
      exact OpOk.run (v := .pointer (some ⟨p, 0, Option.none⟩)) (W' := X) (by simp [execOp, e0, hb.1, go_sem]) ⟨rfl, Stay.refl _⟩
    · intro ev X hT hb hk hf
      have e0 : ev (.tmp 19) = .pointer (some ⟨p, 0, Option.none⟩) := hf.1
      exact OpOk.run (v := .pointer (some ⟨p, 8, Option.none⟩)) (W' := X) (by simp [execOp, e0, hb.1, go_sem]) ⟨rfl, Stay.refl _⟩
    · intro ev X hT hb hk hf
      have e0 : ev (.tmp 20) = .pointer (some ⟨p, 8, Option.none⟩) := hf.1
      have cW := C8.out X hT
      exact OpOk.run (v := .slice ra rest.length rc) (W' := X) (by simp [execOp, e0, cW, go_sem]) ⟨rfl, Stay.refl _⟩
    · intro ev X hT hb hk hf
      have e0 : ev (.tmp 21) = .slice ra rest.length rc := hf.1
      exact OpOk.run (v := .int .i64 ((rest.length : Nat) : Int)) (W' := X) (by simp [execOp, e0, hb.1, go_sem]) ⟨rfl, Stay.refl _⟩
    · intro ev X hT hb hk hf
      have e0 : ∃ L : List (Value × Ev), L.map Prod.snd = E ∧ (Evs (ev (.tmp 17)) L * (ownR (.slice a2 z2.length c2) z2 * (blk p (.cells (mC22 iv (.slice (some ⟨mg, mo, Option.none⟩) img.length mc) (.slice ra rest.length rc) s) 84 (0, 0)) * (RestS (.slice ra rest.length rc) rest * F)))).on X := hf.1
      have e1 : ev (.tmp 22) = .int .i64 ((rest.length : Nat) : Int) := hf.2.1
      obtain ⟨L, hL, ho⟩ := e0
      obtain ⟨oa, oc, ev0, hoc, hom, hol, _⟩ := Evs.lay ho
      have hrl2 : rest.length ≤ L.length := by have := congrArg List.length hL; rw [List.length_map] at this; have := HEl.out; omega
      obtain ⟨a1, c1, hs1, hs2⟩ := evs_from oa L oc rest.length hrl2 hoc
      refine OpOk.run (v := .slice a1 (L.length - rest.length) c1) (W' := X) ?_ ⟨⟨L, ev (.tmp 17), a1, c1, hL, rfl, ho, fun W G hG => ?_⟩, Stay.refl _⟩
      · unfold execOp
        simp only [e1, ev0, Option.map_some, Option.map_none, Sem.run_bind, Sem.run_pure, Result.andThen_ok]
        rw [run_sliceAt_slice X _ _ _ _ _ hue', run_slice_l X _ oa L.length oc hue' .i64 (rest.length : Int) (by omega) (by omega)]
        simp [sizeOf, typeInfo, hele, Hie.out, Hsz.out, hs1]
      · obtain ⟨oa9, oc9, ev9, _, _, hol9, _⟩ := Evs.lay hG
        rw [ev0] at ev9
        simp only [Value.slice.injEq] at ev9
        obtain ⟨rfl, _, rfl⟩ := ev9
        exact hs2 W hol9
    · intro ev X hT hb hk hf
      have e0 : ∃ (L : List (Value × Ev)) (out : Value) (a1 : Option Addr) (c1 : Nat), L.map Prod.snd = E ∧ (ev (.tmp 23)) = .slice a1 (L.length - rest.length) c1 ∧ (Evs out L * (ownR (.slice a2 z2.length c2) z2 * (blk p (.cells (mC22 iv (.slice (some ⟨mg, mo, Option.none⟩) img.length mc) (.slice ra rest.length rc) s) 84 (0, 0)) * (RestS (.slice ra rest.length rc) rest * F)))).on X ∧ ∀ W (G : SP), (Evs out L * G).on W → Lay W a1 (evCells (L.drop rest.length)) := hf.1
      obtain ⟨L, out, a1, c1, hL, hv, ho, hl⟩ := e0
      have hll : L.length = E.length := by have := congrArg List.length hL; rwa [List.length_map] at this
      exact OpOk.run (v := .int .i64 ((E.length - rest.length : Nat) : Int)) (W' := X) (by simp [execOp, hv, hll, hb.1, go_sem]) ⟨rfl, Stay.refl _⟩
    · intro ev X hT hb hk hf
      exact OpOk.run (v := .int .i64 0) (W' := X) (by simp [execOp, hb.1, go_sem]) ⟨rfl, Stay.refl _⟩
  case rest =>
    intro X hT
    rintro _ rfl _ - _ rfl _ rfl _ rfl _ rfl _ rfl v7 hv7 _ rfl _ rfl
    obtain ⟨L, out, a1, c1, hL, rfl, ho, hlay⟩ := hv7
    have hll : L.length = E.length := by have := congrArg List.length hL; rwa [List.length_map] at this
    have S3 := hide (HS_2.out.trans (Str.below hT))
    have HLd := hide (show (L.drop rest.length).map Prod.snd = Es by rw [← HE0.out, ← hL, List.map_drop])
    have Hlay := hide hlay
    have hn : L.length - rest.length = Es.length := by have := congrArg List.length HLd.out; rwa [List.length_map, List.length_drop] at this
    rw [show E.length - rest.length = Es.length by rw [← hll]; exact hn, hn]
    have H3 := hide (show (blk p (.cells (mC22 iv (.slice (some ⟨mg, mo, Option.none⟩) img.length mc) (.slice ra rest.length rc) s) 84 (0, 0)) * (Evs out L * (ownR (.slice a2 z2.length c2) z2 * (RestS (.slice ra rest.length rc) rest * F)))).on X from by rw [show blk p (.cells (mC22 iv (.slice (some ⟨mg, mo, Option.none⟩) img.length mc) (.slice ra rest.length rc) s) 84 (0, 0)) * (Evs out L * (ownR (.slice a2 z2.length c2) z2 * (RestS (.slice ra rest.length rc) rest * F))) = Evs out L * (ownR (.slice a2 z2.length c2) z2 * (blk p (.cells (mC22 iv (.slice (some ⟨mg, mo, Option.none⟩) img.length mc) (.slice ra rest.length rc) s) 84 (0, 0)) * (RestS (.slice ra rest.length rc) rest * F))) by ac_rfl]; exact ho)
    have HnE := hide (show Es.length = b.length by have := HEl.out; omega)
    have hEb : Es.length ≤ 400000 := by rw [HnE.out]; exact hbl
    clear ho hlay hL hll hn hT HO_2 C8 HE0 HE1 HEl
    go_wp2
    refine Rest.done ?_
    go_wp2_with fail
    go_loopw [25] (fun i wr => ∃ (k : Nat) (u : US), k ≤ Es.length ∧ i = .int .i64 k ∧ u = s.hears img (Es.take k) ∧ (blk p (.cells (mC22 iv (.slice (some ⟨mg, mo, Option.none⟩) img.length mc) (.slice ra rest.length rc) u) 84 (0, 0)) * (Evs out L * (ownR (.slice a2 z2.length c2) z2 * (RestS (.slice ra rest.length rc) rest * F)))).on wr ∧ Str w wr) (fun i _ => Es.length - (intOf i).toNat)
    case atStart => exact ⟨0, s, by omega, rfl, rfl, H3.out, S3.out⟩
    case round =>
      clear H3 S3
      obtain ⟨k, u, hk, rfl, hue, hw, hstr⟩ := hrel
      by_cases hkl : k < Es.length
      · have hkd : k < (L.drop rest.length).length := by have := congrArg List.length HLd.out; rw [List.length_map] at this; omega
        obtain ⟨⟨x, ev⟩, hxe⟩ : ∃ y, (L.drop rest.length)[k]? = some y := ⟨_, List.getElem?_eq_getElem hkd⟩
        have hev : Es[k]? = some ev := by rw [← HLd.out, List.getElem?_map, hxe]; rfl
        have hu2 : s.hears img (Es.take (k + 1)) = if ev.kind = 1 then u.hear img ev.frame else u := by
          rw [List.take_add_one, hev, US.hears_append, ← hue]
          rfl
        have hok : u.Ok img := by rw [hue]; exact US.hears_ok hl _ Hok.out
        obtain ⟨p1, p2, p3⟩ := evCells_get _ k _ _ hxe
        have hly := Hlay.out wr _ (show (Evs out L * (blk p (.cells (mC22 iv (.slice (some ⟨mg, mo, Option.none⟩) img.length mc) (.slice ra rest.length rc) u) 84 (0, 0)) * (ownR (.slice a2 z2.length c2) z2 * (RestS (.slice ra rest.length rc) rest * F)))).on wr from on_swap hw)
        obtain ⟨g1, o1, rfl⟩ : ∃ b off, a1 = some ⟨b, off, Option.none⟩ := by obtain ⟨b, off, e, _⟩ := hly _ _ p1; exact ⟨b, off, e⟩
        have x1 := Lay.cell hly _ p1
        have x2 := Lay.cell hly _ p2
        have x3 := Lay.cell hly _ p3
        simp only [← Nat.add_assoc] at x2 x3
        have hpart : ∀ (j : Nat) (v : Value), (evC x ev)[j]? = some v → wr.cell? ⟨g1, o1 + k * 3 + j, Option.none⟩ = some v := by
          intro j v hj
          match j, hj with
          | 0, hj => cases hj; exact x1
          | 1, hj => cases hj; exact x2
          | 2, hj => cases hj; exact x3
        have hxb : ∀ W, (Evs out L * (ownR (.slice a2 z2.length c2) z2 * (RestS (.slice ra rest.length rc) rest * F))).on W → IsBytes W x ev.frame := by
          intro W hW
          have := (show L[rest.length + k]? = some (x, ev) by rw [← List.getElem?_drop]; exact hxe)
          obtain ⟨_, _, _, _, _, _, h9⟩ := Evs.lay hW
          exact h9 _ _ _ this
        have hfl : ev.frame.length ≤ 65536 := HEk.out ev (List.mem_of_getElem? hev)
        have Hok9 := hide hok
        have Hu2 := hide hu2
        have Hxb := hide hxb
        have h3 := hw.alloc (.cells zcell 144)
        have gA := hide (on_blk_mul h3)
        have H4 := hide (h3.setRow (evC x ev))
        have S4 := hide ((hstr.alloc (.cells zcell 144)).setRow wr.heap.size (evC x ev))
        have HsR := hide (ev_info x ev)
        have Hpart := hide hpart
        have HoR : Hid (((evC x ev).all fun y => y.oneCell') = true) := hide (by obtain ⟨_, _, rfl, _⟩ := hxb _ hw.right; simp [Value.oneCell'])
        have HzS : Hid (zcell.size = (evC x ev).size) := hide rfl
        have hstop : ∀ p : Prop, Hid p → p := fun _ h => h.out
        clear p1 p2 p3 hly x1 x2 x3 hpart hxb hxe hev hu2 hok h3 hw hstr hue
        go_wp2_with (first
          | (refine wpList_load_part rfl _ _ rfl g1 (o1 + k * 3) rfl (evC x ev) _ Hpart.out hur rfl HsR.out ?_)
          | (refine wpList_store_row rfl _ _ _ rfl wr.heap.size (evC x ev) rfl rfl _ _ gA.out HsR.out HzS.out HoR.out ?_; refine hstop _ ?_))
        refine hide ?_
        clear hstop gA Hpart HsR HoR HzS
        generalize (wr.alloc (.cells zcell 144)).setRow wr.heap.size (evC x ev) = W4 at *
        generalize wr.heap.size = g8 at *
        have k0 : W4.cell? ⟨g8, 0, Option.none⟩ = some (.int .i64 (ev.kind : Int)) := cell_of_row W4 g8 0 _ _ _ (on_blk_mul H4.out)
        have k1 : W4.cell? ⟨g8, 1, Option.none⟩ = some x := cell_of_row W4 g8 1 _ _ _ (on_blk_mul H4.out)
        have H5 := hide (on_swap H4.out)
        by_cases hk1 : ev.kind = 1
        · have hQ := hide (mhear_any p iv (.slice ra rest.length rc) u mg mo mc img hl hmc (blk g8 (.cells (evC x ev) 144 (0, 0)) * (Evs out L * (ownR (.slice a2 z2.length c2) z2 * (RestS (.slice ra rest.length rc) rest * F)))) W4 H5.out (fun W hW => Hmv.out W hW.right.right.right.right) Hok9.out x ev.frame (by omega) (fun W hW => Hxb.out W hW.right))
          have Hhe := hide (show s.hears img (Es.take (k + 1)) = u.hear img ev.frame by rw [Hu2.out, if_pos hk1])
          have e1 : (((ev.kind : Nat) : Int) == 1) = true := by rw [hk1]; rfl
          clear H4 H5 hk1
          go_wp2_with fail
          refine hQ.out.mono ?_
          clear hQ
          rintro e w6 ⟨⟨v6, rfl⟩, h6, hs6⟩
          have H6 := hide (show (blk p (.cells (mC22 iv (.slice (some ⟨mg, mo, Option.none⟩) img.length mc) (.slice ra rest.length rc) (u.hear img ev.frame)) 84 (0, 0)) * (Evs out L * (ownR (.slice a2 z2.length c2) z2 * (RestS (.slice ra rest.length rc) rest * F)))).on w6 from SP.le.on (SP.le.mul (SP.le.refl _) (SP.le_right _ _)) h6)
          have S6 := hide (S4.out.trans hs6)
          clear h6 hs6 S4
          go_wp2_with fail
          exact ⟨⟨k + 1, _, by omega, by simp, Hhe.out.symm, H6.out, S6.out⟩, by simp [intOf]; omega⟩
        · have Hhe := hide (show s.hears img (Es.take (k + 1)) = u by rw [Hu2.out, if_neg hk1])
          have e1 : (((ev.kind : Nat) : Int) == 1) = false := by simp only [beq_eq_false_iff_ne, ne_eq]; omega
          have H6 := hide (show (blk p (.cells (mC22 iv (.slice (some ⟨mg, mo, Option.none⟩) img.length mc) (.slice ra rest.length rc) u) 84 (0, 0)) * (Evs out L * (ownR (.slice a2 z2.length c2) z2 * (RestS (.slice ra rest.length rc) rest * F)))).on W4 from SP.le.on (SP.le_right _ _) H4.out)
          clear H4 H5 hk1
          go_wp2_with fail
          exact ⟨⟨k + 1, _, by omega, by simp, Hhe.out.symm, H6.out, S4.out⟩, by simp [intOf]; omega⟩
      · have hjb : k = Es.length := by omega
        subst hjb
        rw [List.take_length] at hue
        have Hue := hide hue
        have H7 := hide (show (ownR (.slice a2 z2.length c2) z2 * (blk p (.cells (mC22 iv (.slice (some ⟨mg, mo, Option.none⟩) img.length mc) (.slice ra rest.length rc) u) 84 (0, 0)) * F)).on wr from by
          rw [SP.mul_left_comm]
          exact SP.le.on (SP.le.mul (SP.le.refl _) (SP.le.trans (SP.le_right _ _) (SP.le.mul (SP.le.refl _) (SP.le_right _ _)))) hw)
        have S7 := hide hstr
        have hP := hide (parts_of _ z2 wr (own_bytes H7.out) (by have := HL2.out; omega))
        have Hpn := hide (partsF_count z2)
        clear hue hw hstr
        go_wp2_with fail
        refine hP.out.mono ?_
        clear hP
        rintro e w8 ⟨pv, rfl, ⟨vals, ho8, hvl, hv1, hvp⟩, hs8⟩
        have hne : 0 < (partsF z2).length := by
          rcases split_192 z2 with h2 | ⟨q2, r2, hq2, h2⟩
          · rw [partsF_none z2 h2]; exact Nat.zero_lt_one
          · rw [hq2, partsF_end q2 r2 h2]; exact Nat.succ_pos _
        have hlast : (partsF z2)[(partsF z2).length - 1]? = some (lastP z2) := by
          unfold lastP
          rw [List.getLast?_eq_getElem?]
          cases hq : (partsF z2)[(partsF z2).length - 1]? with
          | none => rw [List.getElem?_eq_none_iff] at hq; omega
          | some y => rfl
        obtain ⟨rv', hrv⟩ : ∃ y, vals[(partsF z2).length - 1]? = some y := ⟨_, List.getElem?_eq_getElem (by omega)⟩
        have hx := hvp _ _ _ hrv hlast
        obtain ⟨pa, pc, rfl, _, _, hpl, _⟩ := own_value ho8
        obtain ⟨pb, po, rfl⟩ := Lay.isAddr hpl ((partsF z2).length - 1) (by omega)
        have c9 : w8.cell? ⟨pb, po + ((partsF z2).length - 1), Option.none⟩ = some rv' := Lay.cell hpl _ hrv
        have H8 := hide (on_all_to ho8 H7.out)
        have S8 := hide (S7.out.trans hs8)
        have Hx := hide hx
        clear hpl hx hrv hlast hvp hv1 hvl ho8 hs8 H7 S7
        generalize hpn : (partsF z2).length = pn at *
        have epn : ((pn : Int) - 1) = ((pn - 1 : Nat) : Int) := by omega
        generalize hpk : pn - 1 = pk at *
        have hpk2 : pk < pn := by omega
        have hpkb : pk ≤ 1000000 := by have := Hpn.out; have := HL2.out; omega
        have hg := on_blk_mul H8.out.right.right
        have fr := fun j => frozen_of_row w8 p j _ _ hg
        have q8 : w8.cell? ⟨p, 8, Option.none⟩ = some (.slice ra rest.length rc) := cell_of_row w8 p 8 _ _ _ hg
        have hlt := block_lt_of_cell q8
        have hxw := Hx.out w8 (own_bytes H8.out.right)
        obtain ⟨xa, xc, hrx, _, _, _, _⟩ := hxw
        have H9 := hide (show (blk p (.cells (mC22 iv (.slice (some ⟨mg, mo, Option.none⟩) img.length mc) rv' u) 84 (0, 0)) * (ownR (.slice a2 z2.length c2) z2 * F)).on (w8.setCell ⟨p, 8, Option.none⟩ rv') from by
          have h9 := H8.out.right
          rw [SP.mul_left_comm] at h9
          exact h9.setCell (i := 8) rv')
        have S9 := hide (S8.out.setCell ⟨p, 8, Option.none⟩ rv')
        clear H8 S8 hg
        generalize lastP z2 = zl at *
        subst hrx
        go_wp2_with fail
        go_end0
        exact ⟨⟨_, rfl⟩, ⟨_, by rw [HEs.out, ← Hue.out, HPz.out]; exact on_swap (RestS.of Hx.out (on_swap H9.out))⟩, S9.out⟩
end Go.Proofs.Ytjmgnfpcieofkaa
