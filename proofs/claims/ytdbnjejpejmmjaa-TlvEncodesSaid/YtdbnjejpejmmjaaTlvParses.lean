/- The law TlvParses: the items of any bytes, or what is wrong first, are the document's; what is parsed has just these bytes. -/
import Derived.Test.YtdbnjejpejmmjaaTlvLives
import Derived.Test.YtdbnjejpejmmjaaTlvMath
namespace Go.Proofs.Ytdbnjejpejmmjaa
open Go.ChangeShapes Go.WideShapes Go.ChangeAt Go.RowKit
set_option linter.unusedVariables false

theorem IsItems.valLen {L : List (Value × TItem)} {items : List TItem} (h : L.map Prod.snd = items) (hs : ∀ x ∈ items, x.value.length ≤ 200) : ∀ (i : Nat) (u : Value) (e : TItem), L[i]? = some (u, e) → e.value.length ≤ 1000000 := by
  intro i u e he
  have hm : e ∈ items := by
    rw [← h]
    exact List.mem_map.2 ⟨(u, e), List.mem_of_getElem? he, rfl⟩
  have := hs e hm
  omega

theorem bne_u8' {c d : UInt8} (h : ¬c = d) : (((c.toNat : Nat) : Int) == ((d.toNat : Nat) : Int)) = false := by
  rw [beq_eq_false_iff_ne]
  intro e
  exact h (UInt8.toNat_inj.1 (by omega))
set_option maxRecDepth 100000 in
set_option maxHeartbeats 8000000 in
theorem walk_TlvParses (w : World) (v : Value) (b : List UInt8) (hb : IsBytes w v b) (t : Int) (ht1 : 0 ≤ t) (ht2 : t ≤ 255) :
    Calls Try.prog 13 #[v, .int .u8 t] w fun e w' => e = .returned (.bool true) ∧ Below w.heap.size w w' := by
  obtain ⟨tg, rfl⟩ : ∃ tg : UInt8, t = ((tg.toNat : Nat) : Int) := ⟨UInt8.ofNat t.toNat, by simp; omega⟩
  have Hb := hide hb
  obtain ⟨a, c, rfl, hc, hmx, _, _⟩ := hb
  unfold maxLen at hmx
  by_cases hlen : 4000 < b.length
  · go_enter Try.func13, Try.ntmps13
    go_wp2_with fail
    refine (lives11_any _).mono ?_
    rintro e w1 ⟨rfl, hb1⟩
    go_wp2_with fail
    refine (lives11_any _).mono ?_
    rintro e w2 ⟨rfl, hb2⟩
    go_wp2
    go_ret
    exact ⟨rfl, hb1.trans (hb2.mono hb1.size)⟩
  · have hlen2 : b.length ≤ 4000 := by omega
    clear hlen
    have hu := Try.underlying22
    have hsb := Try.underlying5
    have hst := Try.underlying9
    obtain ⟨R, hR⟩ : ∃ R, parseF b.length b 0 [] = R := ⟨_, rfl⟩
    obtain ⟨hshort, hpw⟩ := parse_short hR
    have HR := hide hR
    have Hshort := hide hshort
    have Hpw := hide hpw
    clear hR hshort hpw
    go_enter Try.func13, Try.ntmps13
    go_wp2_with fail
    refine (lives11_any _).mono ?_
    rintro e w1 ⟨rfl, hb1⟩
    have ho0 := own_new (F := all w) 5 1 0 [] ((on_all w).below hb1) rfl (by decide)
    have Ho0 := hide ho0
    have Hv1 := hide ((Hb.out.below hb1).below ((Below.refl _ _).alloc (Nat.le_refl _) (.cells #[] 5)))
    have HB1 := hide hb1
    clear ho0 hb1
    go_wp2_with (at_builtin; refine wpList_append_bytes (F := all w) rfl _ _ 22 rfl 5 hu infoT _ [] b rfl Ho0.out _ rfl Hv1.out (by simp; omega) ?_; intro v2 w2 ho2 hs2)
    rw [List.nil_append] at ho2
    have HB2 : Hid (Below w.heap.size w w2) := hide (all_below ho2.right (((Str.below HB1.out).alloc _).trans hs2))
    have HO2 := hide (own_bytes ho2)
    have HP := hide (tparse_any v2 b w2 HO2.out (by omega))
    rw [HR.out] at HP
    obtain ⟨a2, c2, rfl, _, _, _, _⟩ := own_bytes ho2
    clear ho2 hs2 Ho0 Hv1
    refine HP.out.mono ?_
    rintro e w3 ⟨out, L, rfl, hL, h3, hs3⟩
    have HB23 := hide (all_below h3.right hs3)
    have HB3 := hide (HB2.out.trans (HB23.out.mono HB2.out.size))
    have HI3 := hide (Its.lay h3)
    have HL := hide hL
    have HP2 := hide (rtparse_any _ b w3 (Hb.out.below HB3.out) (by omega))
    rw [HR.out] at HP2
    clear h3 hs3 hL HP
    go_wp2_with fail
    refine HP2.out.mono ?_
    rintro e w4 ⟨out4, L4, rfl, hL4, h4, hs4⟩
    have HB34 := hide (all_below h4.right hs4)
    have HB4 := hide (HB3.out.trans (HB34.out.mono HB3.out.size))
    have HI4 := hide (Its.lay h4)
    have HI34 := hide (HI3.out.below HB34.out)
    have HL4 := hide hL4
    clear h4 hs4 hL4 HP2
    have hLlen : L.length ≤ 4000 := by
      have h1 := congrArg List.length HL.out
      have h2 := parse_count b.length b 0 []
      rw [HR.out] at h2
      rw [List.length_map] at h1
      simp at h2
      omega
    have HS := hide (same11_any _ _ L L4 w4 HI34.out HI4.out (HL.out.trans HL4.out.symm) (by omega))
    obtain ⟨la, lc, rfl, _, _, _, _⟩ := HI34.out
    obtain ⟨la4, lc4, e4, hlc4, hlm4, _, _⟩ := HI4.out
    have hl4 : L4.length = L.length := by have h1 := congrArg List.length HL.out; have h2 := congrArg List.length HL4.out; simp at h1 h2; omega
    rw [hl4] at e4 hlc4
    subst e4
    unfold maxLen at hlm4
    have Hl4 := hide hl4
    clear hl4
    have e1 : ((R.2 : Int) != (R.2 : Int)) = false := by simp
    go_wp2_with fail
    refine HS.out.mono ?_
    rintro e w5 ⟨rfl, hb5⟩
    have HB45 := hide hb5
    have HB5 := hide (HB4.out.trans (hb5.mono HB4.out.size))
    have HO5 := hide (((HO2.out.below HB23.out).below HB34.out).below hb5)
    obtain ⟨oa, oc, eo, hol⟩ := str_of_vals HO5.out
    obtain ⟨va, vc, ev, hvl⟩ := str_of_vals (Hb.out.below HB5.out)
    simp only [Value.slice.injEq] at eo ev
    obtain ⟨rfl, _, rfl⟩ := eo
    obtain ⟨rfl, _, rfl⟩ := ev
    have k1 := run_string_of (P := Try.prog) (w := w5) (c := c2) hu hsb hol _ hst
    have k2 := run_string_of (P := Try.prog) (w := w5) (c := c) hu hsb hvl _ hst
    clear hol hvl hb5
    by_cases hz : R.2 = 0
    · obtain ⟨items, z⟩ := R
      simp only at hz
      subst hz
      simp only at *
      have HI5 := hide (HI34.out.below HB45.out)
      have HI45 := hide (HI4.out.below HB45.out)
      have HE := hide (tencode_any _ L w5 HI5.out (by omega) (IsItems.valLen HL.out Hshort.out))
      rw [HL.out, parse_encode HR.out] at HE
      go_wp2_with fail
      refine HE.out.mono ?_
      rintro e w6 ⟨ag, rfl, ho6, hs6⟩
      have HB56 := hide (all_below ho6.right hs6)
      have HA6 := hide (own_bytes ho6)
      have HF := hide (tfind_any _ L tg w6 (HI5.out.below HB56.out) (by omega) (IsItems.valLen HL.out Hshort.out))
      rw [HL.out] at HF
      clear ho6 hs6 HE
      go_wp2_with fail
      refine HF.out.mono ?_
      rintro e w7 ⟨fv, rfl, ho7, hs7⟩
      have HB67 := hide (all_below ho7.right hs7)
      have HB7 := hide (((HB5.out.trans (HB56.out.mono HB5.out.size))).trans (HB67.out.mono (Nat.le_trans HB5.out.size HB56.out.size)))
      have HF7 := hide (own_bytes ho7)
      have HA7 := hide (HA6.out.below HB67.out)
      have HI7 := hide ((HI45.out.below HB56.out).below HB67.out)
      clear ho7 hs7 HF
      go_wp2_with fail
      have HK := hide (fun k (hk : k ≤ L.length) => lastK_find tg items Hpw.out k (by have := congrArg List.length HL.out; simp at this; omega))
      go_loopw [14, 15, 70] (fun wv iv i wr => ∃ k : Nat, k ≤ L.length ∧ i = .int .i64 k ∧ iv = .bool (lastK tg items k).2 ∧ IsBytes wr wv (lastK tg items k).1 ∧ Below w7.heap.size w7 wr) (fun _ _ i _ => L.length - (intOf i).toNat)
      case atStart => exact ⟨0, by omega, rfl, rfl, IsBytes.nil _, Below.refl _ _⟩
      case round =>
        obtain ⟨k, hk, rfl, rfl, hwv, hB⟩ := hrel
        by_cases hkl : k < L.length
        · obtain ⟨⟨u, x⟩, hku⟩ : ∃ y, L4[k]? = some y := ⟨_, List.getElem?_eq_getElem (by rw [Hl4.out]; exact hkl)⟩
          have hik : items[k]? = some x := by rw [← HL4.out, List.getElem?_map, hku]; rfl
          obtain ⟨xa, xc, ex, hxc, hxm, hla, hin⟩ := HI7.out.below hB
          rw [Hl4.out] at ex
          simp only [Value.slice.injEq] at ex
          obtain ⟨rfl, _, rfl⟩ := ex
          obtain ⟨p1, p2⟩ := itCells_get L4 k u x hku
          obtain ⟨bg, bo, rfl⟩ : ∃ b off, la4 = some ⟨b, off, Option.none⟩ := by obtain ⟨b, off, e, _⟩ := hla _ _ p1; exact ⟨b, off, e⟩
          have q1 := Lay.cell hla _ p1
          have q2 := Lay.cell hla _ p2
          have hbx := hin _ _ _ hku
          have HB := hide hB
          have Hwv := hide hwv
          have Hbx := hide hbx
          obtain ⟨wa, wc, rfl, _, _, _, _⟩ := hwv
          obtain ⟨ua, uc, rfl, _, _, _, _⟩ := hbx
          have hs1 : lastK tg items (k + 1) = if x.tag = tg then (x.value, true) else lastK tg items k := by simp only [lastK, hik]
          have HS1 := hide hs1
          have eoff : bo + k * 2 + 1 = bo + (k * 2 + 1) := by omega
          obtain ⟨xt, xv⟩ := x
          simp only at *
          clear hB hla hin hik hku p1 p2 hs1
          by_cases hxt : xt = tg
          · subst hxt
            have HSS := HS1.out
            rw [if_pos rfl] at HSS
            have HSS2 := hide HSS
            clear HSS
            go_wp2_with fail
            refine ⟨⟨k + 1, by omega, by simp, by rw [HSS2.out], ?_, HB.out.trans ((Below.refl _ _).alloc HB.out.size _)⟩, by simp [intOf]; omega⟩
            rw [HSS2.out]
            exact Hbx.out.below ((Below.refl _ _).alloc (Nat.le_refl _) _)
          · have e4 : (((xt.toNat : Nat) : Int) == ((tg.toNat : Nat) : Int)) = false := bne_u8' hxt
            have HSS := HS1.out
            rw [if_neg hxt] at HSS
            have HSS2 := hide HSS
            clear HSS hxt
            go_wp2_with fail
            refine ⟨⟨k + 1, by omega, by simp, by rw [HSS2.out], ?_, HB.out.trans ((Below.refl _ _).alloc HB.out.size _)⟩, by simp [intOf]; omega⟩
            rw [HSS2.out]
            exact Hwv.out.below ((Below.refl _ _).alloc (Nat.le_refl _) _)
        · have hkb : k = L.length := by omega
          have hil : items.length = L.length := by have := congrArg List.length HL.out; simpa using this.symm
          have hfin := HK.out k hk
          rw [hkb, ← hil, List.take_length, hil, ← hkb] at hfin
          have Hwv := hide hwv
          have HBf := hide (HB7.out.trans (hB.mono HB7.out.size))
          rw [hfin]
          rw [hfin] at Hwv
          obtain ⟨aa, ac, rfl, hal⟩ := str_of_vals (HA7.out.below hB)
          obtain ⟨fa, fc, rfl, hfl⟩ := str_of_vals (HF7.out.below hB)
          obtain ⟨wa, wc, rfl, hwl⟩ := str_of_vals Hwv.out
          obtain ⟨va, vc, ev, hvl⟩ := str_of_vals (Hb.out.below HBf.out)
          simp only [Value.slice.injEq] at ev
          obtain ⟨rfl, _, rfl⟩ := ev
          have j1 := run_string_of (P := Try.prog) (w := wr) (c := ac) hu hsb hal _ hst
          have j2 := run_string_of (P := Try.prog) (w := wr) (c := fc) hu hsb hfl _ hst
          have j3 := run_string_of (P := Try.prog) (w := wr) (c := wc) hu hsb hwl _ hst
          have j4 := run_string_of (P := Try.prog) (w := wr) (c := c) hu hsb hvl _ hst
          clear hwv hB hal hfl hwl hvl hfin hil
          generalize (findR tg items) = fr at *
          obtain ⟨fl, fb⟩ := fr
          simp only at *
          subst hkb
          cases fb
          all_goals
            go_wp2_with fail
            go_ret
            exact ⟨rfl, HBf.out⟩
    · have e3 : ((R.2 : Int) != 0) = true := by simp; omega
      clear hz
      go_wp2_with fail
      go_ret
      exact ⟨rfl, HB5.out⟩
namespace lawTlvParses
theorem own : ownKnob Try.prog.godebug = Option.none := by kernel_rfl
theorem laidOut : laidOutB Try.prog = true := by kernel_rfl
set_option maxRecDepth 100000 in
theorem lifted (os : Os) (started : os.Started) (H : Type) (enc : TypeId × Value → H) :
    ReturnsInHanded {} Try.checked os 13 .any (Rows.tlvParsesSpec.pre6 enc Try.prog Try.f13 Rows.tlvParsesRow.domain false) (Rows.tlvParsesSpec.post enc Try.prog Try.f13 false true false false) := by
  refine returnsInHanded_of_change_sized (C := Try.checked) own started (by kernel_rfl) Try.func13
    (ChangeSpec.witness6 (enc := enc) (C := Try.checked) false ⟨#[], #[.slice Option.none 0 0, .int .u8 0], []⟩ 8 (by kernel_rfl) (by kernel_rfl) (by kernel_rfl) (by kernel_rfl)) ?_
  intro W base args ds gs before hval0 hW hcnd hsz _
  have hval : ∀ (j : Nat) t v, Try.f13.params[j]? = some t → args[j]? = some v → Value.okWide Try.prog W .any base t v := hval0
  have hW' := hW
  obtain ⟨p, q, hA0, hV, rfl, hfz, hnd⟩ := hW
  have hA : DataW.TrodAll enc Try.prog W 0 (fun _ => true) true Try.f13.params.toList args.toList ds p := hA0
  rw [Try.params13] at hA hval
  obtain ⟨v0, vs0, d0, ds0, p0, q0, hargs, rfl, rfl, h0, r0⟩ := trodAll_cons hA
  obtain ⟨v1, vs1, d1, ds1, p1, q1, rfl, rfl, rfl, h1, r1⟩ := trodAll_cons r0
  obtain ⟨rfl, rfl, rfl⟩ := trodAll_nil r1
  obtain rfl : args = #[v0, v1] := by cases args; simp_all
  obtain ⟨rfl, rfl⟩ := trodVars_none hV
  have k0 := h0
  have lt0 : ∀ x ∈ p0, x.block < W.heap.size := by obtain ⟨m, hm⟩ := k0; exact DataW.trod_lt m _ _ _ hm
  obtain ⟨l0, b0, n0⟩ := open_bytes Try.underlying22 Try.underlying5 (by kernel_rfl) (hval 0 22 v0 rfl rfl) h0
  have k1 := h1
  have lt1 : ∀ x ∈ p1, x.block < W.heap.size := by obtain ⟨m, hm⟩ := k1; exact DataW.trod_lt m _ _ _ hm
  obtain ⟨a1, rfl, rfl, rfl, w1⟩ := open_int Try.underlying5 (hval 1 5 v1 rfl rfl) h1
  obtain ⟨l1, u1⟩ := wf_u8 w1
  clear hA0 hval0 hsz
  refine (walk_TlvParses W v0 l0 b0 a1 l1 u1).mono fun e W' ⟨he, bel⟩ => ?_
  subst he
  exact ⟨_, rfl, _, _, _, [], _, [], hW', trodAll_mk1 (shut_bool Try.underlying4 _), (trodAll_cons_mk (Below.trod laidOut (by kernel_rfl) (of_decide_eq_true (by kernel_rfl)) k0 bel lt0) (trodAll_cons_mk (shut_int Try.underlying5 w1) trodAll_mk0)), rfl, bel.frame _, fun h => by cases h⟩

theorem over : Rows.tlvParsesRow.holds Try.pinned (OpenSpec.ofChange Rows.tlvParsesSpec) :=
  OpenClaim.holds_of_wide 13 Try.f13 rfl rfl rfl rfl rfl rfl rfl ⟨rfl, rfl, rfl, rfl, rfl⟩ rfl rfl rfl rfl rfl (by kernel_rfl) Try.func13 (by kernel_rfl)
    (of_decide_eq_true (by kernel_rfl)) (by unfold Func.isWrapper; first | (rw [if_pos (by decide +kernel)]; kernel_rfl) | (rw [if_neg (by decide +kernel)]; exact ⟨rfl, rfl⟩))
    (fun os started H enc _ => lifted os started H enc)

theorem proved : Rows.TlvParsesSaid := over
end lawTlvParses
end Go.Proofs.Ytdbnjejpejmmjaa
