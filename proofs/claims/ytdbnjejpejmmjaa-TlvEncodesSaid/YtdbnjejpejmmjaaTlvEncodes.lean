/- The law TlvEncodes: any items as bytes, or what is wrong first, are the document's; they are parsed to them; the first of a tag is found. -/
import Derived.Test.YtdbnjejpejmmjaaTlvParses
import Derived.Test.YtdbnjejpejmmjaaTlvMath2
import Derived.Test.YtdbnjejpejmmjaaTlvOpen
namespace Go.Proofs.Ytdbnjejpejmmjaa
open Go.ChangeShapes Go.WideShapes Go.ChangeAt Go.RowKit
set_option linter.unusedVariables false

/-- the items, so far, in a row of one's own; their values where they were -/
def ItemsAt (w : World) (L : List (Value × TItem)) (k : Nat) (v : Value) (wr : World) : Prop := (own 74 2 v k (itCells (L.take k)) * all w).on wr ∧ Str w wr
theorem itCells_len (L : List (Value × TItem)) : (itCells L).length = L.length * 2 := by
  induction L with
  | nil => rfl
  | cons y t ih => simp only [itCells, List.flatMap_cons, List.length_append, List.length_cons, List.length_nil] at ih ⊢; omega
theorem itCells_take (L : List (Value × TItem)) (k : Nat) (u : Value) (x : TItem) (h : L[k]? = some (u, x)) : itCells (L.take (k + 1)) = itCells (L.take k) ++ [vb x.tag, u] := by
  obtain ⟨hk, he⟩ := List.getElem?_eq_some_iff.1 h
  rw [List.take_succ_eq_append_getElem hk, itCells_snoc, he]

set_option maxRecDepth 100000 in
set_option maxHeartbeats 16000000 in
theorem walk_TlvEncodes (w : World) (v : Value) (L : List (Value × TItem)) (hI : IsItems w v L) (t : Int) (ht1 : 0 ≤ t) (ht2 : t ≤ 255) :
    Calls Try.prog 14 #[v, .int .u8 t] w fun e w' => e = .returned (.bool true) ∧ Below w.heap.size w w' := by
  obtain ⟨tg, rfl⟩ : ∃ tg : UInt8, t = ((tg.toNat : Nat) : Int) := ⟨UInt8.ofNat t.toNat, by simp; omega⟩
  have HI := hide hI
  obtain ⟨a, c, rfl, hc, hmx, _, _⟩ := hI
  unfold maxLen at hmx
  by_cases hlen : 30 < L.length
  · go_enter Try.func14, Try.ntmps14
    go_wp2_with fail
    refine (lives11_any _).mono ?_
    rintro e w1 ⟨rfl, hb1⟩
    go_wp2_with fail
    refine (lives11_any _).mono ?_
    rintro e w2 ⟨rfl, hb2⟩
    go_wp2
    go_ret
    exact ⟨rfl, hb1.trans (hb2.mono hb1.size)⟩
  · have hlen2 : L.length ≤ 30 := by omega
    clear hlen
    have hu := Try.underlying22
    have hsb := Try.underlying5
    have hst := Try.underlying9
    obtain ⟨ie, hie, hz, hsz, hby⟩ := info_some infoRItem
    have hue := Try.underlying66
    have Hie := hide hie
    have Hz := hide hz
    have Hsz := hide hsz
    have Hby := hide hby
    clear hie hz hsz hby
    go_enter Try.func14, Try.ntmps14
    go_wp2_with fail
    refine (lives11_any _).mono ?_
    rintro e w1 ⟨rfl, hb1⟩
    have HB1 := hide hb1
    have HI1 := hide (HI.out.below hb1)
    clear hb1
    go_wp2_with fail
    go_loopw [5, 28] (fun mv i wr => ∃ k : Nat, k ≤ L.length ∧ i = .int .i64 k ∧ (∀ (j : Nat) (u : Value) (x : TItem), j < k → L[j]? = some (u, x) → x.value.length ≤ 400) ∧ ItemsAt w1 L k mv wr) (fun _ i _ => L.length - (intOf i).toNat)
    case atStart => exact ⟨0, by omega, rfl, fun j u x h => by omega, own_nil _ 2 (on_all w1), Str.refl _⟩
    case round =>
      obtain ⟨k, hk, rfl, hsh, hown, hstr⟩ := hrel
      have hB := all_below hown.right hstr
      obtain ⟨oa, oc, rfl, _, _, _, _⟩ := own_value hown
      by_cases hkl : k < L.length
      · obtain ⟨⟨u, x⟩, hku⟩ : ∃ y, L[k]? = some y := ⟨_, List.getElem?_eq_getElem hkl⟩
        obtain ⟨_, _, ex, _, _, hla, hin⟩ := HI1.out.below hB
        simp only [Value.slice.injEq] at ex
        obtain ⟨rfl, _, rfl⟩ := ex
        obtain ⟨p1, p2⟩ := itCells_get L k u x hku
        obtain ⟨bg, bo, rfl⟩ : ∃ b off, a = some ⟨b, off, Option.none⟩ := by obtain ⟨b, off, e, _⟩ := hla _ _ p1; exact ⟨b, off, e⟩
        have q1 := Lay.cell hla _ p1
        have q2 := Lay.cell hla _ p2
        have hbx := hin _ _ _ hku
        have HTK := hide (itCells_take L k u x hku)
        obtain ⟨ua, uc, rfl, _, _, _, _⟩ := hbx
        have eoff : bo + k * 2 + 1 = bo + (k * 2 + 1) := by omega
        by_cases hbig : 400 < x.value.length
        · have HBn := hide (HB1.out.trans (hB.mono HB1.out.size))
          clear hB hsh hown hstr hla hin p1 p2
          go_wp2_with fail
          go_ret
          exact ⟨rfl, HBn.out.trans ((Below.refl _ _).alloc HBn.out.size _)⟩
        · have Hsh := hide (show ∀ (j : Nat) (u : Value) (x : TItem), j < k + 1 → L[j]? = some (u, x) → x.value.length ≤ 400 from fun j u' x' hj hju => by
            by_cases hjk : j = k
            · subst hjk; rw [hku] at hju; simp at hju; obtain ⟨_, rfl⟩ := hju; omega
            · exact hsh j u' x' (by omega) hju)
          have Hown := hide (SP.on.alloc' (w := wr.alloc (.cells #[vb x.tag, .slice ua x.value.length uc] 76)) (SP.on.alloc' hown (.cells #[vb x.tag, .slice ua x.value.length uc] 76)) (.cells #[vb x.tag, .slice ua x.value.length uc] 74))
          have Hs2 := hide ((hstr.alloc (.cells #[vb x.tag, .slice ua x.value.length uc] 76)).alloc (.cells #[vb x.tag, .slice ua x.value.length uc] 74))
          have hlay := Lay.new (wr.alloc (.cells #[vb x.tag, .slice ua x.value.length uc] 76)) [vb x.tag, .slice ua x.value.length uc] 74
          simp only [World.size_alloc] at hlay
          have Hlay := hide hlay
          clear hB hsh hown hstr hla hin p1 p2 hku hlay
          go_wp2_with (at_builtin; refine wpList_append_sp (F := all w1) rfl _ _ 66 rfl 74 ie _ 2 32 hue Hie.out Hz.out Hsz.out Hby.out rfl (by decide) _ k (itCells (L.take k)) rfl Hown.out _ 1 1 [vb x.tag, .slice ua x.value.length uc] rfl (by simp) rfl Hlay.out (by intro u hu; simp at hu; rcases hu with rfl | rfl <;> rfl) (by unfold maxLen; omega) (by omega) ?_; intro v3 w3 ho3 hs3)
          exact ⟨⟨k + 1, by omega, by simp, Hsh.out, by rw [HTK.out]; exact ho3, Hs2.out.trans hs3⟩, by simp [intOf]; omega⟩
      · have hkb : k = L.length := by omega
        subst hkb
        rw [List.take_length] at hown
        have HM1 : Hid (IsItems wr (.slice oa L.length oc) L) := hide (by
          obtain ⟨a', c', e, h1, h2, h3, _⟩ := own_value hown
          obtain ⟨_, _, _, _, _, _, hin⟩ := HI1.out.below hB
          exact ⟨a', c', e, h1, h2, h3, hin⟩)
        have hvl : ∀ (i : Nat) (u : Value) (e : TItem), L[i]? = some (u, e) → e.value.length ≤ 1000000 := fun i u e he => by
          have := hsh i u e (List.getElem?_eq_some_iff.1 he).1 he
          omega
        have hbyl : (encodeF 0 0 (L.map Prod.snd) []).1.length ≤ 402 * L.length := by
          have := encodeF_len (L.map Prod.snd) 0 0 [] (fun x hx => by
            obtain ⟨⟨u, x'⟩, hm, rfl⟩ := List.mem_map.1 hx
            obtain ⟨i, hi, he⟩ := List.getElem_of_mem hm
            exact hsh i u x' hi (by rw [List.getElem?_eq_getElem hi, he]))
          simpa using this
        have Hvl := hide hvl
        have HBa := hide (HB1.out.trans (hB.mono HB1.out.size))
        have HI2 := hide (HI1.out.below hB)
        have HE := hide (tencode_any _ L wr HI2.out (by omega) Hvl.out)
        obtain ⟨R, hR⟩ : ∃ R, encodeF 0 0 (L.map Prod.snd) [] = R := ⟨_, rfl⟩
        rw [hR] at HE hbyl
        have HR := hide hR
        clear hR hvl hsh hown hstr hB
        go_wp2_with fail
        refine HE.out.mono ?_
        rintro e w2 ⟨bv, rfl, ho2, hs2⟩
        have HB2 := hide (all_below ho2.right hs2)
        have HBb := hide (HBa.out.trans (HB2.out.mono HBa.out.size))
        have HBY2 := hide (own_bytes ho2)
        have HM2 := hide (HM1.out.below HB2.out)
        have HE2 := hide (rtencode_any _ L w2 HM2.out (by omega) Hvl.out)
        rw [HR.out] at HE2
        clear ho2 hs2 HE
        go_wp2_with fail
        refine HE2.out.mono ?_
        rintro e w3 ⟨cv, rfl, ho3, hs3⟩
        have HB3 := hide (all_below ho3.right hs3)
        have HBc := hide (HBb.out.trans (HB3.out.mono HBb.out.size))
        have HBY3 := hide (HBY2.out.below HB3.out)
        have HM3 := hide (HM2.out.below HB3.out)
        have HI3 := hide ((HI2.out.below HB2.out).below HB3.out)
        have HF := hide (tfind_any _ L tg w3 HI3.out (by omega) Hvl.out)
        obtain ⟨ca, cc, rfl, hcl⟩ := str_of_vals (own_bytes ho3)
        obtain ⟨ba, bc, rfl, hbl⟩ := str_of_vals HBY3.out
        have e1 : ((R.2 : Int) != (R.2 : Int)) = false := by simp
        have k1 := run_string_of (P := Try.prog) (w := w3) (c := cc) hu hsb hcl _ hst
        have k2 := run_string_of (P := Try.prog) (w := w3) (c := bc) hu hsb hbl _ hst
        clear ho3 hs3 HE2 hcl hbl
        go_wp2_with fail
        refine HF.out.mono ?_
        rintro e w4 ⟨fv, rfl, ho4, hs4⟩
        have HB4 := hide (all_below ho4.right hs4)
        have HBd := hide (HBc.out.trans (HB4.out.mono HBc.out.size))
        have HBY := hide (HBY3.out.below HB4.out)
        have HM := hide (HM3.out.below HB4.out)
        have HI4 := hide (HI3.out.below HB4.out)
        have HFV := hide (own_bytes ho4)
        clear ho4 hs4 HF k1 k2 e1
        generalize hfr : findR tg (L.map Prod.snd) = fr at *
        have Hfr := hide hfr
        clear hfr
        obtain ⟨fl, fb⟩ := fr
        simp only at *
        go_wp2_with fail
        go_loopw [13, 73] (fun okv i wr => ∃ k : Nat, k ≤ L.length ∧ i = .int .i64 k ∧ okv = .bool fb ∧ findR tg ((L.map Prod.snd).drop k) = (fl, fb) ∧ Below w4.heap.size w4 wr) (fun _ i _ => L.length - (intOf i).toNat)
        case atStart => exact ⟨0, by omega, rfl, rfl, by simpa using Hfr.out, Below.refl _ _⟩
        case round =>
          obtain ⟨k, hk, rfl, rfl, he, hB⟩ := hrel
          have HBR := hide hB
          have HBF := hide (HBd.out.trans (hB.mono HBd.out.size))
          by_cases hkl : k < L.length
          · obtain ⟨⟨u, x⟩, hku⟩ : ∃ y, L[k]? = some y := ⟨_, List.getElem?_eq_getElem hkl⟩
            have hdrop : (L.map Prod.snd).drop k = x :: (L.map Prod.snd).drop (k + 1) := by
              rw [List.drop_eq_getElem_cons (by simpa using hkl)]
              congr 1
              rw [List.getElem_map, (List.getElem?_eq_some_iff.1 hku).2]
            rw [hdrop] at he
            obtain ⟨_, _, ex, _, _, hla, hin⟩ := HI4.out.below hB
            simp only [Value.slice.injEq] at ex
            obtain ⟨rfl, _, rfl⟩ := ex
            obtain ⟨p1, p2⟩ := itCells_get L k u x hku
            obtain ⟨bg, bo, rfl⟩ : ∃ b off, a = some ⟨b, off, Option.none⟩ := by obtain ⟨b, off, e, _⟩ := hla _ _ p1; exact ⟨b, off, e⟩
            have q1 := Lay.cell hla _ p1
            have q2 := Lay.cell hla _ p2
            obtain ⟨ua, uc, rfl, hul⟩ := str_of_vals (hin _ _ _ hku)
            obtain ⟨xt, xv⟩ := x
            simp only at *
            have eoff : bo + k * 2 + 1 = bo + (k * 2 + 1) := by omega
            have hBn : Below wr.heap.size wr (wr.alloc (.cells #[vb xt, .slice ua xv.length uc] 76)) := (Below.refl _ _).alloc (Nat.le_refl _) _
            have hul2 := hul.below hBn
            clear p1 p2 hla hin hku hdrop
            by_cases hxt : xt = tg
            · subst hxt
              have he2 : (xv, true) = (fl, fb) := by rw [← he]; simp [findR, findF]
              simp only [Prod.mk.injEq] at he2
              obtain ⟨rfl, rfl⟩ := he2
              obtain ⟨fa, fc, rfl, hfl⟩ := str_of_vals ((HFV.out.below hB).below hBn)
              have j1 := run_string_of (P := Try.prog) (w := wr.alloc (.cells #[vb xt, .slice ua xv.length uc] 76)) (c := fc) hu hsb hfl _ hst
              have j2 := run_string_of (P := Try.prog) (w := wr.alloc (.cells #[vb xt, .slice ua xv.length uc] 76)) (c := uc) hu hsb hul2 _ hst
              have HBR := hide (HBR.out.trans (hBn.mono HBR.out.size))
              have HBF := hide (HBF.out.trans (hBn.mono HBF.out.size))
              clear hul hul2 hfl hB hBn he
              by_cases hz : R.2 = 0
              · have HPa := hide (tparse_any _ R.1 _ (HBY.out.below HBR.out) (by omega))
                rw [encode_parse (items := L.map Prod.snd) (by rw [HR.out]; exact Prod.ext rfl hz)] at HPa
                have e3 : ((R.2 : Int) != 0) = false := by simp; omega
                clear hz
                go_wp2_with fail
                refine HPa.out.mono ?_
                rintro e w9 ⟨out9, L9, rfl, hL9, h9, hs9⟩
                have hl9 : L9.length = L.length := by have := congrArg List.length hL9; simpa using this
                have HB9 := hide (all_below h9.right hs9)
                have HSm := hide (same11_any out9 _ L9 L w9 (Its.lay h9) ((HM.out.below HBR.out).below HB9.out) hL9 (by omega))
                have HBn := hide (HBF.out.trans (HB9.out.mono HBF.out.size))
                obtain ⟨o9a, o9c, rfl, _, _, _, _⟩ := Its.lay h9
                clear h9 hs9 hL9 hl9
                go_wp2_with fail
                refine HSm.out.mono ?_
                rintro e w10 ⟨rfl, hb10⟩
                go_wp2_with fail
                go_ret
                exact ⟨rfl, HBn.out.trans (hb10.mono HBn.out.size)⟩
              · have hbs : R.1.length = 0 := by rw [← HR.out, encodeF_err _ _ _ _ (by rw [HR.out]; exact hz)]; rfl
                have e3 : ((R.2 : Int) != 0) = true := by simp; omega
                have e4 : (((R.1.length : Nat) : Int) == 0) = true := by rw [hbs]; rfl
                clear hz hbs
                go_wp2_with fail
                go_ret
                exact ⟨rfl, HBF.out⟩
            · have e4 : (((xt.toNat : Nat) : Int) == ((tg.toNat : Nat) : Int)) = false := bne_u8' hxt
              have HE5 : Hid (findR tg ((L.map Prod.snd).drop (k + 1)) = (fl, fb)) := hide (by rw [← he]; simp [findR, findF, hxt])
              have HBR2 := hide (HBR.out.trans (hBn.mono HBR.out.size))
              clear hul hul2 hB hBn he hxt
              go_wp2_with fail
              exact ⟨⟨k + 1, by omega, by simp, rfl, HE5.out, HBR2.out⟩, by simp [intOf]; omega⟩
          · have hkb : k = L.length := by omega
            subst hkb
            rw [List.drop_of_length_le (by simp)] at he
            have he2 : (([] : List UInt8), false) = (fl, fb) := by rw [← he]; rfl
            simp only [Prod.mk.injEq] at he2
            obtain ⟨rfl, rfl⟩ := he2
            clear hB he
            by_cases hz : R.2 = 0
            · have HPa := hide (tparse_any _ R.1 _ (HBY.out.below HBR.out) (by omega))
              rw [encode_parse (items := L.map Prod.snd) (by rw [HR.out]; exact Prod.ext rfl hz)] at HPa
              have e3 : ((R.2 : Int) != 0) = false := by simp; omega
              clear hz
              go_wp2_with fail
              refine HPa.out.mono ?_
              rintro e w9 ⟨out9, L9, rfl, hL9, h9, hs9⟩
              have hl9 : L9.length = L.length := by have := congrArg List.length hL9; simpa using this
              have HB9 := hide (all_below h9.right hs9)
              have HSm := hide (same11_any out9 _ L9 L w9 (Its.lay h9) ((HM.out.below HBR.out).below HB9.out) hL9 (by omega))
              have HBn := hide (HBF.out.trans (HB9.out.mono HBF.out.size))
              obtain ⟨o9a, o9c, rfl, _, _, _, _⟩ := Its.lay h9
              clear h9 hs9 hL9 hl9
              go_wp2_with fail
              refine HSm.out.mono ?_
              rintro e w10 ⟨rfl, hb10⟩
              go_wp2_with fail
              go_ret
              exact ⟨rfl, HBn.out.trans (hb10.mono HBn.out.size)⟩
            · have hbs : R.1.length = 0 := by rw [← HR.out, encodeF_err _ _ _ _ (by rw [HR.out]; exact hz)]; rfl
              have e3 : ((R.2 : Int) != 0) = true := by simp; omega
              have e4 : (((R.1.length : Nat) : Int) == 0) = true := by rw [hbs]; rfl
              clear hz hbs
              go_wp2_with fail
              go_ret
              exact ⟨rfl, HBF.out⟩
namespace lawTlvEncodes
theorem own : ownKnob Try.prog.godebug = Option.none := by kernel_rfl
theorem laidOut : laidOutB Try.prog = true := by kernel_rfl
set_option maxRecDepth 100000 in
theorem lifted (os : Os) (started : os.Started) (H : Type) (enc : TypeId × Value → H) :
    ReturnsInHanded {} Try.checked os 14 .any (Rows.tlvEncodesSpec.pre6 enc Try.prog Try.f14 Rows.tlvEncodesRow.domain false) (Rows.tlvEncodesSpec.post enc Try.prog Try.f14 false true false false) := by
  refine returnsInHanded_of_change_sized (C := Try.checked) own started (by kernel_rfl) Try.func14
    (ChangeSpec.witness6 (enc := enc) (C := Try.checked) false ⟨#[], #[.slice Option.none 0 0, .int .u8 0], []⟩ 8 (by kernel_rfl) (by kernel_rfl) (by kernel_rfl) (by kernel_rfl)) ?_
  intro W base args ds gs before hval0 hW hcnd hsz _
  have hval : ∀ (j : Nat) t v, Try.f14.params[j]? = some t → args[j]? = some v → Value.okWide Try.prog W .any base t v := hval0
  have hW' := hW
  obtain ⟨p, q, hA0, hV, rfl, hfz, hnd⟩ := hW
  have hA : DataW.TrodAll enc Try.prog W 0 (fun _ => true) true Try.f14.params.toList args.toList ds p := hA0
  rw [Try.params14] at hA hval
  obtain ⟨v0, vs0, d0, ds0, p0, q0, hargs, rfl, rfl, h0, r0⟩ := trodAll_cons hA
  obtain ⟨v1, vs1, d1, ds1, p1, q1, rfl, rfl, rfl, h1, r1⟩ := trodAll_cons r0
  obtain ⟨rfl, rfl, rfl⟩ := trodAll_nil r1
  obtain rfl : args = #[v0, v1] := by cases args; simp_all
  obtain ⟨rfl, rfl⟩ := trodVars_none hV
  have k0 := h0
  have lt0 : ∀ x ∈ p0, x.block < W.heap.size := by obtain ⟨m, hm⟩ := k0; exact DataW.trod_lt m _ _ _ hm
  obtain ⟨l0, b0⟩ := open_items Try.underlying63 Try.underlying76 (by kernel_rfl) (by kernel_rfl) rfl (by kernel_rfl) (by kernel_rfl) rfl (by kernel_rfl) Try.underlying5 (by kernel_rfl) (hval 0 63 v0 rfl rfl) h0
  have k1 := h1
  have lt1 : ∀ x ∈ p1, x.block < W.heap.size := by obtain ⟨m, hm⟩ := k1; exact DataW.trod_lt m _ _ _ hm
  obtain ⟨a1, rfl, rfl, rfl, w1⟩ := open_int Try.underlying5 (hval 1 5 v1 rfl rfl) h1
  obtain ⟨l1, u1⟩ := wf_u8 w1
  clear hA0 hval0 hsz
  refine (walk_TlvEncodes W v0 l0 b0 a1 l1 u1).mono fun e W' ⟨he, bel⟩ => ?_
  subst he
  exact ⟨_, rfl, _, _, _, [], _, [], hW', trodAll_mk1 (shut_bool Try.underlying4 _), (trodAll_cons_mk (Below.trod laidOut (by kernel_rfl) (of_decide_eq_true (by kernel_rfl)) k0 bel lt0) (trodAll_cons_mk (shut_int Try.underlying5 w1) trodAll_mk0)), rfl, bel.frame _, fun h => by cases h⟩

theorem over : Rows.tlvEncodesRow.holds Try.pinned (OpenSpec.ofChange Rows.tlvEncodesSpec) :=
  OpenClaim.holds_of_wide 14 Try.f14 rfl rfl rfl rfl rfl rfl rfl ⟨rfl, rfl, rfl, rfl, rfl⟩ rfl rfl rfl rfl rfl (by kernel_rfl) Try.func14 (by kernel_rfl)
    (of_decide_eq_true (by kernel_rfl)) (by unfold Func.isWrapper; first | (rw [if_pos (by decide +kernel)]; kernel_rfl) | (rw [if_neg (by decide +kernel)]; exact ⟨rfl, rfl⟩))
    (fun os started H enc _ => lifted os started H enc)

theorem proved : Rows.TlvEncodesSaid := over
end lawTlvEncodes
end Go.Proofs.Ytdbnjejpejmmjaa
