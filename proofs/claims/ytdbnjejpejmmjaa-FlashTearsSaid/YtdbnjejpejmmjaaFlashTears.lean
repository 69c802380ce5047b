/- The law FlashTears: where the power goes in any step of programming an erased page, each bit is as it was, or as it should be; done once more, all is as it should be. -/
import Derived.Test.YtdbnjejpejmmjaaFlashLives
import Derived.Test.YtdbnjejpejmmjaaFlashTearsMath
import Derived.Test.YtdbnjejpejmmjaaOpen
namespace Go.Proofs.Ytdbnjejpejmmjaa
open Go.ChangeShapes Go.WideShapes Go.ChangeAt Go.RowKit
set_option linter.unusedVariables false

theorem IsBytes.all {w w' : World} {v : Value} {l : List UInt8} (h : IsBytes w v l) (ha : (all w).on w') : IsBytes w' v l := by
  have hsz : w.heap.size ≤ w'.heap.size := by
    obtain ⟨x, hx, hy⟩ := ha
    by_cases h0 : w.heap.size = 0
    · omega
    · have h1 := hy (w.heap.size - 1) (by omega)
      have h2 : x (w.heap.size - 1) = some (w.heap[w.heap.size - 1]'(by omega)) := by rw [h1]; simp
      have h3 := hx _ _ h2
      have h4 := (Array.getElem?_eq_some_iff.1 h3).1
      omega
  have hs : Str w { w with heap := w'.heap } := ⟨rfl, rfl, rfl, hsz⟩
  have h2 : IsBytes { w with heap := w'.heap } v l := h.below (all_below (w' := { w with heap := w'.heap }) (SP.on_of_heap ha rfl) hs)
  exact h2

theorem torn_list {B lb : List UInt8} {n t m : Nat} (h : ∀ j, j < 256 → B.getD j 0 = tornAt lb n t j) (hB : B.length = 256) (hm : m ≤ 256) (j : Nat) (hj : j < m) : (vbs ((B.drop 0).take m))[j]? = some (vb (tornAt lb n t j)) := by
  rw [← h j (by omega)]
  simp only [List.drop_zero, vbs, List.map_take, List.getElem?_take, hj, if_true, List.getElem?_map, List.getD_eq_getElem?_getD]
  rw [List.getElem?_eq_getElem (by omega)]
  rfl
theorem whole_list {B lb : List UInt8} {was : Nat → UInt8} {m : Nat} (h : ∀ j, j < 256 → B.getD j 0 = if j < m then lb.getD j 0 else was j) (hB : B.length = 256) (hm : m ≤ 256) (hl : lb.length = m) : (B.drop 0).take m = lb := by
  apply List.ext_getElem?
  intro j
  rw [List.drop_zero, List.getElem?_take]
  by_cases hj : j < m
  · rw [if_pos hj]
    have := h j (by omega)
    rw [if_pos hj, List.getD_eq_getElem?_getD, List.getD_eq_getElem?_getD, List.getElem?_eq_getElem (by omega), List.getElem?_eq_getElem (by omega)] at this
    rw [List.getElem?_eq_getElem (by omega), List.getElem?_eq_getElem (by omega)]
    exact congrArg some this
  · rw [if_neg hj, List.getElem?_eq_none (by omega)]

set_option maxRecDepth 100000 in
set_option maxHeartbeats 8000000 in
theorem walk_FlashTears (w : World) (v : Value) (l : List UInt8) (hb : IsBytes w v l) (x : Int) (hx1 : -9223372036854775808 ≤ x) (hx2 : x ≤ 9223372036854775807) (t : Int) (ht1 : 0 ≤ t) (ht2 : t ≤ 4294967295) :
    Calls Try.prog 3 #[v, .int .i64 x, .int .u32 t] w fun e w' => e = .returned (.bool true) ∧ Below w.heap.size w w' := by
  obtain ⟨t, rfl⟩ := Int.eq_ofNat_of_zero_le ht1
  have Hb := hide hb
  obtain ⟨a, c, rfl, hc, hm, hl, hn⟩ := hb
  have Hn := hide hn
  clear hl hn
  unfold maxLen at hm
  by_cases hlen : 256 < l.length
  · go_enter Try.func3, Try.ntmps3
    go_wp2_with fail
    refine (lives01_any _).mono ?_
    rintro e w1 ⟨rfl, hb1⟩
    go_wp2_with fail
    refine (lives01_any _).mono ?_
    rintro e w2 ⟨rfl, hb2⟩
    go_wp2
    go_ret
    exact ⟨rfl, hb1.trans (hb2.mono hb1.size)⟩
  · obtain ⟨words, hwd⟩ : ∃ n, n = l.length / 4 := ⟨_, rfl⟩
    have hwl : words * 4 ≤ l.length ∧ l.length < words * 4 + 4 := by omega
    have elen : ((l.length : Int) / 4) = (words : Int) := by omega
    have elen2 : (((words * 4 : Nat) : Int) / 4) = (words : Int) := by omega
    obtain ⟨hwl1, hwl2⟩ := hwl
    have Hlb : Hid (IsBytes w (.slice a (words * 4) c) (l.take (words * 4))) := hide (by
      obtain ⟨_, _, e, h1, h2, h3, h4⟩ := Hb.out
      simp only [Value.slice.injEq] at e
      obtain ⟨rfl, _, rfl⟩ := e
      refine ⟨a, c, by rw [List.length_take, Nat.min_eq_left hwl1], by simp; omega, h2, ?_, h4⟩
      have := h3.take (words * 4)
      simpa [vbs] using this)
    have hlbl : (l.take (words * 4)).length = words * 4 := by simp; omega
    generalize l.take (words * 4) = lb at *
    clear hwd
    have Hlbl := hide hlbl
    clear hlbl
    go_enter Try.func3, Try.ntmps3
    go_wp2_with fail
    refine (lives01_any _).mono ?_
    rintro e w1 ⟨rfl, hb1⟩
    have HB1 := hide hb1
    clear hb1
    go_wp2_with fail
    refine (new_any 1 (by omega) (by omega) w1).mono ?_
    rintro e w2 ⟨v, rfl, ho, hs⟩
    obtain ⟨p, rfl, ho2⟩ := newQ.out ho
    have HO2 := hide ho2
    have HS2 := hide hs
    clear ho ho2 hs
    have Hrd : Hid (∀ w', (all w1).on w' → IsBytes w' (.slice a (words * 4) c) lb) := hide (fun w' h => (Hlb.out.below HB1.out).all h)
    by_cases hw0 : words = 0
    · subst hw0
      have HF := hide (fail_any p (FlS.new 1) (all w1) w2 HO2.out 0 t)
      go_wp2_with fail
      refine HF.out.mono ?_
      rintro e w3 ⟨rfl, h3, hs3⟩
      have HP := hide (program_any p _ (all w1) w3 h3 ⟨(FlS.new_ok 1 (by omega) (by omega)).pages, (FlS.new_ok 1 (by omega) (by omega)).most, by simp [FlS.new], by simp [FlS.new], by simp, by simp; omega⟩ (by simp [FlS.new]) rfl 0 (.slice a 0 c) lb 0 rfl (by rw [Hlbl.out]) (by rw [Hlbl.out]; simp) (fun i h => by omega) (by have := Hrd.out; simpa using this))
      have HS3 := hide (HS2.out.trans hs3)
      clear h3 hs3
      go_wp2_with fail
      refine HP.out.mono ?_
      rintro e w4 ⟨rfl, h4, hs4⟩
      have HB4 := hide (HB1.out.trans ((all_below h4.right (HS3.out.trans hs4)).mono HB1.out.size))
      clear h4 hs4
      go_wp2_with fail
      go_ret
      exact ⟨rfl, HB4.out⟩
    · obtain ⟨n, hn, hnw⟩ := uint_mod x (words : Int) (by omega) (by omega)
      have hw1 : 1 ≤ words := by omega
      have hn2 : n < words := by omega
      clear hw0
      have ok0 : ({ FlS.new 1 with armed := true, left := n, tear := t } : FlS).Ok := ⟨(FlS.new_ok 1 (by omega) (by omega)).pages, (FlS.new_ok 1 (by omega) (by omega)).most, by simp [FlS.new], by simp [FlS.new], by simp; omega, by simp; omega⟩
      have Hok0 := hide ok0
      have HF := hide (fail_any p (FlS.new 1) (all w1) w2 HO2.out n t)
      clear ok0
      have hlb2 : lb.length ≤ 256 := by rw [Hlbl.out]; omega
      have hmid : Mid lb (fun _ => 255) 0 ({ FlS.new 1 with armed := true, left := n, tear := t } : FlS) := ⟨by simp [FlS.new], rfl, fun j hj => by
        rw [if_neg (by omega)]
        simp only [FlS.new, List.getD_eq_getElem?_getD]
        rw [List.getElem?_replicate, if_pos (by omega)]
        rfl⟩
      obtain ⟨g1, g2, g3, g4, g5⟩ := torn_run hlb2 n words 0 _ hmid rfl (by simp) rfl (by omega) (by omega) (by rw [Hlbl.out]; omega)
      have g6 : (FlS.progW lb 0 words 0 { FlS.new 1 with armed := true, left := n, tear := t }).1.Ok := progW_ok _ _ _ Hok0.out
      have g7 : (FlS.progW lb 0 words 0 { FlS.new 1 with armed := true, left := n, tear := t }).1.lt = 0 := (progW_locks _ _ _).2
      have g8 : (FlS.progW lb 0 words 0 { FlS.new 1 with armed := true, left := n, tear := t }).1.steps ≤ words := by have := progW_steps (lb := lb) (a := 0) words 0 { FlS.new 1 with armed := true, left := n, tear := t }; simpa [FlS.new] using this
      have HP0 := hide (fun (w3 : World) (h3 : (Flash p { FlS.new 1 with armed := true, left := n, tear := t } * all w1).on w3) => program_any p _ (all w1) w3 h3 Hok0.out (by simp [FlS.new]) rfl 0 (.slice a (words * 4) c) lb words rfl Hlbl.out (by rw [Hlbl.out]; simp [FlS.new]; omega) (fun i _ => unlocked rfl _) Hrd.out)
      simp only [g1] at HP0
      clear hmid g1
      generalize (FlS.progW lb 0 words 0 { FlS.new 1 with armed := true, left := n, tear := t }).1 = f1 at *
      have G5 := hide g5
      have G6 := hide g6
      have G2 := hide g2
      have G3 := hide g3
      have G4 := hide g4
      have G7 := hide g7
      clear g2 g3 g4 g5 g6 g7
      go_wp2_with fail
      refine HF.out.mono ?_
      rintro e w3 ⟨rfl, h3, hs3⟩
      rw [hn]
      have HP := hide (HP0.out w3 h3)
      have HS3 := hide (HS2.out.trans hs3)
      clear h3 hs3 hn HF
      go_wp2_with fail
      refine HP.out.mono ?_
      rintro e w4 ⟨rfl, h4, hs4⟩
      have HO := hide (off_any p f1 _ w4 h4)
      have HPW := hide (power_any p f1 _ w4 h4)
      have HS4 := hide (HS3.out.trans hs4)
      rw [G2.out] at HO
      clear h4 hs4 HP HP0
      go_wp2_with fail
      refine HO.out.mono ?_
      rintro e w5 ⟨rfl, rfl⟩
      go_wp2_with fail
      refine HPW.out.mono ?_
      rintro e w5 ⟨⟨v5, rfl⟩, h5, hs5⟩
      have okf : ({ f1 with off := false, armed := false } : FlS).Ok := ⟨G6.out.pages, G6.out.most, G6.out.lf, G6.out.lt, G6.out.left, G6.out.tear⟩
      have Okf := hide okf
      have HRD := hide (read_any p _ _ w5 h5 okf rfl 0 (words * 4) (by show _ ≤ f1.B.length; rw [G4.out]; omega))
      have HS5 := hide (HS4.out.trans hs5)
      have H5 := hide h5
      have e4 : ((words * 4 : Nat) : Int) = (words : Int) * 4 := by omega
      rw [e4] at HRD
      clear h5 hs5 HO HPW okf e4
      go_wp2_with fail
      refine HRD.out.mono ?_
      rintro e w6 ⟨v6, rfl, ho6, hs6⟩
      obtain ⟨x6, rfl, ho6'⟩ := readQ.out ho6
      have hlx : ((({ f1 with off := false, armed := false } : FlS).B.drop 0).take (words * 4)).length = words * 4 := by
        show ((f1.B.drop 0).take (words * 4)).length = _
        rw [List.drop_zero, List.length_take, G4.out]; omega
      have ho7 : (own 5 1 x6 (words * 4) (vbs ((f1.B.drop 0).take (words * 4))) * all w5).on w6 := by
        have := ho6'; unfold ownBy at this; rw [hlx] at this; exact this
      obtain ⟨gx, cx, rfl, hcx1, hcx2⟩ := own_block ho7 (by omega)
      unfold maxLen at hcx2
      have Ho6 := hide (on_all_to ho7 H5.out)
      have HS6 := hide (HS5.out.trans hs6)
      clear ho6 ho6' ho7 hs6 HRD hlx
      have HX := hide (torn_list G5.out G4.out (show words * 4 ≤ 256 by omega))
      have Hmid2 : Hid (Mid lb (tornAt lb n t) 0 ({ f1 with off := false, armed := false } : FlS)) := hide ⟨G4.out, rfl, fun j hj => by rw [if_neg (by omega)]; exact G5.out j hj⟩
      have Hrun := hide (Mid.run hlb2 (fun j _ => tornAt_and lb n t j) words 0 _ Hmid2.out rfl (by rw [Hlbl.out]; omega))
      have Hst2 : Hid ({ f1 with off := false, armed := false } : FlS).Ok := Okf
      have hs9 : ({ f1 with off := false, armed := false } : FlS).steps ≤ 64 := by show f1.steps ≤ 64; omega
      have Hlt9 : Hid (({ f1 with off := false, armed := false } : FlS).lt = 0) := G7
      have hl9 : ({ f1 with off := false, armed := false } : FlS).B.length = 256 := G4.out
      have Hl9 := hide hl9
      have Hof9 : Hid (({ f1 with off := false, armed := false } : FlS).off = false) := hide rfl
      generalize (f1.B.drop 0).take (words * 4) = lx at *
      clear hl9
      clear Okf HS5 H5 HS4 HS3 HO2 HS2 g8
      generalize ({ f1 with off := false, armed := false } : FlS) = f2 at *
      obtain ⟨bv, offv, rfl⟩ : ∃ bv offv, a = some ⟨bv, offv, Option.none⟩ := by
        obtain ⟨_, _, e, _, _, h3, _⟩ := Hlb.out
        simp only [Value.slice.injEq] at e
        obtain ⟨rfl, _, rfl⟩ := e
        exact Lay.isAddr h3 0 (by simp; rw [Hlbl.out]; omega)
      go_wp2_with fail
      go_loopw [84] (fun i wr => ∃ j : Nat, j ≤ words * 4 ∧ i = .int .i64 j ∧ (own 5 1 (.slice (some ⟨gx, 0, Option.none⟩) (words * 4) cx) (words * 4) (vbs lx) * (Flash p f2 * all w1)).on wr ∧ Str w1 wr) (fun i _ => words * 4 - (intOf i).toNat)
      case atStart => exact ⟨0, by omega, rfl, Ho6.out, HS6.out⟩
      case round =>
        obtain ⟨j, hj, rfl, hw, hstr⟩ := hrel
        by_cases hjl : j < words * 4
        · have c1 := own_cell hw j _ (HX.out j hjl)
          have c2 : wr.cell? ⟨bv, offv + j, Option.none⟩ = some (vb (lb.getD j 0)) := by
            obtain ⟨_, _, e, _, _, h3, _⟩ := Hrd.out wr hw.right.right
            simp only [Value.slice.injEq] at e
            obtain ⟨rfl, _, rfl⟩ := e
            have := Lay.cell h3 j (vbs_get lb j (by rw [Hlbl.out]; omega))
            rw [this, List.getD_eq_getElem?_getD, List.getElem?_eq_getElem (by rw [Hlbl.out]; omega)]
            rfl
          have How := hide hw
          have Hstr := hide hstr
          clear hw hstr
          by_cases hA : j < n * 4
          · have e1 : tornAt lb n t j = lb.getD j 0 := by unfold tornAt; rw [if_pos hA]
            rw [e1] at c1
            clear e1
            generalize lb.getD j 0 = y at c1 c2
            go_wp2_with fail
            go_region
            go_wp2_with fail
            exact ⟨⟨j + 1, by omega, by simp, How.out.drew, Hstr.out.drew⟩, by simp [intOf]; omega⟩
          · by_cases hB : j < n * 4 + 4
            · have e1 : tornAt lb n t j = dropByte 255 (lb.getD j 0) (t / 2 ^ (8 * (j - n * 4))) := by unfold tornAt; rw [if_neg hA, if_pos hB]
              have e2 := (erased_drop (lb.getD j 0) (t / 2 ^ (8 * (j - n * 4)))).1
              rw [← e1] at e2
              clear e1
              generalize lb.getD j 0 = y at c1 c2 e2
              generalize tornAt lb n t j = z at c1 e2
              have hyl := UInt8.toNat_lt y
              have hzl := UInt8.toNat_lt z
              have e3 : bits .or .u8 ((z.toNat : Nat) : Int) ((y.toNat : Nat) : Int) = ((z.toNat : Nat) : Int) := by
                rw [u8_or_nat _ _ hzl hyl, ← UInt8.toNat_or, e2]
              clear e2
              go_wp2_with fail
              go_region
              go_wp2_with fail
              exact ⟨⟨j + 1, by omega, by simp, How.out.drew, Hstr.out.drew⟩, by simp [intOf]; omega⟩
            · have e1 : tornAt lb n t j = 255 := by unfold tornAt; rw [if_neg hA, if_neg hB]
              rw [e1] at c1
              clear e1
              generalize lb.getD j 0 = y at c2
              go_wp2_with fail
              exact ⟨⟨j + 1, by omega, by simp, How.out, Hstr.out⟩, by simp [intOf]; omega⟩
        · have hw2 := hw
          rw [SP.mul_left_comm] at hw2
          obtain ⟨hr1, hr2⟩ := Hrun.out
          have HP2 := hide (program_any p f2 _ wr hw2 Hst2.out (by omega) Hof9.out 0 (.slice (some ⟨bv, offv, Option.none⟩) (words * 4) c) lb words rfl Hlbl.out (by rw [Hlbl.out, Hl9.out]; omega) (fun i _ => unlocked Hlt9.out _) (fun w' h => Hrd.out w' h.right))
          simp only [hr1] at HP2
          have ok3 : (FlS.progW lb 0 words 0 f2).1.Ok := progW_ok _ _ _ Hst2.out
          have Ok3 := hide ok3
          have Hr2 := hide hr2
          have Hstr := hide hstr
          clear hw2 hr1 hr2 hw hstr ok3 Hrun
          generalize (FlS.progW lb 0 words 0 f2).1 = f3 at *
          go_wp2_with fail
          refine HP2.out.mono ?_
          rintro e w7 ⟨rfl, h7, hs7⟩
          have e4 : ((words * 4 : Nat) : Int) = (words : Int) * 4 := by omega
          have HR2 := hide (read_any p f3 _ w7 h7 Ok3.out Hr2.out.off 0 (words * 4) (by rw [Hr2.out.len]; omega))
          rw [e4, whole_list (by have := Hr2.out.at'; rw [Nat.zero_add] at this; exact this) Hr2.out.len (by omega) Hlbl.out] at HR2
          have H7 := hide h7
          have HS7 := hide (Hstr.out.trans hs7)
          clear h7 hs7 HP2 e4
          go_wp2_with fail
          refine HR2.out.mono ?_
          rintro e w8 ⟨v8, rfl, ho8, hs8⟩
          obtain ⟨x8, rfl, ho8'⟩ := readQ.out ho8
          have Ho8 := hide (on_all_to ho8' H7.out)
          have HS8 := hide (HS7.out.trans hs8)
          have hby := own_bytes ho8'
          have hall := Ho8.out.right.right.right
          have hbb := Hrd.out w8 hall
          obtain ⟨a8, c8, rfl, _, _, hl8, _⟩ := hby
          obtain ⟨a9, c9, e9, _, _, hl9, _⟩ := hbb
          simp only [Value.slice.injEq] at e9
          obtain ⟨rfl, _, rfl⟩ := e9
          have hsu := Try.underlying22
          have hsb := Try.underlying5
          have k1 := run_string_of (P := Try.prog) (w := w8) (c := c8) hsu hsb hl8
          have k2 := run_string_of (P := Try.prog) (w := w8) (c := c) hsu hsb hl9
          have hst := Try.underlying9
          have HB8 := hide (HB1.out.trans ((all_below hall HS8.out).mono HB1.out.size))
          clear ho8 ho8' hs8 hall hl8 hl9 HR2
          go_wp2_with fail
          go_ret
          exact ⟨rfl, HB8.out⟩
namespace lawFlashTears
theorem own : ownKnob Try.prog.godebug = Option.none := by kernel_rfl
theorem laidOut : laidOutB Try.prog = true := by kernel_rfl
set_option maxRecDepth 100000 in
theorem lifted (os : Os) (started : os.Started) (H : Type) (enc : TypeId × Value → H) :
    ReturnsInHanded {} Try.checked os 3 .any (Rows.flashTearsSpec.pre6 enc Try.prog Try.f3 Rows.flashTearsRow.domain false) (Rows.flashTearsSpec.post enc Try.prog Try.f3 false true false false) := by
  refine returnsInHanded_of_change_sized (C := Try.checked) own started (by kernel_rfl) Try.func3
    (ChangeSpec.witness6 (enc := enc) (C := Try.checked) false ⟨#[], #[.slice Option.none 0 0, .int .i64 0, .int .u32 0], []⟩ 8 (by kernel_rfl) (by kernel_rfl) (by kernel_rfl) (by kernel_rfl)) ?_
  intro W base args ds gs before hval0 hW hcnd hsz _
  have hval : ∀ (j : Nat) t v, Try.f3.params[j]? = some t → args[j]? = some v → Value.okWide Try.prog W .any base t v := hval0
  have hW' := hW
  obtain ⟨p, q, hA0, hV, rfl, hfz, hnd⟩ := hW
  have hA : DataW.TrodAll enc Try.prog W 0 (fun _ => true) true Try.f3.params.toList args.toList ds p := hA0
  rw [Try.params3] at hA hval
  obtain ⟨v0, vs0, d0, ds0, p0, q0, hargs, rfl, rfl, h0, r0⟩ := trodAll_cons hA
  obtain ⟨v1, vs1, d1, ds1, p1, q1, rfl, rfl, rfl, h1, r1⟩ := trodAll_cons r0
  obtain ⟨v2, vs2, d2, ds2, p2, q2, rfl, rfl, rfl, h2, r2⟩ := trodAll_cons r1
  obtain ⟨rfl, rfl, rfl⟩ := trodAll_nil r2
  obtain rfl : args = #[v0, v1, v2] := by cases args; simp_all
  obtain ⟨rfl, rfl⟩ := trodVars_none hV
  have k0 := h0
  have lt0 : ∀ x ∈ p0, x.block < W.heap.size := by obtain ⟨m, hm⟩ := k0; exact DataW.trod_lt m _ _ _ hm
  obtain ⟨l0, b0, n0⟩ := open_bytes Try.underlying22 Try.underlying5 (by kernel_rfl) (hval 0 22 v0 rfl rfl) h0
  have k1 := h1
  have lt1 : ∀ x ∈ p1, x.block < W.heap.size := by obtain ⟨m, hm⟩ := k1; exact DataW.trod_lt m _ _ _ hm
  obtain ⟨a1, rfl, rfl, rfl, w1⟩ := open_int Try.underlying3 (hval 1 3 v1 rfl rfl) h1
  obtain ⟨l1, u1⟩ := wf_i64 w1
  have k2 := h2
  have lt2 : ∀ x ∈ p2, x.block < W.heap.size := by obtain ⟨m, hm⟩ := k2; exact DataW.trod_lt m _ _ _ hm
  obtain ⟨a2, rfl, rfl, rfl, w2⟩ := open_int Try.underlying23 (hval 2 23 v2 rfl rfl) h2
  obtain ⟨l2, u2⟩ := wf_u32 w2
  clear hA0 hval0 hsz
  refine (walk_FlashTears W v0 l0 b0 a1 l1 u1 a2 l2 u2).mono fun e W' ⟨he, bel⟩ => ?_
  subst he
  exact ⟨_, rfl, _, _, _, [], _, [], hW', trodAll_mk1 (shut_bool Try.underlying4 _), (trodAll_cons_mk (Below.trod laidOut (by kernel_rfl) (of_decide_eq_true (by kernel_rfl)) k0 bel lt0) (trodAll_cons_mk (shut_int Try.underlying3 w1) (trodAll_cons_mk (shut_int Try.underlying23 w2) trodAll_mk0))), rfl, bel.frame _, fun h => by cases h⟩

theorem over : Rows.flashTearsRow.holds Try.pinned (OpenSpec.ofChange Rows.flashTearsSpec) :=
  OpenClaim.holds_of_wide 3 Try.f3 rfl rfl rfl rfl rfl rfl rfl ⟨rfl, rfl, rfl, rfl, rfl⟩ rfl rfl rfl rfl rfl (by kernel_rfl) Try.func3 (by kernel_rfl)
    (of_decide_eq_true (by kernel_rfl)) (by unfold Func.isWrapper; first | (rw [if_pos (by decide +kernel)]; kernel_rfl) | (rw [if_neg (by decide +kernel)]; exact ⟨rfl, rfl⟩))
    (fun os started H enc _ => lifted os started H enc)

theorem proved : Rows.FlashTearsSaid := over
end lawFlashTears
end Go.Proofs.Ytdbnjejpejmmjaa
