/- bank: pages are erased, bytes are written, whatever comes of it. -/
import Derived.Test.YtjmgnfpcieofkaaBank2
import Derived.Test.YtjmgnfpcieofkaaSetMath
namespace Go.Proofs.Ytjmgnfpcieofkaa
open Go.ChangeShapes Go.WideShapes Go.ChangeAt Go.RowKit
set_option linter.unusedVariables false
set_option linter.unusedSimpArgs false

set_option maxRecDepth 100000 in
set_option maxHeartbeats 8000000 in
theorem bwrite_all (p : Nat) (s : FlS) (F : SP) (w : World) (h : (Flash p s * F).on w) (n : Nat) (fit : s.Fit n) (hn : n ≤ 1099500000000) (first a : Nat) (hf : first + 16 ≤ s.worn.length) (ha : a % 4 = 0)
    (v : Value) (ls : List (List UInt8)) (hrd : IsRows w v ls) (hal : a + (padW ls.flatten).length ≤ 4096) :
    Calls Try.prog 61 #[bankV (fptr p) first, .int .i64 a, v] w fun e w' => e = .returned (.int .i64 ((s.prog (first * 256 + a) (padW ls.flatten)).2 : Int)) ∧ (Flash p (s.prog (first * 256 + a) (padW ls.flatten)).1 * F).on w' ∧ Str w w' := by
  have ok := fit.ok
  have hm := ok.most
  have hp := ok.pages
  have hE := exists_any p s F _ (h.alloc' (.cells #[fptr p, .int .i64 first] 113)) ok first hf
  have hu := Try.underlying33
  obtain ⟨va, vc, vs, rfl, hvc, hvm, hvl, hvs, hvin⟩ := hrd
  unfold maxLen at hvm
  have Hvl := hide hvl
  have Hvs := hide hvs
  have Hvin := hide hvin
  have Hfit := hide fit
  have hpl : ls.flatten.length + (4 - ls.flatten.length % 4) % 4 = (padW ls.flatten).length := by simp [padW]
  have hmod : (padW ls.flatten).length % 4 = 0 := by omega
  have Hpad := hide (show padW ls.flatten = ls.flatten ++ List.replicate ((4 - ls.flatten.length % 4) % 4) 255 from rfl)
  generalize padW ls.flatten = lb at *
  have Hhl := hide (show ∀ k, (ls.take k).flatten.length ≤ ls.flatten.length from fun k => by
    conv => rhs; rw [← List.take_append_drop k ls, List.flatten_append, List.length_append]
    omega)
  clear hvl hvs hvin fit
  go_enter Try.func61, Try.ntmps61
  go_wp2_with fail
  refine hE.mono ?_
  rintro e w1 ⟨rfl, hb1⟩
  have hbl := (hb1.block w.heap.size (by simp)).trans (heap_alloc_new w (.cells #[fptr p, .int .i64 first] 113))
  have HB := hide (Below.trans new1 (hb1.mono (by simp)))
  have c0 := cell_of_row w1 w.heap.size 0 _ _ _ hbl
  have c1 := cell_of_row w1 w.heap.size 1 _ _ _ hbl
  simp only [List.getElem?_toArray, List.getElem?_cons_zero, List.getElem?_cons_succ] at c0 c1
  have HFl := hide (h.below HB.out)
  have C0 := hide c0
  have C1 := hide c1
  clear hE hb1 hbl c0 c1 h
  go_wp2_with fail
  go_loopw [7, 15] (fun av i wr => ∃ k : Nat, k ≤ ls.length ∧ i = .int .i64 k ∧ (ownBy av (ls.take k).flatten * all w1).on wr ∧ Str w1 wr) (fun _ i _ => ls.length - (intOf i).toNat)
  case atStart => exact ⟨0, by omega, rfl, own_nil _ 1 (on_all w1), Str.refl _⟩
  case round =>
    obtain ⟨k, hk, rfl, how, hstr⟩ := hrel
    have hBr := all_below how.right hstr
    obtain ⟨oa, oc, rfl, _, _, _, _⟩ := own_value how
    have hl1 := Hhl.out k
    by_cases hkl : k < ls.length
    · have hkv : k < vs.length := by rw [Hvs.out]; exact hkl
      obtain ⟨b, off, rfl⟩ := Lay.isAddr Hvl.out k hkv
      have cb := Lay.cell ((Hvl.out.below HB.out).below hBr) k (List.getElem?_eq_getElem hkv)
      have hbx := ((Hvin.out k _ _ (List.getElem?_eq_getElem hkv) (List.getElem?_eq_getElem hkl)).below HB.out).below hBr
      have HS := hide (show (ls.take (k + 1)).flatten = (ls.take k).flatten ++ ls[k] by rw [List.take_succ_eq_append_getElem hkl, List.flatten_append]; simp)
      have hl2 := Hhl.out (k + 1)
      rw [HS.out, List.length_append] at hl2
      generalize vs[k] = vk at *
      generalize ls[k] = x at *
      have Hbx := hide hbx
      have How := hide how
      have Hstr := hide hstr
      obtain ⟨xa, xc, rfl, _, _, _, _⟩ := hbx
      generalize (ls.take k).flatten = fk at *
      clear how hstr hBr
      go_wp2_with (at_builtin; refine wpList_append_bytes (F := all w1) rfl _ _ 33 rfl 5 hu infoByte _ fk x rfl How.out _ rfl Hbx.out (by omega) ?_; intro v2 w2 ho2 hs2)
      exact ⟨⟨k + 1, by omega, by simp, by rw [HS.out]; exact ho2, Hstr.out.trans hs2⟩, by simp [intOf]; omega⟩
    · have hkb : k = ls.length := by omega
      subst hkb
      rw [List.take_length] at how hl1 ⊢
      generalize hfl : ls.flatten = fl at *
      have Hfl := hide hfl
      clear hfl
      have How := hide how
      have Hstr := hide hstr
      have HI := hide (inside_no a fl.length wr (by omega) (by omega) (by omega) (by omega))
      clear how hstr hBr hkl
      go_wp2_with fail
      refine HI.out.mono ?_
      rintro e w2 ⟨rfl, rfl⟩
      go_wp2_with fail
      go_loopw [7] (fun av wr' => ∃ j : Nat, j ≤ (4 - fl.length % 4) % 4 ∧ (ownBy av (fl ++ List.replicate j 255) * all w1).on wr' ∧ Str w1 wr') (fun av _ => fl.length + (4 - fl.length % 4) % 4 - sliceLenB av)
      case atStart => exact ⟨0, by omega, by simpa using How.out, Hstr.out⟩
      case round =>
        obtain ⟨j, hj, how, hstr⟩ := hrel
        obtain ⟨oa2, oc2, rfl, _, _, _, _⟩ := own_value how
        have hacl : (fl ++ List.replicate j (255 : UInt8)).length = fl.length + j := by simp
        have HSn := hide (show fl ++ List.replicate (j + 1) (255 : UInt8) = (fl ++ List.replicate j 255) ++ [255] by rw [List.replicate_succ', List.append_assoc])
        by_cases hjl : j < (4 - fl.length % 4) % 4
        · have e1 : (((fl ++ List.replicate j (255 : UInt8)).length : Int) % 4 != 0) = true := by rw [hacl]; simp; omega
          generalize fl ++ List.replicate j (255 : UInt8) = acc at *
          have How := hide how
          have Hstr := hide hstr
          have Hacl := hide hacl
          have hal2 : acc.length ≤ 8192 := by omega
          clear how hstr hacl
          go_wp2_with (at_builtin; refine wpList_append_bytes (F := all w1) rfl _ _ 33 rfl 5 hu infoByte _ acc [255] rfl (How.out.alloc' _) _ rfl (IsBytes.new _ [255] (by simp [maxLen]) 5) (by simp; omega) ?_; intro v2 w2 ho2 hs2)
          obtain ⟨oa3, oc3, rfl, _, _, _, _⟩ := own_value ho2
          refine ⟨⟨j + 1, by omega, by rw [HSn.out]; exact ho2, (Hstr.out.alloc _).trans hs2⟩, ?_⟩
          have := Hacl.out
          simp only [sliceLenB, List.length_append, List.length_cons, List.length_nil]
          omega
        · have hjr : j = (4 - fl.length % 4) % 4 := by omega
          have hacc : fl ++ List.replicate j (255 : UInt8) = lb := by rw [Hpad.out, hjr]
          rw [hacc] at how hacl ⊢
          have e1 : ((lb.length : Int) % 4 != 0) = false := by simp; omega
          have How := hide how
          have Hstr := hide hstr
          clear how hstr HSn hacc hacl
          go_wp2_with fail
          have a1 : IntKind.i64.wrap ((first : Int) * 256 + (a : Int)) = (first : Int) * 256 + (a : Int) := by rw [IntWalk.i64_in _ (by omega)]
          have hBr := hide (all_below How.out.right Hstr.out)
          refine wp_region_tail 7 [isV (.pointer (some ⟨w.heap.size, 0, Option.none⟩)), isV (fptr p), isV (bankV (fptr p) first), isV (.int .i64 ((first : Int) * 256)), isV (.int .i64 (a : Int)), isV (.int .i64 ((first : Int) * 256 + (a : Int))), isV (.slice oa2 lb.length oc2)]
            (by simp only [List.take_succ_cons, List.take_zero]; rfl) (by simp only [List.drop_succ_cons, List.drop_zero]; rfl) (by kernel_rfl) (by kernel_rfl) (by kernel_rfl) (by decide) rfl ?keep ?todo ?rest
          case keep => exact ⟨Keep.isV _, Keep.isV _, Keep.isV _, Keep.isV _, Keep.isV _, Keep.isV _, Keep.isV _, trivial⟩
          case todo =>
            refine ⟨?_, ?_, ?_, ?_, ?_, ?_, ?_, trivial⟩
            · intro ev W hT hb hk hf
              have e0 : ev (.tmp 3) = .pointer (some ⟨w.heap.size, 0, Option.none⟩) := hk.1
              exact OpOk.run (v := .pointer (some ⟨w.heap.size, 0, Option.none⟩)) (W' := W) (by simp [execOp, e0, go_sem]) ⟨rfl, Stay.refl _⟩
            · intro ev W hT hb hk hf
              have e0 : ev (.tmp 35) = .pointer (some ⟨w.heap.size, 0, Option.none⟩) := hf.1
              have hBW := hBr.out.trans (hT.mono hBr.out.size)
              have d0 := (hBW.cell (p := ⟨w.heap.size, 0, Option.none⟩) (World.block_lt_of_cell? w1 _ C0.out)).trans C0.out
              exact OpOk.run (v := fptr p) (W' := W) (by simp [execOp, e0, d0, go_sem]) ⟨rfl, Stay.refl _⟩
            · intro ev W hT hb hk hf
              have e0 : ev (.tmp 3) = .pointer (some ⟨w.heap.size, 0, Option.none⟩) := hk.1
              have hBW := hBr.out.trans (hT.mono hBr.out.size)
              have d0 := (hBW.cell (p := ⟨w.heap.size, 0, Option.none⟩) (World.block_lt_of_cell? w1 _ C0.out)).trans C0.out
              have d1 := (hBW.cell (p := ⟨w.heap.size, 1, Option.none⟩) (World.block_lt_of_cell? w1 _ C1.out)).trans C1.out
              exact OpOk.run (v := bankV (fptr p) first) (W' := W) (by simp [execOp, e0, d0, d1, go_sem]) ⟨rfl, Stay.refl _⟩
            · intro ev W hT hb hk hf
              have e0 : ev (.tmp 37) = bankV (fptr p) first := hf.1
              refine OpOk.enters (f := 94) (args := #[ev (.tmp 37)]) (W' := W) (by simp [execOp, resolve, invoke, hb.2.1, go_sem]) ?_
              rw [e0]
              refine (begin_any (fptr p) first (by omega) W).mono ?_
              rintro e w' ⟨rfl, hs'⟩
              exact ⟨_, rfl, (by simp : Value.int .i64 ((first * 256 : Nat) : Int) = .int .i64 ((first : Int) * 256)), hs'⟩
            · exact fun ev W hT hb hk hf => OpOk.move rfl hk.1 ⟨rfl, Stay.refl _⟩
            · intro ev W hT hb hk hf
              have e0 : ev (.tmp 38) = .int .i64 ((first : Int) * 256) := hf.1
              have e1 : ev (.tmp 39) = .int .i64 (a : Int) := hf.2.1
              exact OpOk.run (v := .int .i64 ((first : Int) * 256 + (a : Int))) (W' := W) (by simp [execOp, e0, e1, a1, go_sem]) ⟨rfl, Stay.refl _⟩
            · exact fun ev W hT hb hk hf => OpOk.move rfl hk.1 ⟨rfl, Stay.refl _⟩
          case rest =>
            intro W hT
            rintro _ rfl _ rfl _ rfl _ rfl _ rfl _ rfl _ rfl
            have h1 := (on_all_to How.out HFl.out).below hT
            rw [SP.mul_left_comm] at h1
            have HP := hide (prog_any p s _ W h1 n Hfit.out (by omega) (first * 256 + a) (.slice oa2 lb.length oc2) lb (by omega) (by omega) (by omega) (by omega) (fun w' h' => own_bytes h'))
            have HsT := hide (Str.trans (Str.below HB.out) (Hstr.out.trans (Str.below hT)))
            clear h1 hT
            go_wp2
            refine Rest.done ?_
            go_wp2_with fail
            rw [show ((first : Int) * 256 + (a : Int)) = ((first * 256 + a : Nat) : Int) by simp]
            refine HP.out.mono ?_
            rintro e w9 ⟨rfl, h9, hs9⟩
            rw [SP.mul_left_comm] at h9
            have H9 := hide h9.right
            have HS9 := hide (HsT.out.trans hs9)
            clear h9 hs9 HP
            go_wp2_with fail
            go_ret
            exact ⟨rfl, H9.out, HS9.out⟩

/-- so many pages of a bank are erased, from one on -/
def FlS.clr (s : FlS) (first a : Nat) : Nat → FlS × Nat
  | 0 => (s, 0)
  | k + 1 => if (s.era (first + a)).2 = 0 then (s.era (first + a)).1.clr first (a + 1) k else s.era (first + a)
theorem clr_fit {first : Nat} : ∀ (k a : Nat) (s : FlS) (n : Nat), s.Fit n → (s.clr first a k).1.Fit (n + k)
  | 0, _, _, _, h => h
  | k + 1, a, s, n, h => by
    unfold FlS.clr
    split
    · exact (clr_fit k (a + 1) _ _ (h.era _)).mono (by omega)
    · exact (h.era _).mono (by omega)
theorem clr_wornlen {first : Nat} : ∀ (k a : Nat) (s : FlS), (s.clr first a k).1.worn.length = s.worn.length
  | 0, _, _ => rfl
  | k + 1, a, s => by
    unfold FlS.clr
    split
    · rw [clr_wornlen k (a + 1), FlS.era_wornlen]
    · exact FlS.era_wornlen _ _

set_option maxRecDepth 100000 in
set_option maxHeartbeats 8000000 in
theorem clear_any (p : Nat) (s : FlS) (F : SP) (w : World) (h : (Flash p s * F).on w) (n : Nat) (fit : s.Fit n) (hn : n ≤ 1099500000000) (first a b : Nat) (hf : first + 16 ≤ s.worn.length) (hab : a ≤ b) (hb : b ≤ 16) :
    Calls Try.prog 58 #[bankV (fptr p) first, .int .i64 a, .int .i64 b] w fun e w' => e = .returned (.int .i64 ((s.clr first a (b - a)).2 : Int)) ∧ (Flash p (s.clr first a (b - a)).1 * F).on w' ∧ Str w w' := by
  have hub := Try.underlying113
  have hm := fit.ok.most
  have h0 := h.alloc (.cells #[fptr p, .int .i64 first] 113)
  have hE := exists_any p s _ (w.alloc (.cells #[fptr p, .int .i64 first] 113)) (h.alloc' _) fit.ok first hf
  have H0 := hide h0
  have S0 := hide ((Str.refl w).alloc (.cells #[fptr p, .int .i64 first] 113))
  have g0 := on_blk_mul h0
  have hib : (Try.prog.info? 113).map (·.size) = some (#[fptr p, .int .i64 (first : Int)] : Array Value).size := by rw [show (#[fptr p, .int .i64 (first : Int)] : Array Value).size = 2 from rfl]; kernel_rfl
  have Hib := hide hib
  have Hfit := hide fit
  have Hf := hide hf
  clear h h0 hib fit
  go_enter Try.func58, Try.ntmps58
  go_wp2_with (first
    | (refine wpList_load_row rfl _ _ rfl w.heap.size rfl _ (#[fptr p, .int .i64 (first : Int)]) _ _ g0 hub rfl Hib.out ?_))
  refine hE.mono ?_
  clear hE g0
  rintro e w1 ⟨rfl, hb1⟩
  have H1 := hide (H0.out.below hb1)
  have S1 := hide (S0.out.trans (Str.below hb1))
  have hfl : first ≤ 48 := by omega
  clear hb1 H0 S0 hm
  have na : decide ((a : Int) < 0) = false := decide_eq_false (by omega)
  have nb : decide ((b : Int) < (a : Int)) = false := decide_eq_false (by omega)
  have nb2 : decide (b < a) = false := decide_eq_false (by omega)
  have nc : decide ((16 : Int) < (b : Int)) = false := decide_eq_false (by omega)
  have nc2 : decide (16 < b) = false := decide_eq_false (by omega)
  go_wp2_with fail
  clear na nb nb2 nc nc2
  go_loopw [7] (fun i wr => ∃ (k m : Nat) (st : FlS), a + k ≤ b ∧ i = .int .i64 ((a + k : Nat) : Int) ∧ st.Fit (n + k) ∧ st.worn.length = s.worn.length ∧ s.clr first a (b - a) = st.clr first (a + k) (b - (a + k)) ∧ (blk w.heap.size (.cells #[fptr p, .int .i64 (first : Int)] 113 (0, 0)) * (Flash p st * F)).on wr ∧ Str w wr) (fun i _ => b - (intOf i).toNat)
  case atStart => exact ⟨0, 0, s, by omega, rfl, Hfit.out, rfl, rfl, H1.out, S1.out⟩
  case round =>
    obtain ⟨k, _, st, hk, rfl, hft, hwn, heq, hw, hstr⟩ := hrel
    have Hw := hide hw
    have Hstr := hide hstr
    have Heq := hide heq
    have Hft := hide hft
    have Hwn := hide hwn
    have c0 := cell_of_row wr w.heap.size 0 _ _ _ (on_blk_mul hw)
    have c1 := cell_of_row wr w.heap.size 1 _ _ _ (on_blk_mul hw)
    simp only [List.getElem?_toArray, List.getElem?_cons_zero, List.getElem?_cons_succ] at c0 c1
    have hE := era_any p st _ wr (show (Flash p st * (blk w.heap.size (.cells #[fptr p, .int .i64 (first : Int)] 113 (0, 0)) * F)).on wr from by rw [SP.mul_left_comm]; exact hw) (n + k) hft (by omega) (first + (a + k)) (by omega)
    have hcast : ((first + (a + k) : Nat) : Int) = (first : Int) + ((a : Int) + (k : Int)) := by omega
    have hck : ((a + k : Nat) : Int) = (a : Int) + (k : Int) := by omega
    rw [hcast] at hE
    have HE := hide hE
    clear hw hstr heq hft hwn hE hcast
    by_cases hlt : a + k < b
    · have hstep : st.clr first (a + k) (b - (a + k)) = if (st.era (first + (a + k))).2 = 0 then (st.era (first + (a + k))).1.clr first (a + (k + 1)) (b - (a + (k + 1))) else st.era (first + (a + k)) := by
        obtain ⟨m, hm2⟩ : ∃ m, b - (a + k) = m + 1 := ⟨b - (a + k) - 1, by omega⟩
        rw [hm2, show b - (a + (k + 1)) = m by omega]
        rfl
      have Hf2 := hide (Hft.out.era (first + (a + k)))
      have Hw2 := hide (FlS.era_wornlen st (first + (a + k)))
      have hlI : (a : Int) + (k : Int) < (b : Int) := by omega
      obtain ⟨⟨st2, er⟩, hX⟩ : ∃ x, x = st.era (first + (a + k)) := ⟨_, rfl⟩
      rw [← hX] at HE hstep Hf2 Hw2
      clear hX
      rw [hck]
      by_cases h0 : er = 0
      · rw [if_pos h0] at hstep
        have Hstep := hide hstep
        clear hstep
        subst h0
        go_wp2_with fail
        refine HE.out.mono ?_
        clear HE
        rintro e w2 ⟨rfl, h1, h2⟩
        have H2 := hide (show (blk w.heap.size (.cells #[fptr p, .int .i64 (first : Int)] 113 (0, 0)) * (Flash p st2 * F)).on w2 from by rw [SP.mul_left_comm]; exact h1)
        have S2 := hide (Hstr.out.trans h2)
        clear h1 h2 c0 c1
        go_wp2_with fail
        refine ⟨⟨k + 1, 0, st2, by omega, congrArg (Value.int _) (by omega), Hf2.out.mono (by omega), by rw [Hw2.out]; exact Hwn.out, by rw [Heq.out, Hstep.out], H2.out, S2.out⟩, by simp [intOf]; omega⟩
      · rw [if_neg h0] at hstep
        have Hstep := hide hstep
        have e1 : (((er : Nat) : Int) != 0) = true := by simp only [bne_iff_ne, ne_eq]; omega
        clear hstep h0
        go_wp2_with fail
        refine HE.out.mono ?_
        clear HE
        rintro e w2 ⟨rfl, h1, h2⟩
        have H2 := hide (show (Flash p st2 * F).on w2 from by rw [SP.mul_left_comm] at h1; exact h1.right)
        have S2 := hide (Hstr.out.trans h2)
        clear h1 h2 c0 c1
        go_wp2_with fail
        go_ret
        exact ⟨by rw [Heq.out, Hstep.out]; rfl, by rw [Heq.out, Hstep.out]; exact H2.out, S2.out⟩
    · have hz : b - (a + k) = 0 := by omega
      have hEnd : s.clr first a (b - a) = (st, 0) := by rw [Heq.out, hz]; rfl
      have HEnd := hide hEnd
      have hlI : ¬ ((a : Int) + (k : Int) < (b : Int)) := by omega
      rw [hck]
      clear HE hz hEnd
      go_wp2_with fail
      go_ret
      exact ⟨by rw [HEnd.out]; rfl, by rw [HEnd.out]; exact Hw.out.right, Hstr.out⟩
end Go.Proofs.Ytjmgnfpcieofkaa
