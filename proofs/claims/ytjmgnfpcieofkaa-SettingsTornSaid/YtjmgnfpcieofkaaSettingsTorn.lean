/- The law SettingsTorn: wherever the power goes while records are saved, the last one is told then, or the one that was to be. -/
import Derived.Test.YtjmgnfpcieofkaaTorn4
import Derived.Test.YtjmgnfpcieofkaaRowsOpen
import Derived.Test.YtjmgnfpcieofkaaSet6

namespace Go.Proofs.Ytjmgnfpcieofkaa
open Go.ChangeShapes Go.WideShapes Go.ChangeAt Go.RowKit
set_option linter.unusedVariables false
set_option linter.unusedSimpArgs false

theorem um60 (t : Int) : ∃ k : Nat, k < 60 ∧ (IntKind.u64.wrap t).tmod 60 = (k : Int) := by
  have h0 : 0 ≤ IntKind.u64.wrap t := by rw [IntKind.wrap_u64]; omega
  refine ⟨((IntKind.u64.wrap t) % 60).toNat, by omega, ?_⟩
  rw [Int.tmod_eq_emod_of_nonneg h0]
  omega
theorem IsBytes.inAll {w w' : World} {v : Value} {l : List UInt8} (h : IsBytes w v l) (ha : (all w).on w') : IsBytes w' v l := by
  obtain ⟨a, c, rfl, h1, h2, h3, h4⟩ := h
  refine ⟨a, c, rfl, h1, h2, fun i v e => ?_, h4⟩
  obtain ⟨b, off, ea, hc⟩ := h3 i v e
  refine ⟨b, off, ea, ?_⟩
  obtain ⟨x, hs, p⟩ := ha
  have hb := World.block_lt_of_cell? _ _ hc
  have e1 : w'.heap[b]? = w.heap[b]? := by
    have e0 : w.heap[b]? = some (w.heap[b]'hb) := Array.getElem?_eq_getElem hb
    rw [e0]
    exact hs b _ ((p b hb).trans e0)
  have : w'.cell? ⟨b, off + i, Option.none⟩ = w.cell? ⟨b, off + i, Option.none⟩ := by
    unfold World.cell?
    simp only [e1]
  rw [this]
  exact hc
theorem sp_end (A B C D E F G H I J : SP) : A * (B * (C * (D * (E * (F * (G * (H * (I * J)))))))) = (H * (B * (C * J))) * (A * (D * (E * (F * (G * I))))) := by ac_rfl
theorem sp_bad (A B C D E : SP) : (A * (B * (C * D))) * E = C * (E * (A * (B * D))) := by ac_rfl
theorem sp_rot (A B C D E : SP) : A * (B * (C * (D * E))) = D * (A * (B * (C * E))) := by ac_rfl
set_option maxRecDepth 100000 in
set_option maxHeartbeats 32000000 in
theorem walk_SettingsTorn (w : World) (v0 : Value) (L : List (Value × RecS)) (b0 : IsRowsC 7 recC w v0 L) (g0 : ∀ y ∈ L, y.2.Nums ∧ IsBytes w y.1 y.2.init)
    (v1 : Value) (M : List Int) (b1 : IsRowsC 1 i64C w v1 M) (g1 : ∀ y ∈ M, -9223372036854775808 ≤ y ∧ y ≤ 9223372036854775807) (a2 : Int) (l2 : 0 ≤ a2) (u2 : a2 ≤ 4294967295) :
    Calls Try.prog 4 #[v0, v1, .int .u32 a2] w fun e w' => e = .returned (.bool true) ∧ Below w.heap.size w w' := by
  have hur := Try.underlying35
  have hui := Try.underlying3
  have huu := Try.underlying24
  have hz := rc_hz
  have hlive := lives14_any w
  obtain ⟨t, rfl⟩ := Int.eq_ofNat_of_zero_le l2
  have ht32 : t < 4294967296 := by omega
  obtain ⟨la, lc, rfl, hlc, hlm, hcell⟩ := b0
  obtain ⟨ma, mc, rfl, hmc, hmm, hcell1⟩ := b1
  have B0 := hide (show IsRowsC 7 recC w (.slice la L.length lc) L from ⟨_, _, rfl, hlc, hlm, hcell⟩)
  have B1 := hide (show IsRowsC 1 i64C w (.slice ma M.length mc) M from ⟨_, _, rfl, hmc, hmm, hcell1⟩)
  have C0 := hide hcell
  have C1 := hide hcell1
  have G0 := hide g0
  have G1 := hide g1
  clear hcell hcell1 g0 g1 l2 u2
  unfold maxLen at hlm hmm
  go_enter Try.func4, Try.ntmps4
  go_wp2_with fail
  refine hlive.mono ?_
  clear hlive
  rintro e w1 ⟨rfl, hb⟩
  by_cases hL : 12 < L.length
  · have hl2 := lives14_any w1
    have HB := hide hb
    clear hb
    go_wp2_with fail
    refine hl2.mono ?_
    rintro e w2 ⟨rfl, hb2⟩
    go_wp2_with fail
    go_ret
    exact ⟨rfl, HB.out.trans (hb2.mono HB.out.size)⟩
  have H1 := hide ((on_all w).below hb)
  have S1 := hide (Str.below hb)
  clear hb
  go_wp2_with fail
  refine (new_any 2 (by omega) (by omega) w1).mono ?_
  rintro e w2 ⟨v, rfl, ho, hs⟩
  obtain ⟨p, rfl, ho2⟩ := newQ.out ho
  have H2 := hide (on_all_to ho2 H1.out)
  have S2 := hide (S1.out.trans hs)
  have hf := first_save 2 t (by omega) (by omega) zeroS zeroS_ok (by decide)
  have Hfit := hide (FlS.Fit.new 2 (by omega) (by omega))
  clear ho ho2 hs H1 S1
  generalize FlS.new 2 = s1 at *
  obtain ⟨f1, f2, f3, f4, _⟩ := hf
  have f5 := Hfit.out.save zeroS
  have Hb0 := hide (show Between t 0 (s1.save zeroS).1 { zeroS with seq := 1 } from ⟨f2, f3, f5.mono (by omega), Nat.le_refl _, _, f4⟩)
  have hS := save_any p s1 _ 0 Hfit.out (by omega) zeroS nilV zeroS_ok (fun W _ => IsBytes.nil W) w2 H2.out
  obtain ⟨X, hX⟩ : ∃ x, x = s1.save zeroS := ⟨_, rfl⟩
  rw [← hX] at hS f1 Hb0
  clear hX f2 f3 f4 f5
  obtain ⟨s, R0, er⟩ := X
  simp only [Prod.mk.injEq] at f1
  obtain ⟨rfl, rfl⟩ := f1
  dsimp only at Hb0
  have Hq0 := hide (show ({ zeroS with seq := 1 } : RecS).Ok from ⟨by decide, by decide, by decide, by decide, by decide, by decide⟩)
  generalize ({ zeroS with seq := 1 } : RecS) = R0 at *
  have HS := hide hS
  clear hS Hfit
  go_wp2_with (first | (refine wpList_build_rc0 rfl rfl ?_))
  refine HS.out.mono ?_
  clear HS
  rintro e w3 ⟨iv0, rfl, ho, hs⟩
  have HoA := hide (rc_one (s := R0) (iv := iv0) (own_slice ho))
  have HsA := hide (rc_info R0 iv0)
  have h1 := ho.alloc (.cells (recCells zeroS nilV) 35)
  have gA := on_blk_mul h1
  have H4 := hide (h1.setRow (recCells R0 iv0))
  have S4 := hide (((S2.out.trans hs).alloc (.cells (recCells zeroS nilV) 35)).setRow w3.heap.size (recCells R0 iv0))
  clear ho hs h1 H2 S2
  dsimp only
  try rw [show ((0 : Nat) : Int) = 0 from rfl]
  go_wp2_with (first | (refine wpList_store_row rfl _ _ _ rfl w3.heap.size (recCells R0 iv0) rfl rfl _ _ gA HsA.out rfl HoA.out ?_; clear gA) | fail)
  generalize (w3.alloc (.cells (recCells zeroS nilV) 35)).setRow w3.heap.size (recCells R0 iv0) = w4 at *
  generalize w3.heap.size = g9 at *
  clear HoA HsA
  clear Hq0
  go_loopw [41] (fun i wr => ∃ (k : Nat) (s : FlS) (R : RecS) (iv : Value), k ≤ L.length ∧ i = .int .i64 k ∧ Between t k s R ∧ (blk g9 (.cells (recCells R iv) 35 (0, 0)) * (ownR iv R.init * (Flash p s * all w))).on wr ∧ Str w wr) (fun i _ => L.length - (intOf i).toNat)
  case atStart => exact ⟨0, s, R0, iv0, by omega, rfl, Hb0.out, H4.out, S4.out⟩
  case round =>
    clear H4 S4 Hb0
    obtain ⟨k, s, R, iv, hk, rfl, hbt, hw, hstr⟩ := hrel
    by_cases hkl : k < L.length
    · obtain ⟨⟨u, x⟩, hku⟩ : ∃ y, L[k]? = some y := ⟨_, List.getElem?_eq_getElem hkl⟩
      have hB := all_below hw.right.right.right hstr
      have hgu := G0.out _ (List.mem_of_getElem? hku)
      obtain ⟨b, off, rfl, _⟩ := C0.out _ _ hku
      have hcx := B0.out.cell hB k hku
      obtain ⟨hnx, hbx⟩ := hgu
      simp only at hnx hbx hcx
      have HBX := hide hbx
      obtain ⟨xa, xc, rfl, hxc, hxm, _, _⟩ := hbx
      unfold maxLen at hxm
      have Hcx := hide hcx
      have Hnx := hide hnx
      have Hbt := hide hbt
      have hone := rc_one (s := x) (iv := .slice xa x.init.length xc) ⟨_, _, _, rfl⟩
      have hsz := rc_info x (.slice xa x.init.length xc)
      have h1 := hw.alloc (.cells (recCells zeroS nilV) 35)
      have gA := hide (on_blk_mul h1)
      have h5 := h1.setRow (recCells x (.slice xa x.init.length xc))
      have bx := boxCells (on_blk_mul h5)
      have H5 := hide h5
      have S5 := hide ((hstr.alloc (.cells (recCells zeroS nilV) 35)).setRow wr.heap.size (recCells x (.slice xa x.init.length xc)))
      have Hone := hide hone
      have Hsz := hide hsz
      clear hw hstr hB hbt hnx hcx h1 h5 hone hsz hku
      have c6 := bx.2.2.2.2.2.2
      clear bx
      obtain ⟨nx, hnx⟩ : ∃ n, n = x.init.length := ⟨_, rfl⟩
      have Hnx2 := hide hnx
      rw [← hnx] at hxc Hcx HBX Hone Hsz H5 S5 c6
      clear hnx
      have hstop : ∀ p : Prop, Hid p → p := fun _ h => h.out
      go_wp2_with (first
        | (refine wpList_load_part rfl _ _ rfl b (off + k * 7) rfl (recCells x (.slice xa nx xc)) _ Hcx.out hur rfl Hsz.out ?_)
        | (refine wpList_store_row rfl _ _ _ rfl wr.heap.size (recCells x (.slice xa nx xc)) rfl rfl _ _ gA.out Hsz.out rfl Hone.out ?_; refine hstop _ ?_))
      refine hide ?_
      clear hstop gA Hone Hcx
      generalize (wr.alloc (.cells (recCells zeroS nilV) 35)).setRow wr.heap.size (recCells x (.slice xa nx xc)) = W12 at *
      generalize wr.heap.size = g12b at *
      by_cases h200 : 200 < nx
      · go_wp2_with fail
        go_ret
        exact ⟨rfl, all_below H5.out.right.right.right.right S5.out⟩
      by_cases hkm : k < M.length
      · obtain ⟨m, hmk⟩ : ∃ y, M[k]? = some y := ⟨_, List.getElem?_eq_getElem hkm⟩
        obtain ⟨b2, off2, rfl, _⟩ := C1.out _ _ hmk
        have hcm := B1.out.cell (all_below H5.out.right.right.right.right S5.out) k hmk 0 _ rfl
        simp only [Nat.mul_one, Nat.add_zero] at hcm
        clear hmk
        go_wp2_with fail
        obtain ⟨kk, hkk, hq⟩ := um60 m
        have hw1 : wrap64 (kk : Int) = (kk : Int) := IntWalk.wrap64_in _ (by omega)
        rw [hq, hw1, tear_eq t k ht32]
        clear hw1 hq
        have h6 := H5.out
        rw [sp_rot] at h6
        refine (fail_any p s _ _ h6 kk (tearK t k)).mono ?_
        rintro e W13 ⟨rfl, h7, hs7⟩
        have HokX := hide (Hnx.out.ok (by rw [← Hnx2.out]; omega))
        have hbt := Hbt.out
        have Hbo := Hbt
        have hf : (s.fail kk (tearK t k)).Up (tearK t k) ∧ (s.fail kk (tearK t k)).worn.length = 2 ∧ (s.fail kk (tearK t k)).Fit (k * 252 + 300) ∧ _ := ⟨hbt.live.fail kk _ (by omega) (tearK_lt t k ht32), hbt.worn, hbt.fit.fail kk _ (by omega) (tearK_lt t k ht32),
          save_round (x := x) (by omega) (hbt.live.fail kk _ (by omega) (tearK_lt t k ht32)) hbt.worn (hbt.fit.fail kk _ (by omega) (tearK_lt t k ht32)) hbt.seq (by obtain ⟨pl, h⟩ := hbt.two; exact ⟨pl, h.same rfl rfl⟩) HokX.out⟩
        have Hfs := hide hf
        have H13 := hide h7
        have S13 := hide (S5.out.trans hs7)
        clear h6 h7 hs7 hf Hbt H5 S5 hbt c6 hcm
        replace H13 : Hid ((Flash p (s.fail kk (tearK t k)) * _).on W13) := H13
        generalize s.fail kk (tearK t k) = s1 at *
        obtain ⟨X, hX⟩ : ∃ y, y = s1.save x := ⟨_, rfl⟩
        have hS := save_any p s1 _ (k * 252 + 300) Hfs.out.2.2.1 (by omega) x (.slice xa nx xc) HokX.out (fun W h => HBX.out.inAll h.right.right.right) W13 H13.out
        have hRnd := Hfs.out.2.2.2
        rw [← hX] at hS hRnd
        clear hX
        obtain ⟨s2, r2, er⟩ := X
        have HRnd := hide hRnd
        have g12 := on_blk_mul H13.out.right
        have HS := hide hS
        clear hS hRnd
        go_wp2_with (first | (refine wpList_load_row_g (by kernel_rfl) _ _ rfl g12b rfl _ (recCells x (.slice xa nx xc)) _ _ g12 hur rfl Hsz.out ?_) | fail)
        refine HS.out.mono ?_
        clear HS g12
        rintro e W14 ⟨iv2, rfl, ho, hs⟩
        simp only at ho
        have HoA := hide (rc_one (s := r2) (iv := iv2) (own_slice ho))
        have HsA := hide (rc_info r2 iv2)
        have h1 := ho.alloc (.cells (recCells zeroS nilV) 35)
        have gA := on_blk_mul h1
        have H15 := hide (h1.setRow (recCells r2 iv2))
        have S15 := hide (((S13.out.trans hs).alloc (.cells (recCells zeroS nilV) 35)).setRow W14.heap.size (recCells r2 iv2))
        have g12 := on_blk_mul H15.out.right.right.right
        have hR := right_any x (.slice xa nx xc) ((W14.alloc (.cells (recCells zeroS nilV) 35)).setRow W14.heap.size (recCells r2 iv2)) HokX.out (HBX.out.inAll H15.out.right.right.right.right.right.right)
        have HR := hide hR
        clear ho hs h1 hR H13 S13
        dsimp only
        go_wp2_with (first
          | (refine wpList_store_row rfl _ _ _ rfl W14.heap.size (recCells r2 iv2) rfl rfl _ _ gA HsA.out rfl HoA.out ?_; clear gA)
          | (refine wpList_load_row_g (by kernel_rfl) _ _ rfl g12b rfl _ (recCells x (.slice xa nx xc)) _ _ g12 hur rfl Hsz.out ?_))
        refine HR.out.mono ?_
        clear HR g12
        rintro e W16 ⟨rfl, hb⟩
        have H16 := hide (H15.out.below hb)
        have S16 := hide (S15.out.trans (Str.below hb))
        generalize (W14.alloc (.cells (recCells zeroS nilV) 35)).setRow W14.heap.size (recCells r2 iv2) = W15 at *
        generalize W14.heap.size = g13b at *
        clear hb H15 S15 HoA HsA
        rcases HRnd.out with ⟨hr, he, hbt⟩ | ⟨hr, hrest⟩
        · simp only [Prod.mk.injEq] at he
          obtain ⟨rfl, rfl⟩ := he
          rw [hr]
          have h7 := H16.out.right.right
          have Hbt2 := hide hbt
          clear HRnd hbt
          have hP := power_any p s2 _ W16 h7
          go_wp2_with fail
          refine hP.mono ?_
          clear hP
          rintro e W17 ⟨⟨_, rfl⟩, h8, hs8⟩
          replace h8 : (Flash p s2.power * (blk g12b (.cells (recCells x (.slice xa nx xc)) 35 (0, 0)) * (blk g9 (.cells (recCells R iv) 35 (0, 0)) * (ownR iv R.init * all w)))).on W17 := h8
          have h9 : ((blk g9 (.cells (recCells R iv) 35 (0, 0)) * (ownR iv R.init * (Flash p s2.power * all w))) * blk g12b (.cells (recCells x (.slice xa nx xc)) 35 (0, 0))).on W17 := by
            rw [sp_bad]
            exact h8
          have H17 := hide h9.left
          have S17 := hide (S16.out.trans hs8)
          replace Hbt2 : Hid (Between t (k + 1) s2.power R) := Hbt2
          clear h7 h8 h9 hs8 H16 S16
          generalize s2.power = s3 at *
          go_wp2_with fail
          exact ⟨⟨k + 1, s3, R, iv, by omega, by simp, Hbt2.out, H17.out, S17.out⟩, by simp [intOf]; omega⟩
        · rw [hr]
          obtain ⟨q, hq⟩ : ∃ q, q = ({ x with seq := R.seq + 1 } : RecS) := ⟨_, rfl⟩
          obtain ⟨G, er2, hcs, hbt⟩ : ∃ G er2, (er2 = 0 ∧ r2 = q ∧ er = 0 ∧ G = q ∨ er2 = 1 ∧ r2 = zeroS ∧ er = 5 ∧ G = R ∨ er2 = 2 ∧ r2 = zeroS ∧ er = 5 ∧ G = q) ∧ Between t (k + 1) s2.power G := by
            rcases hrest with ⟨h1, h2⟩ | ⟨h1, h2⟩ | ⟨h1, h2⟩
            · simp only [Prod.mk.injEq] at h1
              exact ⟨_, 0, .inl ⟨rfl, by rw [h1.1, hq], h1.2, hq.symm⟩, h2⟩
            · simp only [Prod.mk.injEq] at h1
              exact ⟨_, 1, .inr (.inl ⟨rfl, h1.1, h1.2, rfl⟩), h2⟩
            · simp only [Prod.mk.injEq] at h1
              exact ⟨_, 2, .inr (.inr ⟨rfl, h1.1, h1.2, hq.symm⟩), h2⟩
          have hqs : q.seq = R.seq + 1 := by rw [hq]
          have hqi : q.init.length = nx := by rw [hq, Hnx2.out]
          have hqb : q.init = x.init := by rw [hq]
          have Hcs := hide hcs
          have Hbt3 := hide hbt
          have hRq : R.seq ≤ 12 := by have := Hbo.out.seq; omega
          have Hld := hide (hbt.load (by omega))
          have Hlo := hide hbt.live
          clear hrest hcs hbt HRnd
          have h1 := H16.out.alloc (.cells (recCells zeroS nilV) 35)
          have gA := on_blk_mul h1
          have h2 := h1.setRow (recCells x (.slice xa nx xc))
          have c15 := (boxCells (on_blk_mul h2)).1
          have fr := frozen_of_row _ _ 0 _ _ (on_blk_mul h2)
          have c9 := (boxCells (on_blk_mul h2.right.right.right.right.right)).1
          have g12 := on_blk_mul H16.out.right.right.right
          have h3 := h2.setCell (i := 0) (.int .u32 ((R.seq : Int) + 1))
          rw [rc_seq, ← hq] at h3
          have H17 := hide h3
          have S17 := hide (((S16.out.alloc (.cells (recCells zeroS nilV) 35)).setRow W16.heap.size (recCells x (.slice xa nx xc))).setCell ⟨W16.heap.size, 0, Option.none⟩ (.int .u32 ((R.seq : Int) + 1)))
          have HoX := hide (rc_one (s := x) (iv := .slice xa nx xc) ⟨_, _, _, rfl⟩)
          have h4 := h3
          rw [sp_rot] at h4
          have hP := hide (power_any p s2 _ _ h4)
          have Hqs := hide hqs
          have Hqb := hide hqb
          clear hqb hqi
          clear h1 h2 h3 h4 H16 S16 hq hqs
          go_wp2_with (first
            | (refine wpList_store_row rfl _ _ _ rfl W16.heap.size (recCells x (.slice xa nx xc)) rfl rfl _ _ gA Hsz.out rfl HoX.out ?_; clear gA)
            | (refine wpList_load_row_g (by kernel_rfl) _ _ rfl g12b rfl _ (recCells x (.slice xa nx xc)) _ _ g12 hur rfl Hsz.out ?_))
          refine hP.out.mono ?_
          clear hP g12
          rintro e W18 ⟨⟨_, rfl⟩, h8, hs8⟩
          have HQ18 := hide H17
          have S18 := hide (S17.out.trans hs8)
          have hwn3 : s2.power.Live := Hlo.out
          clear H17 S17 HQ18 c15 c9 fr HoX
          replace h8 : (Flash p s2.power * (blk W16.heap.size (.cells (recCells q (.slice xa nx xc)) 35 (0, 0)) * (blk g13b (.cells (recCells r2 iv2) 35 (0, 0)) * (ownR iv2 r2.init * (blk g12b (.cells (recCells x (.slice xa nx xc)) 35 (0, 0)) * (blk g9 (.cells (recCells R iv) 35 (0, 0)) * (ownR iv R.init * all w))))))).on W18 := h8
          have H18 := hide h8
          replace Hbt3 : Hid (Between t (k + 1) s2.power G) := Hbt3
          replace Hld : Hid (s2.power.load.1 = G ∧ s2.power.load.2.2 = 0) := Hld
          clear h8 hs8 Hlo
          generalize s2.power = s3 at *
          generalize W16.heap.size = g15b at *
          have hL := load_any p s3 _ W18 H18.out hwn3.ok
          obtain ⟨Y, hY⟩ : ∃ y, y = s3.load := ⟨_, rfl⟩
          have hld := Hld.out
          rw [← hY] at hL hld
          clear hY hwn3 Hld
          obtain ⟨G2, pg, e0⟩ := Y
          obtain ⟨rfl, rfl⟩ : G2 = G ∧ e0 = 0 := hld
          have HL := hide hL
          clear hL
          go_wp2_with fail
          refine HL.out.mono ?_
          clear HL
          rintro e W19 ⟨iv3, rfl, ho, hs⟩
          simp only at ho
          have HoB := hide (rc_one (s := G2) (iv := iv3) (own_slice ho))
          have HsB := hide (rc_info G2 iv3)
          have h1 := (on_all_to ho H18.out).alloc (.cells (recCells zeroS nilV) 35)
          have gA := on_blk_mul h1
          have h2 := h1.setRow (recCells G2 iv3)
          have H20 := hide h2
          have S20 := hide (((S18.out.trans hs).alloc (.cells (recCells zeroS nilV) 35)).setRow W19.heap.size (recCells G2 iv3))
          have HsQ := hide (rc_info q (.slice xa nx xc))
          have HsA := hide (rc_info r2 iv2)
          have HsR := hide (rc_info R iv)
          clear ho hs h1 h2 H18 S18
          dsimp only
          try rw [show ((0 : Nat) : Int) = 0 from rfl]
          have hstop : ∀ p : Prop, Hid p → p := fun _ h => h.out
          go_wp2_with (first
            | (refine wpList_store_row rfl _ _ _ rfl W19.heap.size (recCells G2 iv3) rfl rfl _ _ gA HsB.out rfl HoB.out ?_; refine hstop _ ?_))
          refine hide ?_
          clear hstop gA
          generalize (W19.alloc (.cells (recCells zeroS nilV) 35)).setRow W19.heap.size (recCells G2 iv3) = W20 at *
          generalize W19.heap.size = g16b at *
          have HbI3 := hide (own_bytes (H20.out).right)
          have HbX := hide (show IsBytes _ (.slice xa nx xc) q.init from by rw [Hqb.out]; exact (HBX.out.inAll (H20.out).right.right.right.right.right.right.right.right.right))
          have HbI2 := hide (own_bytes (H20.out).right.right.right.right.right)
          have HbR := hide (own_bytes (H20.out).right.right.right.right.right.right.right.right)
          have g16 := on_blk_mul (H20.out)
          have g15 := on_blk_mul (H20.out).right.right.right
          have g13 := on_blk_mul (H20.out).right.right.right.right
          have g9c := on_blk_mul (H20.out).right.right.right.right.right.right.right
          rcases Hcs.out with ⟨_, rfl, rfl, rfl⟩ | ⟨_, rfl, rfl, rfl⟩ | ⟨_, rfl, rfl, rfl⟩
          · try rw [show ((0 : Nat) : Int) = 0 from rfl]
            go_wp2_with (first
              | go_skip
              | (refine wpList_load_row_g (by kernel_rfl) _ _ rfl g16b rfl _ (recCells G2 iv3) _ _ g16 hur rfl HsB.out ?_)
              | (refine wpList_load_row_g (by kernel_rfl) _ _ rfl g15b rfl _ (recCells G2 (.slice xa nx xc)) _ _ g15 hur rfl HsQ.out ?_)
              | (refine wpList_load_row_g (by kernel_rfl) _ _ rfl g13b rfl _ (recCells G2 iv2) _ _ g13 hur rfl HsA.out ?_)
              | (refine wpList_load_row_g (by kernel_rfl) _ _ rfl g9 rfl _ (recCells R iv) _ _ g9c hur rfl HsR.out ?_)
              | (refine wpList_store_row rfl _ _ _ rfl g9 (recCells G2 iv3) rfl rfl _ _ g9c HsB.out rfl HoB.out ?_))
            refine (recsame_any G2 iv2 _ _ HbI2.out HbX.out).mono ?_
            clear HbI3 HbX HbI2 HbR g16 g15 g13 g9c
            rintro e W21 ⟨rfl, hb⟩
            have h21 := H20.out.below hb
            have S21 := hide (S20.out.trans (Str.below hb))
            clear hb H20 S20
            have HbI3 := hide (own_bytes (h21).right)
            have HbX := hide (show IsBytes _ (.slice xa nx xc) G2.init from by rw [Hqb.out]; exact (HBX.out.inAll (h21).right.right.right.right.right.right.right.right.right))
            have HbI2 := hide (own_bytes (h21).right.right.right.right.right)
            have HbR := hide (own_bytes (h21).right.right.right.right.right.right.right.right)
            have g16 := on_blk_mul (h21)
            have g15 := on_blk_mul (h21).right.right.right
            have g13 := on_blk_mul (h21).right.right.right.right
            have g9c := on_blk_mul (h21).right.right.right.right.right.right.right
            have H20 := hide h21
            have S20 := S21
            clear h21 S21
            go_wp2_with (first
              | go_skip
              | (refine wpList_load_row_g (by kernel_rfl) _ _ rfl g16b rfl _ (recCells G2 iv3) _ _ g16 hur rfl HsB.out ?_)
              | (refine wpList_load_row_g (by kernel_rfl) _ _ rfl g15b rfl _ (recCells G2 (.slice xa nx xc)) _ _ g15 hur rfl HsQ.out ?_)
              | (refine wpList_load_row_g (by kernel_rfl) _ _ rfl g13b rfl _ (recCells G2 iv2) _ _ g13 hur rfl HsA.out ?_)
              | (refine wpList_load_row_g (by kernel_rfl) _ _ rfl g9 rfl _ (recCells R iv) _ _ g9c hur rfl HsR.out ?_)
              | (refine wpList_store_row rfl _ _ _ rfl g9 (recCells G2 iv3) rfl rfl _ _ g9c HsB.out rfl HoB.out ?_))
            refine (recsame_any G2 iv3 _ _ HbI3.out HbX.out).mono ?_
            clear HbI3 HbX HbI2 HbR g16 g15 g13 g9c
            rintro e W21 ⟨rfl, hb⟩
            have h21 := H20.out.below hb
            have S21 := hide (S20.out.trans (Str.below hb))
            clear hb H20 S20
            have HbI3 := hide (own_bytes (h21).right)
            have HbX := hide (show IsBytes _ (.slice xa nx xc) G2.init from by rw [Hqb.out]; exact (HBX.out.inAll (h21).right.right.right.right.right.right.right.right.right))
            have HbI2 := hide (own_bytes (h21).right.right.right.right.right)
            have HbR := hide (own_bytes (h21).right.right.right.right.right.right.right.right)
            have g16 := on_blk_mul (h21)
            have g15 := on_blk_mul (h21).right.right.right
            have g13 := on_blk_mul (h21).right.right.right.right
            have g9c := on_blk_mul (h21).right.right.right.right.right.right.right
            have H20 := hide h21
            have S20 := S21
            clear h21 S21
            have h22 := H20.out
            rw [sp_end] at h22
            have h23 := h22
            rw [SP.mul_assoc] at h23
            have H22 := hide (h23.setRow (recCells G2 iv3))
            rw [← SP.mul_assoc] at H22
            go_wp2_with (first
              | go_skip
              | (refine wpList_load_row rfl _ _ rfl g16b rfl _ (recCells G2 iv3) _ _ g16 hur rfl HsB.out ?_)
              | (refine wpList_store_row rfl _ _ _ rfl g9 (recCells G2 iv3) rfl rfl _ _ g9c HsB.out rfl HoB.out ?_))
            exact ⟨⟨k + 1, s3, G2, iv3, by omega, by simp, Hbt3.out, H22.out.left, S20.out.setRow _ _⟩, by simp [intOf]; omega⟩
          · try rw [show ((5 : Nat) : Int) = 5 from rfl]
            iterate 68 (first | go_values | go_skip | go_guarded | go_step | go_upon)
            refine wpList_load_row_g (by kernel_rfl) _ _ rfl g16b rfl _ (recCells G2 iv3) _ _ g16 hur rfl HsB.out ?_
            refine wpList_load_row_g (by kernel_rfl) _ _ rfl g9 rfl _ (recCells G2 iv) _ _ g9c hur rfl HsR.out ?_
            go_wp2_with fail
            refine (recsame_any G2 iv3 _ _ HbI3.out HbR.out).mono ?_
            clear HbI3 HbX HbI2 HbR g16 g15 g13 g9c
            rintro e W21 ⟨rfl, hb⟩
            have h21 := H20.out.below hb
            have S21 := hide (S20.out.trans (Str.below hb))
            clear hb H20 S20
            have HbI3 := hide (own_bytes (h21).right)
            have HbX := hide (show IsBytes _ (.slice xa nx xc) q.init from by rw [Hqb.out]; exact (HBX.out.inAll (h21).right.right.right.right.right.right.right.right.right))
            have HbI2 := hide (own_bytes (h21).right.right.right.right.right)
            have HbR := hide (own_bytes (h21).right.right.right.right.right.right.right.right)
            have g16 := on_blk_mul (h21)
            have g15 := on_blk_mul (h21).right.right.right
            have g13 := on_blk_mul (h21).right.right.right.right
            have g9c := on_blk_mul (h21).right.right.right.right.right.right.right
            have H20 := hide h21
            have S20 := S21
            clear h21 S21
            have h22 := H20.out
            rw [sp_end] at h22
            have h23 := h22
            rw [SP.mul_assoc] at h23
            have H22 := hide (h23.setRow (recCells G2 iv3))
            rw [← SP.mul_assoc] at H22
            go_wp2_with (first
              | go_skip
              | (refine wpList_load_row rfl _ _ rfl g16b rfl _ (recCells G2 iv3) _ _ g16 hur rfl HsB.out ?_)
              | (refine wpList_store_row rfl _ _ _ rfl g9 (recCells G2 iv3) rfl rfl _ _ g9c HsB.out rfl HoB.out ?_))
            exact ⟨⟨k + 1, s3, G2, iv3, by omega, by simp, Hbt3.out, H22.out.left, S20.out.setRow _ _⟩, by simp [intOf]; omega⟩
          · try rw [show ((5 : Nat) : Int) = 5 from rfl]
            iterate 68 (first | go_values | go_skip | go_guarded | go_step | go_upon)
            refine wpList_load_row_g (by kernel_rfl) _ _ rfl g16b rfl _ (recCells G2 iv3) _ _ g16 hur rfl HsB.out ?_
            refine wpList_load_row_g (by kernel_rfl) _ _ rfl g9 rfl _ (recCells R iv) _ _ g9c hur rfl HsR.out ?_
            go_wp2_with fail
            refine (recsame_ne G2 R iv3 _ _ (by rw [Hqs.out]; omega) HbI3.out HbR.out).mono ?_
            clear HbI3 HbX HbI2 HbR g16 g15 g13 g9c
            rintro e W21 ⟨rfl, hb⟩
            have h21 := H20.out.below hb
            have S21 := hide (S20.out.trans (Str.below hb))
            clear hb H20 S20
            have HbI3 := hide (own_bytes (h21).right)
            have HbX := hide (show IsBytes _ (.slice xa nx xc) G2.init from by rw [Hqb.out]; exact (HBX.out.inAll (h21).right.right.right.right.right.right.right.right.right))
            have HbI2 := hide (own_bytes (h21).right.right.right.right.right)
            have HbR := hide (own_bytes (h21).right.right.right.right.right.right.right.right)
            have g16 := on_blk_mul (h21)
            have g15 := on_blk_mul (h21).right.right.right
            have g13 := on_blk_mul (h21).right.right.right.right
            have g9c := on_blk_mul (h21).right.right.right.right.right.right.right
            have H20 := hide h21
            have S20 := S21
            clear h21 S21
            go_wp2_with (first
              | (refine wpList_load_row_g (by kernel_rfl) _ _ rfl g16b rfl _ (recCells G2 iv3) _ _ g16 hur rfl HsB.out ?_)
              | (refine wpList_load_row_g (by kernel_rfl) _ _ rfl g15b rfl _ (recCells G2 (.slice xa nx xc)) _ _ g15 hur rfl HsQ.out ?_))
            refine (recsame_any G2 iv3 _ _ HbI3.out HbX.out).mono ?_
            clear HbI3 HbX HbI2 HbR g16 g15 g13 g9c
            rintro e W21 ⟨rfl, hb⟩
            have h21 := H20.out.below hb
            have S21 := hide (S20.out.trans (Str.below hb))
            clear hb H20 S20
            have HbI3 := hide (own_bytes (h21).right)
            have HbX := hide (show IsBytes _ (.slice xa nx xc) G2.init from by rw [Hqb.out]; exact (HBX.out.inAll (h21).right.right.right.right.right.right.right.right.right))
            have HbI2 := hide (own_bytes (h21).right.right.right.right.right)
            have HbR := hide (own_bytes (h21).right.right.right.right.right.right.right.right)
            have g16 := on_blk_mul (h21)
            have g15 := on_blk_mul (h21).right.right.right
            have g13 := on_blk_mul (h21).right.right.right.right
            have g9c := on_blk_mul (h21).right.right.right.right.right.right.right
            have H20 := hide h21
            have S20 := S21
            clear h21 S21
            have h22 := H20.out
            rw [sp_end] at h22
            have h23 := h22
            rw [SP.mul_assoc] at h23
            have H22 := hide (h23.setRow (recCells G2 iv3))
            rw [← SP.mul_assoc] at H22
            go_wp2_with (first
              | go_skip
              | (refine wpList_load_row rfl _ _ rfl g16b rfl _ (recCells G2 iv3) _ _ g16 hur rfl HsB.out ?_)
              | (refine wpList_store_row rfl _ _ _ rfl g9 (recCells G2 iv3) rfl rfl _ _ g9c HsB.out rfl HoB.out ?_))
            exact ⟨⟨k + 1, s3, G2, iv3, by omega, by simp, Hbt3.out, H22.out.left, S20.out.setRow _ _⟩, by simp [intOf]; omega⟩
      · have HokX := hide (Hnx.out.ok (by rw [← Hnx2.out]; omega))
        have hbt := Hbt.out
        have Hbo := Hbt
        have hf : s.Up (tearK t k) ∧ s.worn.length = 2 ∧ s.Fit (k * 252 + 300) ∧ _ := ⟨hbt.live.up _, hbt.worn, hbt.fit, save_round (x := x) (by omega) (hbt.live.up _) hbt.worn hbt.fit hbt.seq hbt.two HokX.out⟩
        have Hfs := hide hf
        have h6 := H5.out
        rw [sp_rot] at h6
        have H13 := hide h6
        have S13 := S5
        clear h6 hf Hbt H5 S5 hbt
        obtain ⟨s1, hs1⟩ : ∃ y, y = s := ⟨_, rfl⟩
        rw [← hs1] at H13 Hfs
        clear hs1
        obtain ⟨X, hX⟩ : ∃ y, y = s1.save x := ⟨_, rfl⟩
        have hS := save_any p s1 _ (k * 252 + 300) Hfs.out.2.2.1 (by omega) x (.slice xa nx xc) HokX.out (fun W h => HBX.out.inAll h.right.right.right) W12 H13.out
        have hRnd := Hfs.out.2.2.2
        rw [← hX] at hS hRnd
        clear hX
        obtain ⟨s2, r2, er⟩ := X
        have HRnd := hide hRnd
        have g12 := on_blk_mul H13.out.right
        have HS := hide hS
        clear hS hRnd
        go_wp2_with (first | (refine wpList_load_row_g (by kernel_rfl) _ _ rfl g12b rfl _ (recCells x (.slice xa nx xc)) _ _ g12 hur rfl Hsz.out ?_) | fail)
        refine HS.out.mono ?_
        clear HS g12
        rintro e W14 ⟨iv2, rfl, ho, hs⟩
        simp only at ho
        have HoA := hide (rc_one (s := r2) (iv := iv2) (own_slice ho))
        have HsA := hide (rc_info r2 iv2)
        have h1 := ho.alloc (.cells (recCells zeroS nilV) 35)
        have gA := on_blk_mul h1
        have H15 := hide (h1.setRow (recCells r2 iv2))
        have S15 := hide (((S13.out.trans hs).alloc (.cells (recCells zeroS nilV) 35)).setRow W14.heap.size (recCells r2 iv2))
        have g12 := on_blk_mul H15.out.right.right.right
        have hR := right_any x (.slice xa nx xc) ((W14.alloc (.cells (recCells zeroS nilV) 35)).setRow W14.heap.size (recCells r2 iv2)) HokX.out (HBX.out.inAll H15.out.right.right.right.right.right.right)
        have HR := hide hR
        clear ho hs h1 hR H13 S13
        dsimp only
        go_wp2_with (first
          | (refine wpList_store_row rfl _ _ _ rfl W14.heap.size (recCells r2 iv2) rfl rfl _ _ gA HsA.out rfl HoA.out ?_; clear gA)
          | (refine wpList_load_row_g (by kernel_rfl) _ _ rfl g12b rfl _ (recCells x (.slice xa nx xc)) _ _ g12 hur rfl Hsz.out ?_))
        refine HR.out.mono ?_
        clear HR g12
        rintro e W16 ⟨rfl, hb⟩
        have H16 := hide (H15.out.below hb)
        have S16 := hide (S15.out.trans (Str.below hb))
        generalize (W14.alloc (.cells (recCells zeroS nilV) 35)).setRow W14.heap.size (recCells r2 iv2) = W15 at *
        generalize W14.heap.size = g13b at *
        clear hb H15 S15 HoA HsA
        rcases HRnd.out with ⟨hr, he, hbt⟩ | ⟨hr, hrest⟩
        · simp only [Prod.mk.injEq] at he
          obtain ⟨rfl, rfl⟩ := he
          rw [hr]
          have h7 := H16.out.right.right
          have Hbt2 := hide hbt
          clear HRnd hbt
          have hP := power_any p s2 _ W16 h7
          go_wp2_with fail
          refine hP.mono ?_
          clear hP
          rintro e W17 ⟨⟨_, rfl⟩, h8, hs8⟩
          replace h8 : (Flash p s2.power * (blk g12b (.cells (recCells x (.slice xa nx xc)) 35 (0, 0)) * (blk g9 (.cells (recCells R iv) 35 (0, 0)) * (ownR iv R.init * all w)))).on W17 := h8
          have h9 : ((blk g9 (.cells (recCells R iv) 35 (0, 0)) * (ownR iv R.init * (Flash p s2.power * all w))) * blk g12b (.cells (recCells x (.slice xa nx xc)) 35 (0, 0))).on W17 := by
            rw [sp_bad]
            exact h8
          have H17 := hide h9.left
          have S17 := hide (S16.out.trans hs8)
          replace Hbt2 : Hid (Between t (k + 1) s2.power R) := Hbt2
          clear h7 h8 h9 hs8 H16 S16
          generalize s2.power = s3 at *
          go_wp2_with fail
          exact ⟨⟨k + 1, s3, R, iv, by omega, by simp, Hbt2.out, H17.out, S17.out⟩, by simp [intOf]; omega⟩
        · rw [hr]
          obtain ⟨q, hq⟩ : ∃ q, q = ({ x with seq := R.seq + 1 } : RecS) := ⟨_, rfl⟩
          obtain ⟨G, er2, hcs, hbt⟩ : ∃ G er2, (er2 = 0 ∧ r2 = q ∧ er = 0 ∧ G = q ∨ er2 = 1 ∧ r2 = zeroS ∧ er = 5 ∧ G = R ∨ er2 = 2 ∧ r2 = zeroS ∧ er = 5 ∧ G = q) ∧ Between t (k + 1) s2.power G := by
            rcases hrest with ⟨h1, h2⟩ | ⟨h1, h2⟩ | ⟨h1, h2⟩
            · simp only [Prod.mk.injEq] at h1
              exact ⟨_, 0, .inl ⟨rfl, by rw [h1.1, hq], h1.2, hq.symm⟩, h2⟩
            · simp only [Prod.mk.injEq] at h1
              exact ⟨_, 1, .inr (.inl ⟨rfl, h1.1, h1.2, rfl⟩), h2⟩
            · simp only [Prod.mk.injEq] at h1
              exact ⟨_, 2, .inr (.inr ⟨rfl, h1.1, h1.2, hq.symm⟩), h2⟩
          have hqs : q.seq = R.seq + 1 := by rw [hq]
          have hqi : q.init.length = nx := by rw [hq, Hnx2.out]
          have hqb : q.init = x.init := by rw [hq]
          have Hcs := hide hcs
          have Hbt3 := hide hbt
          have hRq : R.seq ≤ 12 := by have := Hbo.out.seq; omega
          have Hld := hide (hbt.load (by omega))
          have Hlo := hide hbt.live
          clear hrest hcs hbt HRnd
          have h1 := H16.out.alloc (.cells (recCells zeroS nilV) 35)
          have gA := on_blk_mul h1
          have h2 := h1.setRow (recCells x (.slice xa nx xc))
          have c15 := (boxCells (on_blk_mul h2)).1
          have fr := frozen_of_row _ _ 0 _ _ (on_blk_mul h2)
          have c9 := (boxCells (on_blk_mul h2.right.right.right.right.right)).1
          have g12 := on_blk_mul H16.out.right.right.right
          have h3 := h2.setCell (i := 0) (.int .u32 ((R.seq : Int) + 1))
          rw [rc_seq, ← hq] at h3
          have H17 := hide h3
          have S17 := hide (((S16.out.alloc (.cells (recCells zeroS nilV) 35)).setRow W16.heap.size (recCells x (.slice xa nx xc))).setCell ⟨W16.heap.size, 0, Option.none⟩ (.int .u32 ((R.seq : Int) + 1)))
          have HoX := hide (rc_one (s := x) (iv := .slice xa nx xc) ⟨_, _, _, rfl⟩)
          have h4 := h3
          rw [sp_rot] at h4
          have hP := hide (power_any p s2 _ _ h4)
          have Hqs := hide hqs
          have Hqb := hide hqb
          clear hqb hqi
          clear h1 h2 h3 h4 H16 S16 hq hqs
          go_wp2_with (first
            | (refine wpList_store_row rfl _ _ _ rfl W16.heap.size (recCells x (.slice xa nx xc)) rfl rfl _ _ gA Hsz.out rfl HoX.out ?_; clear gA)
            | (refine wpList_load_row_g (by kernel_rfl) _ _ rfl g12b rfl _ (recCells x (.slice xa nx xc)) _ _ g12 hur rfl Hsz.out ?_))
          refine hP.out.mono ?_
          clear hP g12
          rintro e W18 ⟨⟨_, rfl⟩, h8, hs8⟩
          have HQ18 := hide H17
          have S18 := hide (S17.out.trans hs8)
          have hwn3 : s2.power.Live := Hlo.out
          clear H17 S17 HQ18 c15 c9 fr HoX
          replace h8 : (Flash p s2.power * (blk W16.heap.size (.cells (recCells q (.slice xa nx xc)) 35 (0, 0)) * (blk g13b (.cells (recCells r2 iv2) 35 (0, 0)) * (ownR iv2 r2.init * (blk g12b (.cells (recCells x (.slice xa nx xc)) 35 (0, 0)) * (blk g9 (.cells (recCells R iv) 35 (0, 0)) * (ownR iv R.init * all w))))))).on W18 := h8
          have H18 := hide h8
          replace Hbt3 : Hid (Between t (k + 1) s2.power G) := Hbt3
          replace Hld : Hid (s2.power.load.1 = G ∧ s2.power.load.2.2 = 0) := Hld
          clear h8 hs8 Hlo
          generalize s2.power = s3 at *
          generalize W16.heap.size = g15b at *
          have hL := load_any p s3 _ W18 H18.out hwn3.ok
          obtain ⟨Y, hY⟩ : ∃ y, y = s3.load := ⟨_, rfl⟩
          have hld := Hld.out
          rw [← hY] at hL hld
          clear hY hwn3 Hld
          obtain ⟨G2, pg, e0⟩ := Y
          obtain ⟨rfl, rfl⟩ : G2 = G ∧ e0 = 0 := hld
          have HL := hide hL
          clear hL
          go_wp2_with fail
          refine HL.out.mono ?_
          clear HL
          rintro e W19 ⟨iv3, rfl, ho, hs⟩
          simp only at ho
          have HoB := hide (rc_one (s := G2) (iv := iv3) (own_slice ho))
          have HsB := hide (rc_info G2 iv3)
          have h1 := (on_all_to ho H18.out).alloc (.cells (recCells zeroS nilV) 35)
          have gA := on_blk_mul h1
          have h2 := h1.setRow (recCells G2 iv3)
          have H20 := hide h2
          have S20 := hide (((S18.out.trans hs).alloc (.cells (recCells zeroS nilV) 35)).setRow W19.heap.size (recCells G2 iv3))
          have HsQ := hide (rc_info q (.slice xa nx xc))
          have HsA := hide (rc_info r2 iv2)
          have HsR := hide (rc_info R iv)
          clear ho hs h1 h2 H18 S18
          dsimp only
          try rw [show ((0 : Nat) : Int) = 0 from rfl]
          have hstop : ∀ p : Prop, Hid p → p := fun _ h => h.out
          go_wp2_with (first
            | (refine wpList_store_row rfl _ _ _ rfl W19.heap.size (recCells G2 iv3) rfl rfl _ _ gA HsB.out rfl HoB.out ?_; refine hstop _ ?_))
          refine hide ?_
          clear hstop gA
          generalize (W19.alloc (.cells (recCells zeroS nilV) 35)).setRow W19.heap.size (recCells G2 iv3) = W20 at *
          generalize W19.heap.size = g16b at *
          have HbI3 := hide (own_bytes (H20.out).right)
          have HbX := hide (show IsBytes _ (.slice xa nx xc) q.init from by rw [Hqb.out]; exact (HBX.out.inAll (H20.out).right.right.right.right.right.right.right.right.right))
          have HbI2 := hide (own_bytes (H20.out).right.right.right.right.right)
          have HbR := hide (own_bytes (H20.out).right.right.right.right.right.right.right.right)
          have g16 := on_blk_mul (H20.out)
          have g15 := on_blk_mul (H20.out).right.right.right
          have g13 := on_blk_mul (H20.out).right.right.right.right
          have g9c := on_blk_mul (H20.out).right.right.right.right.right.right.right
          rcases Hcs.out with ⟨_, rfl, rfl, rfl⟩ | ⟨_, rfl, rfl, rfl⟩ | ⟨_, rfl, rfl, rfl⟩
          · try rw [show ((0 : Nat) : Int) = 0 from rfl]
            go_wp2_with (first
              | go_skip
              | (refine wpList_load_row_g (by kernel_rfl) _ _ rfl g16b rfl _ (recCells G2 iv3) _ _ g16 hur rfl HsB.out ?_)
              | (refine wpList_load_row_g (by kernel_rfl) _ _ rfl g15b rfl _ (recCells G2 (.slice xa nx xc)) _ _ g15 hur rfl HsQ.out ?_)
              | (refine wpList_load_row_g (by kernel_rfl) _ _ rfl g13b rfl _ (recCells G2 iv2) _ _ g13 hur rfl HsA.out ?_)
              | (refine wpList_load_row_g (by kernel_rfl) _ _ rfl g9 rfl _ (recCells R iv) _ _ g9c hur rfl HsR.out ?_)
              | (refine wpList_store_row rfl _ _ _ rfl g9 (recCells G2 iv3) rfl rfl _ _ g9c HsB.out rfl HoB.out ?_))
            refine (recsame_any G2 iv2 _ _ HbI2.out HbX.out).mono ?_
            clear HbI3 HbX HbI2 HbR g16 g15 g13 g9c
            rintro e W21 ⟨rfl, hb⟩
            have h21 := H20.out.below hb
            have S21 := hide (S20.out.trans (Str.below hb))
            clear hb H20 S20
            have HbI3 := hide (own_bytes (h21).right)
            have HbX := hide (show IsBytes _ (.slice xa nx xc) G2.init from by rw [Hqb.out]; exact (HBX.out.inAll (h21).right.right.right.right.right.right.right.right.right))
            have HbI2 := hide (own_bytes (h21).right.right.right.right.right)
            have HbR := hide (own_bytes (h21).right.right.right.right.right.right.right.right)
            have g16 := on_blk_mul (h21)
            have g15 := on_blk_mul (h21).right.right.right
            have g13 := on_blk_mul (h21).right.right.right.right
            have g9c := on_blk_mul (h21).right.right.right.right.right.right.right
            have H20 := hide h21
            have S20 := S21
            clear h21 S21
            go_wp2_with (first
              | go_skip
              | (refine wpList_load_row_g (by kernel_rfl) _ _ rfl g16b rfl _ (recCells G2 iv3) _ _ g16 hur rfl HsB.out ?_)
              | (refine wpList_load_row_g (by kernel_rfl) _ _ rfl g15b rfl _ (recCells G2 (.slice xa nx xc)) _ _ g15 hur rfl HsQ.out ?_)
              | (refine wpList_load_row_g (by kernel_rfl) _ _ rfl g13b rfl _ (recCells G2 iv2) _ _ g13 hur rfl HsA.out ?_)
              | (refine wpList_load_row_g (by kernel_rfl) _ _ rfl g9 rfl _ (recCells R iv) _ _ g9c hur rfl HsR.out ?_)
              | (refine wpList_store_row rfl _ _ _ rfl g9 (recCells G2 iv3) rfl rfl _ _ g9c HsB.out rfl HoB.out ?_))
            refine (recsame_any G2 iv3 _ _ HbI3.out HbX.out).mono ?_
            clear HbI3 HbX HbI2 HbR g16 g15 g13 g9c
            rintro e W21 ⟨rfl, hb⟩
            have h21 := H20.out.below hb
            have S21 := hide (S20.out.trans (Str.below hb))
            clear hb H20 S20
            have HbI3 := hide (own_bytes (h21).right)
            have HbX := hide (show IsBytes _ (.slice xa nx xc) G2.init from by rw [Hqb.out]; exact (HBX.out.inAll (h21).right.right.right.right.right.right.right.right.right))
            have HbI2 := hide (own_bytes (h21).right.right.right.right.right)
            have HbR := hide (own_bytes (h21).right.right.right.right.right.right.right.right)
            have g16 := on_blk_mul (h21)
            have g15 := on_blk_mul (h21).right.right.right
            have g13 := on_blk_mul (h21).right.right.right.right
            have g9c := on_blk_mul (h21).right.right.right.right.right.right.right
            have H20 := hide h21
            have S20 := S21
            clear h21 S21
            have h22 := H20.out
            rw [sp_end] at h22
            have h23 := h22
            rw [SP.mul_assoc] at h23
            have H22 := hide (h23.setRow (recCells G2 iv3))
            rw [← SP.mul_assoc] at H22
            go_wp2_with (first
              | go_skip
              | (refine wpList_load_row rfl _ _ rfl g16b rfl _ (recCells G2 iv3) _ _ g16 hur rfl HsB.out ?_)
              | (refine wpList_store_row rfl _ _ _ rfl g9 (recCells G2 iv3) rfl rfl _ _ g9c HsB.out rfl HoB.out ?_))
            exact ⟨⟨k + 1, s3, G2, iv3, by omega, by simp, Hbt3.out, H22.out.left, S20.out.setRow _ _⟩, by simp [intOf]; omega⟩
          · try rw [show ((5 : Nat) : Int) = 5 from rfl]
            iterate 68 (first | go_values | go_skip | go_guarded | go_step | go_upon)
            refine wpList_load_row_g (by kernel_rfl) _ _ rfl g16b rfl _ (recCells G2 iv3) _ _ g16 hur rfl HsB.out ?_
            refine wpList_load_row_g (by kernel_rfl) _ _ rfl g9 rfl _ (recCells G2 iv) _ _ g9c hur rfl HsR.out ?_
            go_wp2_with fail
            refine (recsame_any G2 iv3 _ _ HbI3.out HbR.out).mono ?_
            clear HbI3 HbX HbI2 HbR g16 g15 g13 g9c
            rintro e W21 ⟨rfl, hb⟩
            have h21 := H20.out.below hb
            have S21 := hide (S20.out.trans (Str.below hb))
            clear hb H20 S20
            have HbI3 := hide (own_bytes (h21).right)
            have HbX := hide (show IsBytes _ (.slice xa nx xc) q.init from by rw [Hqb.out]; exact (HBX.out.inAll (h21).right.right.right.right.right.right.right.right.right))
            have HbI2 := hide (own_bytes (h21).right.right.right.right.right)
            have HbR := hide (own_bytes (h21).right.right.right.right.right.right.right.right)
            have g16 := on_blk_mul (h21)
            have g15 := on_blk_mul (h21).right.right.right
            have g13 := on_blk_mul (h21).right.right.right.right
            have g9c := on_blk_mul (h21).right.right.right.right.right.right.right
            have H20 := hide h21
            have S20 := S21
            clear h21 S21
            have h22 := H20.out
            rw [sp_end] at h22
            have h23 := h22
            rw [SP.mul_assoc] at h23
            have H22 := hide (h23.setRow (recCells G2 iv3))
            rw [← SP.mul_assoc] at H22
            go_wp2_with (first
              | go_skip
              | (refine wpList_load_row rfl _ _ rfl g16b rfl _ (recCells G2 iv3) _ _ g16 hur rfl HsB.out ?_)
              | (refine wpList_store_row rfl _ _ _ rfl g9 (recCells G2 iv3) rfl rfl _ _ g9c HsB.out rfl HoB.out ?_))
            exact ⟨⟨k + 1, s3, G2, iv3, by omega, by simp, Hbt3.out, H22.out.left, S20.out.setRow _ _⟩, by simp [intOf]; omega⟩
          · try rw [show ((5 : Nat) : Int) = 5 from rfl]
            iterate 68 (first | go_values | go_skip | go_guarded | go_step | go_upon)
            refine wpList_load_row_g (by kernel_rfl) _ _ rfl g16b rfl _ (recCells G2 iv3) _ _ g16 hur rfl HsB.out ?_
            refine wpList_load_row_g (by kernel_rfl) _ _ rfl g9 rfl _ (recCells R iv) _ _ g9c hur rfl HsR.out ?_
            go_wp2_with fail
            refine (recsame_ne G2 R iv3 _ _ (by rw [Hqs.out]; omega) HbI3.out HbR.out).mono ?_
            clear HbI3 HbX HbI2 HbR g16 g15 g13 g9c
            rintro e W21 ⟨rfl, hb⟩
            have h21 := H20.out.below hb
            have S21 := hide (S20.out.trans (Str.below hb))
            clear hb H20 S20
            have HbI3 := hide (own_bytes (h21).right)
            have HbX := hide (show IsBytes _ (.slice xa nx xc) G2.init from by rw [Hqb.out]; exact (HBX.out.inAll (h21).right.right.right.right.right.right.right.right.right))
            have HbI2 := hide (own_bytes (h21).right.right.right.right.right)
            have HbR := hide (own_bytes (h21).right.right.right.right.right.right.right.right)
            have g16 := on_blk_mul (h21)
            have g15 := on_blk_mul (h21).right.right.right
            have g13 := on_blk_mul (h21).right.right.right.right
            have g9c := on_blk_mul (h21).right.right.right.right.right.right.right
            have H20 := hide h21
            have S20 := S21
            clear h21 S21
            go_wp2_with (first
              | (refine wpList_load_row_g (by kernel_rfl) _ _ rfl g16b rfl _ (recCells G2 iv3) _ _ g16 hur rfl HsB.out ?_)
              | (refine wpList_load_row_g (by kernel_rfl) _ _ rfl g15b rfl _ (recCells G2 (.slice xa nx xc)) _ _ g15 hur rfl HsQ.out ?_))
            refine (recsame_any G2 iv3 _ _ HbI3.out HbX.out).mono ?_
            clear HbI3 HbX HbI2 HbR g16 g15 g13 g9c
            rintro e W21 ⟨rfl, hb⟩
            have h21 := H20.out.below hb
            have S21 := hide (S20.out.trans (Str.below hb))
            clear hb H20 S20
            have HbI3 := hide (own_bytes (h21).right)
            have HbX := hide (show IsBytes _ (.slice xa nx xc) G2.init from by rw [Hqb.out]; exact (HBX.out.inAll (h21).right.right.right.right.right.right.right.right.right))
            have HbI2 := hide (own_bytes (h21).right.right.right.right.right)
            have HbR := hide (own_bytes (h21).right.right.right.right.right.right.right.right)
            have g16 := on_blk_mul (h21)
            have g15 := on_blk_mul (h21).right.right.right
            have g13 := on_blk_mul (h21).right.right.right.right
            have g9c := on_blk_mul (h21).right.right.right.right.right.right.right
            have H20 := hide h21
            have S20 := S21
            clear h21 S21
            have h22 := H20.out
            rw [sp_end] at h22
            have h23 := h22
            rw [SP.mul_assoc] at h23
            have H22 := hide (h23.setRow (recCells G2 iv3))
            rw [← SP.mul_assoc] at H22
            go_wp2_with (first
              | go_skip
              | (refine wpList_load_row rfl _ _ rfl g16b rfl _ (recCells G2 iv3) _ _ g16 hur rfl HsB.out ?_)
              | (refine wpList_store_row rfl _ _ _ rfl g9 (recCells G2 iv3) rfl rfl _ _ g9c HsB.out rfl HoB.out ?_))
            exact ⟨⟨k + 1, s3, G2, iv3, by omega, by simp, Hbt3.out, H22.out.left, S20.out.setRow _ _⟩, by simp [intOf]; omega⟩
    · have hkb : k = L.length := by omega
      subst hkb
      have H6 := hide hw
      have S6 := hide hstr
      clear hw hstr hbt
      go_wp2_with fail
      go_ret
      exact ⟨rfl, all_below H6.out.right.right.right S6.out⟩
namespace lawSettingsTorn
theorem own : ownKnob Try.prog.godebug = Option.none := by kernel_rfl
theorem laidOut : laidOutB Try.prog = true := by kernel_rfl
set_option maxRecDepth 100000 in
theorem lifted (os : Os) (started : os.Started) (H : Type) (enc : TypeId × Value → H) :
    ReturnsInHanded {} Try.checked os 4 .any (Rows.settingsTornSpec.pre6 enc Try.prog Try.f4 Rows.settingsTornRow.domain false) (Rows.settingsTornSpec.post enc Try.prog Try.f4 false true false false) := by
  refine returnsInHanded_of_change_sized (C := Try.checked) own started (by kernel_rfl) Try.func4
    (ChangeSpec.witness6 (enc := enc) (C := Try.checked) false ⟨#[], #[.slice Option.none 0 0, .slice Option.none 0 0, .int .u32 0], []⟩ 8 (by kernel_rfl) (by kernel_rfl) (by kernel_rfl) (by kernel_rfl)) ?_
  intro W base args ds gs before hval0 hW hcnd hsz _
  have hval : ∀ (j : Nat) t v, Try.f4.params[j]? = some t → args[j]? = some v → Value.okWide Try.prog W .any base t v := hval0
  have hW' := hW
  obtain ⟨p, q, hA0, hV, rfl, hfz, hnd⟩ := hW
  have hA : DataW.TrodAll enc Try.prog W 0 (fun _ => true) true Try.f4.params.toList args.toList ds p := hA0
  rw [Try.params4] at hA hval
  obtain ⟨v0, vs0, d0, ds0, p0, q0, hargs, rfl, rfl, h0, r0⟩ := trodAll_cons hA
  obtain ⟨v1, vs1, d1, ds1, p1, q1, rfl, rfl, rfl, h1, r1⟩ := trodAll_cons r0
  obtain ⟨v2, vs2, d2, ds2, p2, q2, rfl, rfl, rfl, h2, r2⟩ := trodAll_cons r1
  obtain ⟨rfl, rfl, rfl⟩ := trodAll_nil r2
  obtain rfl : args = #[v0, v1, v2] := by cases args; simp_all
  obtain ⟨rfl, rfl⟩ := trodVars_none hV
  have k0 := h0
  have lt0 : ∀ x ∈ p0, x.block < W.heap.size := by obtain ⟨m, hm⟩ := k0; exact DataW.trod_lt m _ _ _ hm
  obtain ⟨l0, b0, g0⟩ := open_each recC (fun y : Value × RecS => y.2.Nums ∧ IsBytes W y.1 y.2.init) Try.underlying46 (show Try.prog.cellsOf 35 = 7 by kernel_rfl) (by decide) each_rec (hval 0 46 v0 rfl rfl) h0
  have k1 := h1
  have lt1 : ∀ x ∈ p1, x.block < W.heap.size := by obtain ⟨m, hm⟩ := k1; exact DataW.trod_lt m _ _ _ hm
  obtain ⟨l1, b1, g1⟩ := open_each i64C (fun y : Int => -9223372036854775808 ≤ y ∧ y ≤ 9223372036854775807) Try.underlying42 (show Try.prog.cellsOf 3 = 1 by kernel_rfl) (by decide) (each_i64 Try.underlying3) (hval 1 42 v1 rfl rfl) h1
  have k2 := h2
  have lt2 : ∀ x ∈ p2, x.block < W.heap.size := by obtain ⟨m, hm⟩ := k2; exact DataW.trod_lt m _ _ _ hm
  obtain ⟨a2, rfl, rfl, rfl, w2⟩ := open_int Try.underlying32 (hval 2 32 v2 rfl rfl) h2
  obtain ⟨l2, u2⟩ := wf_u32 w2
  clear hA0 hval0 hsz
  refine (walk_SettingsTorn W v0 l0 b0 g0 v1 l1 b1 g1 a2 l2 u2).mono fun e W' ⟨he, bel⟩ => ?_
  subst he
  exact ⟨_, rfl, _, _, _, [], _, [], hW', trodAll_mk1 (shut_bool Try.underlying4 _), (trodAll_cons_mk (Below.trod laidOut (by kernel_rfl) (of_decide_eq_true (by kernel_rfl)) k0 bel lt0) (trodAll_cons_mk (Below.trod laidOut (by kernel_rfl) (of_decide_eq_true (by kernel_rfl)) k1 bel lt1) (trodAll_cons_mk (shut_int Try.underlying32 w2) trodAll_mk0))), rfl, bel.frame _, fun h => by cases h⟩

theorem over : Rows.settingsTornRow.holds Try.pinned (OpenSpec.ofChange Rows.settingsTornSpec) :=
  OpenClaim.holds_of_wide 4 Try.f4 rfl rfl rfl rfl rfl rfl rfl ⟨rfl, rfl, rfl, rfl, rfl⟩ rfl rfl rfl rfl rfl (by kernel_rfl) Try.func4 (by kernel_rfl)
    (of_decide_eq_true (by kernel_rfl)) (by unfold Func.isWrapper; first | (rw [if_pos (by decide +kernel)]; kernel_rfl) | (rw [if_neg (by decide +kernel)]; exact ⟨rfl, rfl⟩))
    (fun os started H enc _ => lifted os started H enc)

theorem proved : Rows.SettingsTornSaid := over
end lawSettingsTorn
end Go.Proofs.Ytjmgnfpcieofkaa
