/- The law FieldRules: sums and products in another order, and of sums, are the same; what makes 1, and 0, does. -/
import Derived.Test.YtgkofpfjbjnhfaaDoorFeRulesMath
import Derived.Test.YtgkofpfjbjnhfaaDoorFreeG
import Derived.Test.YtgkofpfjbjnhfaaDoorCards
import Derived.Test.YtgkofpfjbjnhfaaDoorTie
import Derived.Deep.DeepHandedRow
namespace Go.Proofs.YtgkofpfjbjnhfaaDoor
namespace Fe
open Go.ChangeShapes Go.WideShapes Go.ChangeAt Go.RowKit
set_option linter.unusedVariables false
set_option linter.unusedSimpArgs false

set_option maxRecDepth 100000 in
set_option maxHeartbeats 8000000 in
theorem walk_FieldRules (w : World) (hL : laidMetH Tryd.prog Rows.fieldRulesRow.laid w) (a : Nat) (ha : a < 18446744073709551616 ^ 4) (b : Nat) (hb : b < 18446744073709551616 ^ 4) (c : Nat) (hc : c < 18446744073709551616 ^ 4) :
    Calls Tryd.prog 7 #[.agg (q4 a), .agg (q4 b), .agg (q4 c)] w fun e w' => e = .returned (.bool true) ∧ Below w.heap.size w w' := by
  obtain ⟨hT, hl⟩ := tab5_of_laid4 hL
  clear hL
  have hu := Tryd.underlying25
  have hz4e := eZero
  have hu4 := Tryd.underlying23
  have hz4 := eZero4
  have hun := Tryd.underlying27
  have hzn := nZero
  have h0 := (((on_all w).alloc (.cells (q4 (a)) 23)).alloc (.cells (q4 (b)) 23)).alloc (.cells (q4 (c)) 23)
  have s0 := (((Str.refl w).alloc (.cells (q4 (a)) 23)).alloc (.cells (q4 (b)) 23)).alloc (.cells (q4 (c)) 23)
  try simp only [World.size_alloc] at h0
  have H1 := hide h0
  have S1 := hide s0
  clear h0 s0
  have Hna := hide (fun X => num_any a ha X)
  have Hnb := hide (fun X => num_any b hb X)
  have Hnc := hide (fun X => num_any c hc X)
  have hx : a % P5 < P5 := Nat.mod_lt _ P5_pos
  have hy : b % P5 < P5 := Nat.mod_lt _ P5_pos
  have hzz : c % P5 < P5 := Nat.mod_lt _ P5_pos
  generalize a % P5 = x at *
  generalize b % P5 = y at *
  generalize c % P5 = z at *
  have h4 := P5_lt
  have m1 : (x + y) % P5 < P5 := Nat.mod_lt _ P5_pos
  have m2 : x * y % P5 < P5 := Nat.mod_lt _ P5_pos
  have m3 : (y + z) % P5 < P5 := Nat.mod_lt _ P5_pos
  have m4 : x * ((y + z) % P5) % P5 < P5 := Nat.mod_lt _ P5_pos
  have m5 : x * z % P5 < P5 := Nat.mod_lt _ P5_pos
  have m6 : (P5 - x) % P5 < P5 := Nat.mod_lt _ P5_pos
  have m7 : (P5 - x * y % P5) % P5 < P5 := Nat.mod_lt _ P5_pos
  have Hi := hide (fun X h h2 => invert_any x (by omega) X h h2)
  have hone := inv_one x
  have hiv := pwr_lt x (P5 - 2) 256
  generalize pwr x (P5 - 2) 256 = iv at *
  have m8 : x * iv % P5 < P5 := Nat.mod_lt _ P5_pos
  have A1 := hide (add_two x y hx hy)
  have a2 := add_two y x hy hx
  rw [Nat.add_comm y x] at a2
  have A2 := hide a2
  have M1 := hide (mul_two x y hx hy)
  have m2' := mul_two y x hy hx
  rw [Nat.mul_comm y x] at m2'
  have M2 := hide m2'
  have A3 := hide (add_two y z hy hzz)
  have M3 := hide (mul_two x ((y + z) % P5) hx m3)
  have M4 := hide (mul_two x z hx hzz)
  have a4 := add_two (x * y % P5) (x * z % P5) m2 m5
  rw [show (x * y % P5 + x * z % P5) % P5 = x * ((y + z) % P5) % P5 by rw [← Nat.add_mod, ← Nat.mul_add, Nat.mul_mod_mod]] at a4
  have A4' := hide a4
  have N1 := hide (fun X h => neg_any x hx X h)
  have a5 := add_two x ((P5 - x) % P5) hx m6
  rw [show (x + (P5 - x) % P5) % P5 = 0 by rw [Nat.add_mod_mod, show x + (P5 - x) = P5 by omega, Nat.mod_self]] at a5
  have A5 := hide a5
  have b1 := fun X h => sub_any ((x + y) % P5) y m1 hy X h
  rw [show ((x + y) % P5 + (P5 - y)) % P5 = x by rw [Nat.mod_add_mod, show x + y + (P5 - y) = x + P5 by omega, Nat.add_mod_right, Nat.mod_eq_of_lt hx]] at b1
  have B1 := hide b1
  have m5' := mul_two ((P5 - x) % P5) y m6 hy
  rw [neg_mul P5 x y P5_pos (by omega)] at m5'
  have M5 := hide m5'
  have N2 := hide (fun X h => neg_any (x * y % P5) m2 X h)
  have M0 := hide (mul_two x iv hx hiv)
  have HE : Hid (∀ n X, n < 18446744073709551616 ^ 4 → (Op.equalIn 10000 25 (.agg (q4 n)) (.agg (q4 n))).run Tryd.prog X = .ok true X) := hide fun n X hn => by
    have := eq_q4 X 9998 25 Tryd.underlying25 n n hn hn
    simpa using this
  have HE1 := hide (fun X => HE.out ((x + y) % P5) X (by omega))
  have HE2 := hide (fun X => HE.out (x * y % P5) X (by omega))
  have HE3 := hide (fun X => HE.out (x * ((y + z) % P5) % P5) X (by omega))
  have HE4 := hide (fun X => HE.out 0 X (by decide))
  have HE5 := hide (fun X => HE.out x X (by omega))
  have HE6 := hide (fun X => HE.out ((P5 - x * y % P5) % P5) X (by omega))
  have Hx0 := hide (fun X => eq_q4 X 9998 25 Tryd.underlying25 x 0 (by omega) (by decide))
  have Hon0 := hide (fun X => eq_q4 X 9998 25 Tryd.underlying25 (x * iv % P5) 0 (by omega) (by decide))
  have Hon1 := hide (fun X => eq_q4 X 9998 25 Tryd.underlying25 (x * iv % P5) 1 (by omega) (by decide))
  have Hz0 := hide (show x = 0 → x * iv % P5 = 0 from fun h => by rw [h, Nat.zero_mul, Nat.zero_mod])
  have Hz1 := hide (show x ≠ 0 → x * iv % P5 = 1 from fun h => hone h hx)
  have Hs0 := hide (fun X => small_any 0 (by decide) X)
  have Hs1 := hide (fun X => small_any 1 (by decide) X)
  have Hgd : Hid (Tryd.prog.eqGuardType Tryd.prog.depth 25 = false) := hide (by kernel_rfl)
  have Hb : Hid (∀ u v X, (Instr.buildSlice 85 2 #[(0, .agg (q4 u)), (1, .agg (q4 v))]).run Tryd.prog X = .ok (.slice (some ⟨X.heap.size, 0, Option.none⟩) 2 2) (X.alloc (.cells #[lv (limb u 0), lv (limb u 1), lv (limb u 2), lv (limb u 3), lv (limb v 0), lv (limb v 1), lv (limb v 2), lv (limb v 3)] 25))) := hide run_bs2
  have HbB1 := hide (fun X => Hb.out x y X)
  have HbB2 := hide (fun X => Hb.out y x X)
  have HbB3 := hide (fun X => Hb.out y z X)
  have HbB4 := hide (fun X => Hb.out x ((y + z) % P5) X)
  have HbB5 := hide (fun X => Hb.out x z X)
  have HbB6 := hide (fun X => Hb.out (x * y % P5) (x * z % P5) X)
  have HbB7 := hide (fun X => Hb.out x ((P5 - x) % P5) X)
  have HbB8 := hide (fun X => Hb.out ((P5 - x) % P5) y X)
  have HbB0 := hide (fun X => Hb.out x iv X)
  have Hlv := hide (fun X h => lives_any X h)
  clear hx hy hzz h4 m1 m2 m3 m4 m5 m6 m7 m8 a2 m2' a4 a5 b1 m5' hone hiv ha hb hc HE Hb
  have HsA4 := hide (eInfo4 (a))
  have HoA4 := hide (eOne (a))
  have HzA4 := hide (eSize 0 (a))
  have HsB4 := hide (eInfo4 (b))
  have HoB4 := hide (eOne (b))
  have HzB4 := hide (eSize 0 (b))
  have HsC4 := hide (eInfo4 (c))
  have HoC4 := hide (eOne (c))
  have HzC4 := hide (eSize 0 (c))
  have HsXa := hide (eInfo (x))
  have HoXa := hide (eOne (x))
  have HzXa := hide (eSize 0 (x))
  have HsYa := hide (eInfo (y))
  have HoYa := hide (eOne (y))
  have HzYa := hide (eSize 0 (y))
  have HsZa := hide (eInfo (z))
  have HoZa := hide (eOne (z))
  have HzZa := hide (eSize 0 (z))
  have HsSxy := hide (eInfo ((x + y) % P5))
  have HoSxy := hide (eOne ((x + y) % P5))
  have HzSxy := hide (eSize 0 ((x + y) % P5))
  have HsPxy := hide (eInfo (x * y % P5))
  have HoPxy := hide (eOne (x * y % P5))
  have HzPxy := hide (eSize 0 (x * y % P5))
  have HsSyz := hide (eInfo ((y + z) % P5))
  have HoSyz := hide (eOne ((y + z) % P5))
  have HzSyz := hide (eSize 0 ((y + z) % P5))
  have HsPxs := hide (eInfo (x * ((y + z) % P5) % P5))
  have HoPxs := hide (eOne (x * ((y + z) % P5) % P5))
  have HzPxs := hide (eSize 0 (x * ((y + z) % P5) % P5))
  have HsPxz := hide (eInfo (x * z % P5))
  have HoPxz := hide (eOne (x * z % P5))
  have HzPxz := hide (eSize 0 (x * z % P5))
  have HsNx := hide (eInfo ((P5 - x) % P5))
  have HoNx := hide (eOne ((P5 - x) % P5))
  have HzNx := hide (eSize 0 ((P5 - x) % P5))
  have HsNP := hide (eInfo ((P5 - x * y % P5) % P5))
  have HoNP := hide (eOne ((P5 - x * y % P5) % P5))
  have HzNP := hide (eSize 0 ((P5 - x * y % P5) % P5))
  have HsIv := hide (eInfo (iv))
  have HoIv := hide (eOne (iv))
  have HzIv := hide (eSize 0 (iv))
  have HsOn := hide (eInfo (x * iv % P5))
  have HoOn := hide (eOne (x * iv % P5))
  have HzOn := hide (eSize 0 (x * iv % P5))
  have HsO4 := hide (eInfo (1))
  have HoO4 := hide (eOne (1))
  have HzO4 := hide (eSize 0 (1))
  have HsMn := hide (nInfo (x))
  have HoMn := hide (nOne (x))
  have HzMn := hide (nSize 0 (x))
  have HsNn := hide (nInfo (y))
  have HoNn := hide (nOne (y))
  have HzNn := hide (nSize 0 (y))
  have HsKn := hide (nInfo (z))
  have HoKn := hide (nOne (z))
  have HzKn := hide (nSize 0 (z))
  generalize hA4 : q4 (a) = A4 at *
  have HA4 := hide hA4
  clear hA4
  generalize hB4 : q4 (b) = B4 at *
  have HB4 := hide hB4
  clear hB4
  generalize hC4 : q4 (c) = C4 at *
  have HC4 := hide hC4
  clear hC4
  generalize hXa : q4 (x) = Xa at *
  have HXa := hide hXa
  clear hXa
  generalize hYa : q4 (y) = Ya at *
  have HYa := hide hYa
  clear hYa
  generalize hZa : q4 (z) = Za at *
  have HZa := hide hZa
  clear hZa
  generalize hSxy : q4 ((x + y) % P5) = Sxy at *
  have HSxy := hide hSxy
  clear hSxy
  generalize hPxy : q4 (x * y % P5) = Pxy at *
  have HPxy := hide hPxy
  clear hPxy
  generalize hSyz : q4 ((y + z) % P5) = Syz at *
  have HSyz := hide hSyz
  clear hSyz
  generalize hPxs : q4 (x * ((y + z) % P5) % P5) = Pxs at *
  have HPxs := hide hPxs
  clear hPxs
  generalize hPxz : q4 (x * z % P5) = Pxz at *
  have HPxz := hide hPxz
  clear hPxz
  generalize hNx : q4 ((P5 - x) % P5) = Nx at *
  have HNx := hide hNx
  clear hNx
  generalize hNP : q4 ((P5 - x * y % P5) % P5) = NP at *
  have HNP := hide hNP
  clear hNP
  generalize hIv : q4 (iv) = Iv at *
  have HIv := hide hIv
  clear hIv
  generalize hOn : q4 (x * iv % P5) = On at *
  have HOn := hide hOn
  clear hOn
  generalize hO4 : q4 (1) = O4 at *
  have HO4 := hide hO4
  clear hO4
  generalize hMn : n17 (x) = Mn at *
  have HMn := hide hMn
  clear hMn
  generalize hNn : n17 (y) = Nn at *
  have HNn := hide hNn
  clear hNn
  generalize hKn : n17 (z) = Kn at *
  have HKn := hide hKn
  clear hKn
  generalize hZ4 : q4 0 = Z4 at *
  have HZ4 := hide hZ4
  clear hZ4
  generalize hZn : n17 0 = Zn at *
  have HZn := hide hZn
  clear hZn
  go_enter Tryd.func7, Tryd.ntmps7
  go_wp2_with fail
  generalize ((w.alloc (.cells A4 23)).alloc (.cells B4 23)).alloc (.cells C4 23) = w1 at *
  refine (Hlv.out _ (hT.below (all_below H1.out.right.right.right S1.out))).mono ?_
  rintro e w2 ⟨rfl, hB⟩
  have H2 := hide (H1.out.below hB)
  have S2 := hide (S1.out.trans (Str.below hB))
  clear hB H1 S1
  have gA := on_blk_mul H2.out.right.right
  go_wp2_with (first
    | (refine wpList_load_row rfl _ _ rfl (w.heap.size) rfl _ A4 _ _ gA hu4 rfl HsA4.out ?_))
  clear gA
  refine (Hna.out _).mono ?_
  rintro e w3 ⟨rfl, hB⟩
  have H3 := hide (H2.out.below hB)
  have S3 := hide (S2.out.trans (Str.below hB))
  clear hB H2 S2
  have h1 := H3.out.alloc (.cells Z4 25)
  have h2 := h1.alloc (.cells Zn 27)
  simp only [World.size_alloc] at h2
  have gA := on_blk_mul h2.right
  have h3 := st1 h2 (cs := Xa)
  have gB := on_blk_mul h3
  have h4 := st0 h3 (cs := Mn)
  have H4 := hide h4
  have S4 := hide ((((S3.out.alloc (.cells Z4 25)).alloc (.cells Zn 27)).setRow w3.heap.size Xa).setRow (w3.heap.size + 1) Mn)
  clear h1 h2 h3 h4
  have gL := on_blk_mul H4.out.right.right.right
  go_wp2_with (first
    | (refine wpList_store_row rfl _ _ _ rfl (w3.heap.size) Xa rfl rfl _ _ gA HsXa.out HzXa.out HoXa.out ?_)
    | (refine wpList_store_row rfl _ _ _ rfl (w3.heap.size + 1) Mn rfl rfl _ _ gB HsMn.out HzMn.out HoMn.out ?_)
    | (refine wpList_load_row rfl _ _ rfl (w.heap.size + 1) rfl _ B4 _ _ gL hu4 rfl HsB4.out ?_))
  generalize (((w3.alloc (.cells Z4 25)).alloc (.cells Zn 27)).setRow w3.heap.size Xa).setRow (w3.heap.size + 1) Mn = w4 at *
  generalize w3.heap.size = p5 at *
  clear gA gB H3 S3 gL
  refine (Hnb.out _).mono ?_
  rintro e w5 ⟨rfl, hB⟩
  have H5 := hide (H4.out.below hB)
  have S5 := hide (S4.out.trans (Str.below hB))
  clear hB H4 S4
  have h1 := H5.out.alloc (.cells Z4 25)
  have h2 := h1.alloc (.cells Zn 27)
  simp only [World.size_alloc] at h2
  have gA := on_blk_mul h2.right
  have h3 := st1 h2 (cs := Ya)
  have gB := on_blk_mul h3
  have h4 := st0 h3 (cs := Nn)
  have H6 := hide h4
  have S6 := hide ((((S5.out.alloc (.cells Z4 25)).alloc (.cells Zn 27)).setRow w5.heap.size Ya).setRow (w5.heap.size + 1) Nn)
  clear h1 h2 h3 h4
  have gL := on_blk_mul H6.out.right.right.right.right
  go_wp2_with (first
    | (refine wpList_store_row rfl _ _ _ rfl (w5.heap.size) Ya rfl rfl _ _ gA HsYa.out HzYa.out HoYa.out ?_)
    | (refine wpList_store_row rfl _ _ _ rfl (w5.heap.size + 1) Nn rfl rfl _ _ gB HsNn.out HzNn.out HoNn.out ?_)
    | (refine wpList_load_row rfl _ _ rfl (w.heap.size + 1 + 1) rfl _ C4 _ _ gL hu4 rfl HsC4.out ?_))
  generalize (((w5.alloc (.cells Z4 25)).alloc (.cells Zn 27)).setRow w5.heap.size Ya).setRow (w5.heap.size + 1) Nn = w6 at *
  generalize w5.heap.size = p6 at *
  clear gA gB H5 S5 gL
  refine (Hnc.out _).mono ?_
  rintro e w7 ⟨rfl, hB⟩
  have H7 := hide (H6.out.below hB)
  have S7 := hide (S6.out.trans (Str.below hB))
  clear hB H6 S6
  have h1 := H7.out.alloc (.cells Z4 25)
  have h2 := h1.alloc (.cells Zn 27)
  simp only [World.size_alloc] at h2
  have gA := on_blk_mul h2.right
  have h3 := st1 h2 (cs := Za)
  have gB := on_blk_mul h3
  have h4 := st0 h3 (cs := Kn)
  have H8 := hide h4
  have S8 := hide ((((S7.out.alloc (.cells Z4 25)).alloc (.cells Zn 27)).setRow w7.heap.size Za).setRow (w7.heap.size + 1) Kn)
  clear h1 h2 h3 h4
  go_wp2_with (first
    | (refine wpList_store_row rfl _ _ _ rfl (w7.heap.size) Za rfl rfl _ _ gA HsZa.out HzZa.out HoZa.out ?_)
    | (refine wpList_store_row rfl _ _ _ rfl (w7.heap.size + 1) Kn rfl rfl _ _ gB HsKn.out HzKn.out HoKn.out ?_))
  generalize (((w7.alloc (.cells Z4 25)).alloc (.cells Zn 27)).setRow w7.heap.size Za).setRow (w7.heap.size + 1) Kn = w8 at *
  generalize w7.heap.size = p7 at *
  clear gA gB H7 S7
  have hT0 := hT
  have hl0 := hl
  go_wp2_with fail
  refine Multi2.wp_region_multi [3, 4, 5, 6] [3, 5] [6] [isV (.agg Xa), isV (.agg Xa), isV (.agg Iv), (fun _ _ => True), isV (.agg On), (fun _ _ => True), (fun _ _ => True)]
    (by kernel_rfl) (by kernel_rfl) (by kernel_rfl) ⟨rfl, trivial⟩ (fun f s X => (Multi2.opt (f 5) (Multi2.bv (s 5) (.cells (if f 6 = true then On else Z4) 25 (0, 0))) * ((blk (p7 + 1) (.cells Kn 27 (0, 0)) * (blk (p7) (.cells Za 25 (0, 0)) * (blk (p6 + 1) (.cells Nn 27 (0, 0)) * (blk (p6) (.cells Ya 25 (0, 0)) * (blk (p5 + 1) (.cells Mn 27 (0, 0)) * (blk (p5) (.cells Xa 25 (0, 0)) * (blk (w.heap.size + 1 + 1) (.cells C4 23 (0, 0)) * (blk (w.heap.size + 1) (.cells B4 23 (0, 0)) * (blk (w.heap.size) (.cells A4 23 (0, 0)) * all w))))))))))).on X ∧ Str w X ∧ (f 3 = true → f 4 = false → IsEl X (s 3) [x, iv])) (fun _ => ⟨on_emp_mul.2 (SP.on.drew H8.out), Str.drew S8.out, fun h => by cases h⟩) (fun f s a b h st => ⟨h.1.below st, h.2.1.trans (Str.below st), fun h3 h4 => (h.2.2 h3 h4).below st⟩) (fun f g s t X h h9 hI => by
      have e3 := h 3 rfl
      have e4 := h 4 rfl
      have e5 := h 5 rfl
      have e6 := h 6 rfl
      have i3 := h9 3 rfl
      have i5 := h9 5 rfl
      rw [← e3, ← e4, ← e5, ← e6]
      refine ⟨?_, hI.2.1, fun h3 h4 => by first | (rw [← i3 h3]; exact hI.2.2 h3 h4) | (rw [i3 h3]; exact hI.2.2 h3 h4)⟩
      have := hI.1
      clear i3 e3 e4 e5 e6 h9 h
      revert this i5
      cases f 5 <;> intro i5 <;> simp_all [Multi2.opt]) ?keep ?todo ?rest (by decide) (by decide)
  case keep => exact ⟨Keep.isV _, Keep.isV _, Keep.isV _, fun _ _ _ h _ => h, Keep.isV _, fun _ _ _ h _ => h, fun _ _ _ h _ => h, trivial⟩
  case todo =>
    refine ⟨?_, ?_, ?_, ?_, ?_, ?_, ?_, trivial⟩
    · intro f hf0 hw hn ev X hT hb hk hf
      have e0 : ev (.tmp 7) = .pointer (some ⟨p5, 0, Option.none⟩) := by have h9 := hk.1; rw [if_pos (by kernel_rfl)] at h9; exact h9
      exact OpOk.load_row _ _ rfl _ e0 _ Xa (0, 0) _ (on_blk_mul hT.1.right.right.right.right.right.right) hu rfl HsXa.out (Multi2.ended_stay rfl rfl (Stay.refl _))
    · intro f hf0 hw hn ev X hT hb hk hf
      have e0 : ev (.tmp 7) = .pointer (some ⟨p5, 0, Option.none⟩) := by have h9 := hk.1; rw [if_pos (by kernel_rfl)] at h9; exact h9
      exact OpOk.load_row _ _ rfl _ e0 _ Xa (0, 0) _ (on_blk_mul hT.1.right.right.right.right.right.right) hu rfl HsXa.out (Multi2.ended_stay rfl rfl (Stay.refl _))
    · intro f hf0 hw hn ev X hT hb hk hf
      have e0 : ev (.tmp 32) = .agg Xa := hf.1
      refine OpOk.enters (f := 27) (args := #[.agg Xa]) (W' := X) (by simp [execOp, resolve, invoke, e0, hb.1, hb.2.1, go_sem]) ((Hi.out X (hT0.below (all_below hT.1.right.right.right.right.right.right.right.right.right.right hT.2.1)) (hl0.below (all_below hT.1.right.right.right.right.right.right.right.right.right.right hT.2.1))).mono ?_)
      rintro e _ ⟨rfl, hB⟩
      exact ⟨_, rfl, Multi2.ended_stay rfl rfl hB⟩
    · intro f hf0 hw hn ev X hT hb hk hf
      have e0 : ev (.tmp 31) = .agg Xa := hf.1
      have e1 : ev (.tmp 33) = .agg Iv := hf.2.1
      exact OpOk.run (v := .slice (some ⟨X.heap.size, 0, Option.none⟩) 2 2) (W' := X.alloc (.cells #[lv (limb x 0), lv (limb x 1), lv (limb x 2), lv (limb x 3), lv (limb iv 0), lv (limb iv 1), lv (limb iv 2), lv (limb iv 3)] 25)) (by simp [execOp, e0, e1, HbB0.out X]) (Multi2.ended_turn rfl trivial ⟨hT.1.below ((Below.refl X.heap.size X).alloc (Nat.le_refl _) _), hT.2.1.alloc _, fun _ _ => IsEl.two (heap_alloc_new X _)⟩ (Multi2.free_keep (by
        intro P hP
        simp only [List.mem_cons, List.not_mem_nil, or_false] at hP
        rcases hP with rfl | rfl | rfl | rfl | rfl | rfl | rfl <;> exact fun _ _ _ h => h) _ _))
    · intro f hf0 hw hn ev X hT hb hk hf
      have e0 := hf.1
      have eS : IsEl X (ev (.tmp 34)) [x, iv] := hT.2.2 (hw 3 (by kernel_rfl)) hf0
      refine OpOk.enters (f := 20) (args := #[ev (.tmp 34)]) (W' := X) (by simp [execOp, resolve, invoke, hb.1, hb.2.1, go_sem]) ((M0.out _ X eS (hT0.below (all_below hT.1.right.right.right.right.right.right.right.right.right.right hT.2.1))).mono ?_)
      rintro e X2 ⟨rfl, hB⟩
      exact ⟨_, rfl, Multi2.ended_turn rfl rfl ⟨hT.1.below hB, hT.2.1.trans (Str.below hB), fun _ h => by cases (show true = false from h)⟩ (Multi2.free_keep (by
        intro P hP
        simp only [List.mem_cons, List.not_mem_nil, or_false] at hP
        rcases hP with rfl | rfl | rfl | rfl | rfl | rfl | rfl <;> exact fun _ _ _ h => h) _ _)⟩
    · intro f hf0 hw hn ev X hT hb hk hf
      have fs : f 6 = false := hn 6 (by kernel_rfl)
      have hX := hT.1
      rw [hf0, Multi2.opt_false] at hX
      have hX2 := (on_emp_mul.1 hX).alloc (.cells Z4 25 (0, 0))
      exact OpOk.run (v := .pointer (some ⟨X.heap.size, 0, Option.none⟩)) (W' := X.alloc (.cells Z4 25)) (by simp [execOp, hz4e, go_sem]) (Multi2.ended_turn rfl trivial ⟨by
        show (Multi2.opt true (Multi2.bv (.pointer (some ⟨X.heap.size, 0, Option.none⟩)) (.cells (if f 6 = true then On else Z4) 25 (0, 0))) * _).on _
        rw [fs]
        exact Multi2.blk_bv hX2, hT.2.1.alloc _, fun h3 h4 => (hT.2.2 h3 h4).below ((Below.refl X.heap.size X).alloc (Nat.le_refl _) _)⟩ (Multi2.free_keep (by
        intro P hP
        simp only [List.mem_cons, List.not_mem_nil, or_false] at hP
        rcases hP with rfl | rfl | rfl | rfl | rfl | rfl | rfl <;> exact fun _ _ _ h => h) _ _))
    · intro f hf0 hw hn ev X hT hb hk hf
      have e0 := hf.1
      have e1 : ev (.tmp 35) = .agg On := hf.2.1
      have fa : f 5 = true := hw 5 (by kernel_rfl)
      have hX := hT.1
      rw [fa, hf0] at hX
      have hX' : (Multi2.bv (ev (.tmp 13)) (.cells Z4 25 (0, 0)) * _).on X := hX
      obtain ⟨g, hg, hX2⟩ := Multi2.bv_blk hX'
      exact OpOk.store_agg _ _ _ rfl g On hg e1 _ Z4 hX2 HsOn.out HzOn.out HoOn.out (fun h3 => Multi2.ended_turn rfl trivial ⟨by
        show (Multi2.opt (f 5) (Multi2.bv (ev (.tmp 13)) (.cells On 25 (0, 0))) * _).on _
        rw [fa, hg]
        exact Multi2.blk_bv h3, hT.2.1.setRow _ _, fun _ h4 => by
        have h5 : f 4 = false := h4
        rw [hw 4 (by kernel_rfl)] at h5
        cases h5⟩ (Multi2.free_keep (by
        intro P hP
        simp only [List.mem_cons, List.not_mem_nil, or_false] at hP
        rcases hP with rfl | rfl | rfl | rfl | rfl | rfl | rfl <;> exact fun _ _ _ h => h) _ _))
  case rest =>
    intro X s hI
    rintro _ ⟨-, -⟩ _ ⟨-, -⟩ _ ⟨-, -⟩ _ ⟨-, -⟩ _ ⟨-, -⟩ v9 ⟨k9, -⟩ _ -
    have h9 := k9 rfl
    obtain ⟨hX, hSX, -⟩ := hI
    have hX' : (Multi2.bv (s 5) (.cells On 25 (0, 0)) * (blk (p7 + 1) (.cells Kn 27 (0, 0)) * (blk (p7) (.cells Za 25 (0, 0)) * (blk (p6 + 1) (.cells Nn 27 (0, 0)) * (blk (p6) (.cells Ya 25 (0, 0)) * (blk (p5 + 1) (.cells Mn 27 (0, 0)) * (blk (p5) (.cells Xa 25 (0, 0)) * (blk (w.heap.size + 1 + 1) (.cells C4 23 (0, 0)) * (blk (w.heap.size + 1) (.cells B4 23 (0, 0)) * (blk (w.heap.size) (.cells A4 23 (0, 0)) * all w)))))))))).on X := hX
    rw [← h9] at hX'
    obtain ⟨g13, rfl, hX2⟩ := Multi2.bv_blk hX'
    have H9 := hide hX2
    have S9 := hide hSX
    clear hX hX' hX2 h9 k9 hSX H8 S8
    go_wp2
    refine Rest.done ?_
    have Hbz : Hid (∀ X : World, (Instr.build 25 #[]).run Tryd.prog X = .ok (.agg Z4) X) := hide fun X => by rw [← HZ4.out, qz4]; kernel_rfl
    by_cases h0 : x = 0
    · have hq1 := Hx0.out
      simp only [h0, decide_true] at hq1
      have hq2 := Hon0.out
      simp only [Hz0.out h0, decide_true] at hq2
      have HQ1 := hide hq1
      have HQ2 := hide hq2
      clear hq1 hq2 h0
      go_wp2_with fail
      refine wp_region_vsg [isV (.agg Xa), isV (.agg Z4), isV (.bool true), isV (.bool true), isV (.agg On), isV (.agg Z4), isV (.bool false), isV (.bool false), isV (.bool false), isV (.agg Xa), isV (.agg Z4), isV (.bool false), isV (.bool false), isV (undef), isV (undef), isV (undef), isV (.bool false), isV (.bool false)]
        (by kernel_rfl) (by kernel_rfl) rfl ?keep ?todo ?rest
      case keep => exact ⟨Keep.isV _, Keep.isV _, Keep.isV _, Keep.isV _, Keep.isV _, Keep.isV _, Keep.isV _, Keep.isV _, Keep.isV _, Keep.isV _, Keep.isV _, Keep.isV _, Keep.isV _, Keep.isV _, Keep.isV _, Keep.isV _, Keep.isV _, Keep.isV _, trivial⟩
      case todo =>
        refine ⟨?_, ?_, ?_, ?_, ?_, ?_, ?_, ?_, ?_, ?_, ?_, ?_, ?_, ?_, ?_, ?_, ?_, ?_, trivial⟩
        · intro ev X hT hb hk hf
          have e0 : ev (.tmp 7) = .pointer (some ⟨p5, 0, Option.none⟩) := hk.1
          exact OpOk.load_row _ _ rfl _ e0 _ Xa (0, 0) _ (on_blk_mul (H9.out.below hT).right.right.right.right.right.right) hu rfl HsXa.out ⟨rfl, Stay.refl _⟩
        · intro ev X hT hb hk hf
          exact OpOk.run (v := .agg Z4) (W' := X) (by simp [execOp, Hbz.out X]) ⟨rfl, Stay.refl _⟩
        · intro ev X hT hb hk hf
          have e0 : ev (.tmp 36) = .agg Xa := hf.1
          have e1 : ev (.tmp 37) = .agg Z4 := hf.2.1
          exact OpOk.run (v := .bool true) (W' := X) (by
            unfold execOp
            simp only [e0, e1, Sem.run_bind, run_eqGuard_agg X _ _ _ _ _ _ Hgd.out, run_eql_struct, HQ1.out X, Result.andThen_ok]
            rfl) ⟨rfl, Stay.refl _⟩
        · intro ev X hT hb hk hf
          have e0 : ev (.tmp 38) = .bool true := hf.1
          exact OpOk.move rfl e0 ⟨rfl, Stay.refl _⟩
        · intro ev X hT hb hk hf
          refine .inl ⟨true, hf.1, fun _ => ?_, fun h => (h rfl).elim⟩
          have e0 : ev (.tmp 13) = .pointer (some ⟨g13, 0, Option.none⟩) := hk.1
          exact OpOk.load_row _ _ rfl _ e0 _ On (0, 0) _ (on_blk_mul (H9.out.below hT)) hu rfl HsOn.out ⟨rfl, Stay.refl _⟩
        · intro ev X hT hb hk hf
          refine .inl ⟨true, hf.1, fun _ => ?_, fun h => (h rfl).elim⟩
          exact OpOk.run (v := .agg Z4) (W' := X) (by simp [execOp, Hbz.out X]) ⟨rfl, Stay.refl _⟩
        · intro ev X hT hb hk hf
          refine .inl ⟨true, hf.2.2.1, fun _ => ?_, fun h => (h rfl).elim⟩
          have e0 : ev (.tmp 40) = .agg On := hf.1
          have e1 : ev (.tmp 41) = .agg Z4 := hf.2.1
          exact OpOk.run (v := .bool false) (W' := X) (by
            unfold execOp
            simp only [e0, e1, Sem.run_bind, run_eqGuard_agg X _ _ _ _ _ _ Hgd.out, run_neq_struct, HQ2.out X, Result.andThen_ok]
            rfl) ⟨rfl, Stay.refl _⟩
        · intro ev X hT hb hk hf
          have e0 : ev (.tmp 39) = .bool true := hf.1
          have e1 : ev (.tmp 42) = .bool false := hf.2.1
          exact OpOk.run (v := .bool false) (W' := X) (by simp [execOp, e0, e1, hb, hb.1, hb.2.1, hb.2.2, go_sem]) ⟨rfl, Stay.refl _⟩
        · intro ev X hT hb hk hf
          have e0 : ev (.tmp 43) = .bool false := hf.1
          exact OpOk.move rfl e0 ⟨rfl, Stay.refl _⟩
        · intro ev X hT hb hk hf
          refine .inl ⟨false, hf.1, fun _ => ?_, fun h => (h rfl).elim⟩
          have e0 : ev (.tmp 7) = .pointer (some ⟨p5, 0, Option.none⟩) := hk.1
          exact OpOk.load_row _ _ rfl _ e0 _ Xa (0, 0) _ (on_blk_mul (H9.out.below hT).right.right.right.right.right.right) hu rfl HsXa.out ⟨rfl, Stay.refl _⟩
        · intro ev X hT hb hk hf
          refine .inl ⟨false, hf.1, fun _ => ?_, fun h => (h rfl).elim⟩
          exact OpOk.run (v := .agg Z4) (W' := X) (by simp [execOp, Hbz.out X]) ⟨rfl, Stay.refl _⟩
        · intro ev X hT hb hk hf
          refine .inl ⟨false, hf.2.2.1, fun _ => ?_, fun h => (h rfl).elim⟩
          have e0 : ev (.tmp 45) = .agg Xa := hf.1
          have e1 : ev (.tmp 46) = .agg Z4 := hf.2.1
          exact OpOk.run (v := .bool false) (W' := X) (by
            unfold execOp
            simp only [e0, e1, Sem.run_bind, run_eqGuard_agg X _ _ _ _ _ _ Hgd.out, run_neq_struct, HQ1.out X, Result.andThen_ok]
            rfl) ⟨rfl, Stay.refl _⟩
        · intro ev X hT hb hk hf
          refine .inl ⟨false, hf.2.1, fun _ => ?_, fun h => (h rfl).elim⟩
          have e0 : ev (.tmp 47) = .bool false := hf.1
          exact OpOk.move rfl e0 ⟨rfl, Stay.refl _⟩
        · exact fun ev X hT hb hk hf => .inl ⟨false, hf.1, fun h => (nomatch h), fun _ => rfl⟩
        · exact fun ev X hT hb hk hf => .inl ⟨false, hf.1, fun h => (nomatch h), fun _ => rfl⟩
        · exact fun ev X hT hb hk hf => .inl ⟨false, hf.2.2.1, fun h => (nomatch h), fun _ => rfl⟩
        · intro ev X hT hb hk hf
          refine .inl ⟨false, hf.2.2.1, fun _ => ?_, fun h => (h rfl).elim⟩
          have e0 : ev (.tmp 48) = .bool false := hf.1
          have e1 : ev (.tmp 51) = undef := hf.2.1
          exact OpOk.run (v := .bool false) (W' := X) (by simp [execOp, e0, e1, hb, hb.1, hb.2.1, hb.2.2, go_sem]) ⟨rfl, Stay.refl _⟩
        · intro ev X hT hb hk hf
          have e0 : ev (.tmp 44) = .bool false := hf.1
          have e1 : ev (.tmp 52) = .bool false := hf.2.1
          exact OpOk.run (v := .bool false) (W' := X) (by simp [execOp, e0, e1, hb, hb.1, hb.2.1, hb.2.2, go_sem]) ⟨rfl, Stay.refl _⟩
      case rest =>
        intro w10 hX
        rintro _ - _ - _ - _ - _ - _ - _ - _ - _ - _ - _ - _ - _ - _ - _ - _ - _ - _ rfl
        have H10 := hide (H9.out.below hX)
        have S10 := hide (S9.out.trans (Str.below hX))
        clear hX H9 S9
        go_wp2
        refine Rest.done ?_
        have hT9 := hide (hT0.below (all_below H10.out.right.right.right.right.right.right.right.right.right.right S10.out))
        go_wp2_with fail
        refine wp_region_vs [isV (.agg Xa), isV (.agg Ya), fun v X => IsEl X v [x, y], isV (.agg Sxy), isV (.agg Ya), isV (.agg Xa), fun v X => IsEl X v [y, x], isV (.agg Sxy), isV (.bool true), isV (.bool true), isV (.agg Xa), isV (.agg Ya), fun v X => IsEl X v [x, y], isV (.agg Pxy), isV (.agg Ya), isV (.agg Xa), fun v X => IsEl X v [y, x], isV (.agg Pxy), isV (.bool true), isV (.bool true), isV (.bool true), isV (.agg Xa), isV (.agg Ya), isV (.agg Za), fun v X => IsEl X v [y, z], isV (.agg Syz), fun v X => IsEl X v [x, ((y + z) % P5)], isV (.agg Pxs), isV (.agg Xa), isV (.agg Ya), fun v X => IsEl X v [x, y], isV (.agg Pxy), isV (.agg Xa), isV (.agg Za), fun v X => IsEl X v [x, z], isV (.agg Pxz), fun v X => IsEl X v [(x * y % P5), (x * z % P5)], isV (.agg Pxs), isV (.bool true), isV (.bool true), isV (.bool true), isV (.agg Xa), isV (.agg Xa), isV (.agg Nx), fun v X => IsEl X v [x, ((P5 - x) % P5)], isV (.agg Z4), isV (.agg Z4), isV (.bool true), isV (.bool true), isV (.bool true), isV (.agg Xa), isV (.agg Ya), fun v X => IsEl X v [x, y], isV (.agg Sxy), isV (.agg Ya), isV (.agg Xa), isV (.agg Xa), isV (.bool true), isV (.bool true), isV (.bool true), isV (.agg Xa), isV (.agg Nx), isV (.agg Ya), fun v X => IsEl X v [((P5 - x) % P5), y], isV (.agg NP), isV (.agg Xa), isV (.agg Ya), fun v X => IsEl X v [x, y], isV (.agg Pxy), isV (.agg NP), isV (.bool true), isV (.bool true), isV (.bool true)]
          (by kernel_rfl) (by kernel_rfl) rfl ?keep ?todo ?rest
        case keep => exact ⟨Keep.isV _, Keep.isV _, fun _ _ _ h k => IsEl.below h k, Keep.isV _, Keep.isV _, Keep.isV _, fun _ _ _ h k => IsEl.below h k, Keep.isV _, Keep.isV _, Keep.isV _, Keep.isV _, Keep.isV _, fun _ _ _ h k => IsEl.below h k, Keep.isV _, Keep.isV _, Keep.isV _, fun _ _ _ h k => IsEl.below h k, Keep.isV _, Keep.isV _, Keep.isV _, Keep.isV _, Keep.isV _, Keep.isV _, Keep.isV _, fun _ _ _ h k => IsEl.below h k, Keep.isV _, fun _ _ _ h k => IsEl.below h k, Keep.isV _, Keep.isV _, Keep.isV _, fun _ _ _ h k => IsEl.below h k, Keep.isV _, Keep.isV _, Keep.isV _, fun _ _ _ h k => IsEl.below h k, Keep.isV _, fun _ _ _ h k => IsEl.below h k, Keep.isV _, Keep.isV _, Keep.isV _, Keep.isV _, Keep.isV _, Keep.isV _, Keep.isV _, fun _ _ _ h k => IsEl.below h k, Keep.isV _, Keep.isV _, Keep.isV _, Keep.isV _, Keep.isV _, Keep.isV _, Keep.isV _, fun _ _ _ h k => IsEl.below h k, Keep.isV _, Keep.isV _, Keep.isV _, Keep.isV _, Keep.isV _, Keep.isV _, Keep.isV _, Keep.isV _, Keep.isV _, Keep.isV _, fun _ _ _ h k => IsEl.below h k, Keep.isV _, Keep.isV _, Keep.isV _, fun _ _ _ h k => IsEl.below h k, Keep.isV _, Keep.isV _, Keep.isV _, Keep.isV _, Keep.isV _, trivial⟩
        case todo =>
          refine ⟨?_, ?_, ?_, ?_, ?_, ?_, ?_, ?_, ?_, ?_, ?_, ?_, ?_, ?_, ?_, ?_, ?_, ?_, ?_, ?_, ?_, ?_, ?_, ?_, ?_, ?_, ?_, ?_, ?_, ?_, ?_, ?_, ?_, ?_, ?_, ?_, ?_, ?_, ?_, ?_, ?_, ?_, ?_, ?_, ?_, ?_, ?_, ?_, ?_, ?_, ?_, ?_, ?_, ?_, ?_, ?_, ?_, ?_, ?_, ?_, ?_, ?_, ?_, ?_, ?_, ?_, ?_, ?_, ?_, ?_, ?_, ?_, ?_, trivial⟩
          · intro ev X hT hb hk hf
            have e0 : ev (.tmp 7) = .pointer (some ⟨p5, 0, Option.none⟩) := hk.1
            exact OpOk.load_row _ _ rfl _ e0 _ Xa (0, 0) _ (on_blk_mul (H10.out.below hT).right.right.right.right.right.right) hu rfl HsXa.out ⟨rfl, Stay.refl _⟩
          · intro ev X hT hb hk hf
            have e0 : ev (.tmp 9) = .pointer (some ⟨p6, 0, Option.none⟩) := hk.1
            exact OpOk.load_row _ _ rfl _ e0 _ Ya (0, 0) _ (on_blk_mul (H10.out.below hT).right.right.right.right) hu rfl HsYa.out ⟨rfl, Stay.refl _⟩
          · intro ev X hT hb hk hf
            have e0 : ev (.tmp 54) = .agg Xa := hf.1
            have e1 : ev (.tmp 55) = .agg Ya := hf.2.1
            exact OpOk.run (v := .slice (some ⟨X.heap.size, 0, Option.none⟩) 2 2) (W' := X.alloc (.cells #[lv (limb x 0), lv (limb x 1), lv (limb x 2), lv (limb x 3), lv (limb y 0), lv (limb y 1), lv (limb y 2), lv (limb y 3)] 25)) (by simp [execOp, e0, e1, HbB1.out X]) ⟨IsEl.two (heap_alloc_new X _), (Below.refl X.heap.size X).alloc (Nat.le_refl _) _⟩
          · intro ev X hT hb hk hf
            have e0 : IsEl X (ev (.tmp 56)) [x, y] := hf.1
            refine OpOk.enters (f := 17) (args := #[ev (.tmp 56)]) (W' := X) (by simp [execOp, resolve, invoke, hb.1, hb.2.1, go_sem]) ((A1.out _ X e0 (hT9.out.below hT)).mono ?_)
            rintro e _ ⟨rfl, hB⟩
            exact ⟨_, rfl, rfl, hB⟩
          · intro ev X hT hb hk hf
            have e0 : ev (.tmp 9) = .pointer (some ⟨p6, 0, Option.none⟩) := hk.1
            exact OpOk.load_row _ _ rfl _ e0 _ Ya (0, 0) _ (on_blk_mul (H10.out.below hT).right.right.right.right) hu rfl HsYa.out ⟨rfl, Stay.refl _⟩
          · intro ev X hT hb hk hf
            have e0 : ev (.tmp 7) = .pointer (some ⟨p5, 0, Option.none⟩) := hk.1
            exact OpOk.load_row _ _ rfl _ e0 _ Xa (0, 0) _ (on_blk_mul (H10.out.below hT).right.right.right.right.right.right) hu rfl HsXa.out ⟨rfl, Stay.refl _⟩
          · intro ev X hT hb hk hf
            have e0 : ev (.tmp 58) = .agg Ya := hf.1
            have e1 : ev (.tmp 59) = .agg Xa := hf.2.1
            exact OpOk.run (v := .slice (some ⟨X.heap.size, 0, Option.none⟩) 2 2) (W' := X.alloc (.cells #[lv (limb y 0), lv (limb y 1), lv (limb y 2), lv (limb y 3), lv (limb x 0), lv (limb x 1), lv (limb x 2), lv (limb x 3)] 25)) (by simp [execOp, e0, e1, HbB2.out X]) ⟨IsEl.two (heap_alloc_new X _), (Below.refl X.heap.size X).alloc (Nat.le_refl _) _⟩
          · intro ev X hT hb hk hf
            have e0 : IsEl X (ev (.tmp 60)) [y, x] := hf.1
            refine OpOk.enters (f := 17) (args := #[ev (.tmp 60)]) (W' := X) (by simp [execOp, resolve, invoke, hb.1, hb.2.1, go_sem]) ((A2.out _ X e0 (hT9.out.below hT)).mono ?_)
            rintro e _ ⟨rfl, hB⟩
            exact ⟨_, rfl, rfl, hB⟩
          · intro ev X hT hb hk hf
            have e0 : ev (.tmp 57) = .agg Sxy := hf.1
            have e1 : ev (.tmp 61) = .agg Sxy := hf.2.1
            exact OpOk.run (v := .bool true) (W' := X) (by
              unfold execOp
              simp only [e0, e1, Sem.run_bind, run_eqGuard_agg X _ _ _ _ _ _ Hgd.out, run_eql_struct, HE1.out X, Result.andThen_ok]
              rfl) ⟨rfl, Stay.refl _⟩
          · intro ev X hT hb hk hf
            have e0 : ev (.tmp 62) = .bool true := hf.1
            exact OpOk.move rfl e0 ⟨rfl, Stay.refl _⟩
          · intro ev X hT hb hk hf
            refine ⟨true, hf.1, fun _ => ?_, fun h => (h rfl).elim⟩
            have e0 : ev (.tmp 7) = .pointer (some ⟨p5, 0, Option.none⟩) := hk.1
            exact OpOk.load_row _ _ rfl _ e0 _ Xa (0, 0) _ (on_blk_mul (H10.out.below hT).right.right.right.right.right.right) hu rfl HsXa.out ⟨rfl, Stay.refl _⟩
          · intro ev X hT hb hk hf
            refine ⟨true, hf.1, fun _ => ?_, fun h => (h rfl).elim⟩
            have e0 : ev (.tmp 9) = .pointer (some ⟨p6, 0, Option.none⟩) := hk.1
            exact OpOk.load_row _ _ rfl _ e0 _ Ya (0, 0) _ (on_blk_mul (H10.out.below hT).right.right.right.right) hu rfl HsYa.out ⟨rfl, Stay.refl _⟩
          · intro ev X hT hb hk hf
            refine ⟨true, hf.2.2.1, fun _ => ?_, fun h => (h rfl).elim⟩
            have e0 : ev (.tmp 64) = .agg Xa := hf.1
            have e1 : ev (.tmp 65) = .agg Ya := hf.2.1
            exact OpOk.run (v := .slice (some ⟨X.heap.size, 0, Option.none⟩) 2 2) (W' := X.alloc (.cells #[lv (limb x 0), lv (limb x 1), lv (limb x 2), lv (limb x 3), lv (limb y 0), lv (limb y 1), lv (limb y 2), lv (limb y 3)] 25)) (by simp [execOp, e0, e1, HbB1.out X]) ⟨IsEl.two (heap_alloc_new X _), (Below.refl X.heap.size X).alloc (Nat.le_refl _) _⟩
          · intro ev X hT hb hk hf
            refine ⟨true, hf.2.1, fun _ => ?_, fun h => (h rfl).elim⟩
            have e0 : IsEl X (ev (.tmp 66)) [x, y] := hf.1
            refine OpOk.enters (f := 20) (args := #[ev (.tmp 66)]) (W' := X) (by simp [execOp, resolve, invoke, hb.1, hb.2.1, go_sem]) ((M1.out _ X e0 (hT9.out.below hT)).mono ?_)
            rintro e _ ⟨rfl, hB⟩
            exact ⟨_, rfl, rfl, hB⟩
          · intro ev X hT hb hk hf
            refine ⟨true, hf.1, fun _ => ?_, fun h => (h rfl).elim⟩
            have e0 : ev (.tmp 9) = .pointer (some ⟨p6, 0, Option.none⟩) := hk.1
            exact OpOk.load_row _ _ rfl _ e0 _ Ya (0, 0) _ (on_blk_mul (H10.out.below hT).right.right.right.right) hu rfl HsYa.out ⟨rfl, Stay.refl _⟩
          · intro ev X hT hb hk hf
            refine ⟨true, hf.1, fun _ => ?_, fun h => (h rfl).elim⟩
            have e0 : ev (.tmp 7) = .pointer (some ⟨p5, 0, Option.none⟩) := hk.1
            exact OpOk.load_row _ _ rfl _ e0 _ Xa (0, 0) _ (on_blk_mul (H10.out.below hT).right.right.right.right.right.right) hu rfl HsXa.out ⟨rfl, Stay.refl _⟩
          · intro ev X hT hb hk hf
            refine ⟨true, hf.2.2.1, fun _ => ?_, fun h => (h rfl).elim⟩
            have e0 : ev (.tmp 68) = .agg Ya := hf.1
            have e1 : ev (.tmp 69) = .agg Xa := hf.2.1
            exact OpOk.run (v := .slice (some ⟨X.heap.size, 0, Option.none⟩) 2 2) (W' := X.alloc (.cells #[lv (limb y 0), lv (limb y 1), lv (limb y 2), lv (limb y 3), lv (limb x 0), lv (limb x 1), lv (limb x 2), lv (limb x 3)] 25)) (by simp [execOp, e0, e1, HbB2.out X]) ⟨IsEl.two (heap_alloc_new X _), (Below.refl X.heap.size X).alloc (Nat.le_refl _) _⟩
          · intro ev X hT hb hk hf
            refine ⟨true, hf.2.2.1, fun _ => ?_, fun h => (h rfl).elim⟩
            have e0 : IsEl X (ev (.tmp 70)) [y, x] := hf.1
            refine OpOk.enters (f := 20) (args := #[ev (.tmp 70)]) (W' := X) (by simp [execOp, resolve, invoke, hb.1, hb.2.1, go_sem]) ((M2.out _ X e0 (hT9.out.below hT)).mono ?_)
            rintro e _ ⟨rfl, hB⟩
            exact ⟨_, rfl, rfl, hB⟩
          · intro ev X hT hb hk hf
            refine ⟨true, hf.2.2.1, fun _ => ?_, fun h => (h rfl).elim⟩
            have e0 : ev (.tmp 67) = .agg Pxy := hf.1
            have e1 : ev (.tmp 71) = .agg Pxy := hf.2.1
            exact OpOk.run (v := .bool true) (W' := X) (by
              unfold execOp
              simp only [e0, e1, Sem.run_bind, run_eqGuard_agg X _ _ _ _ _ _ Hgd.out, run_eql_struct, HE2.out X, Result.andThen_ok]
              rfl) ⟨rfl, Stay.refl _⟩
          · intro ev X hT hb hk hf
            have e0 : ev (.tmp 63) = .bool true := hf.1
            have e1 : ev (.tmp 72) = .bool true := hf.2.1
            exact OpOk.run (v := .bool true) (W' := X) (by simp [execOp, e0, e1, hb, hb.1, hb.2.1, hb.2.2, go_sem]) ⟨rfl, Stay.refl _⟩
          · intro ev X hT hb hk hf
            have e0 : ev (.tmp 73) = .bool true := hf.1
            exact OpOk.move rfl e0 ⟨rfl, Stay.refl _⟩
          · intro ev X hT hb hk hf
            refine ⟨true, hf.1, fun _ => ?_, fun h => (h rfl).elim⟩
            have e0 : ev (.tmp 7) = .pointer (some ⟨p5, 0, Option.none⟩) := hk.1
            exact OpOk.load_row _ _ rfl _ e0 _ Xa (0, 0) _ (on_blk_mul (H10.out.below hT).right.right.right.right.right.right) hu rfl HsXa.out ⟨rfl, Stay.refl _⟩
          · intro ev X hT hb hk hf
            refine ⟨true, hf.1, fun _ => ?_, fun h => (h rfl).elim⟩
            have e0 : ev (.tmp 9) = .pointer (some ⟨p6, 0, Option.none⟩) := hk.1
            exact OpOk.load_row _ _ rfl _ e0 _ Ya (0, 0) _ (on_blk_mul (H10.out.below hT).right.right.right.right) hu rfl HsYa.out ⟨rfl, Stay.refl _⟩
          · intro ev X hT hb hk hf
            refine ⟨true, hf.1, fun _ => ?_, fun h => (h rfl).elim⟩
            have e0 : ev (.tmp 11) = .pointer (some ⟨p7, 0, Option.none⟩) := hk.1
            exact OpOk.load_row _ _ rfl _ e0 _ Za (0, 0) _ (on_blk_mul (H10.out.below hT).right.right) hu rfl HsZa.out ⟨rfl, Stay.refl _⟩
          · intro ev X hT hb hk hf
            refine ⟨true, hf.2.2.1, fun _ => ?_, fun h => (h rfl).elim⟩
            have e0 : ev (.tmp 76) = .agg Ya := hf.1
            have e1 : ev (.tmp 77) = .agg Za := hf.2.1
            exact OpOk.run (v := .slice (some ⟨X.heap.size, 0, Option.none⟩) 2 2) (W' := X.alloc (.cells #[lv (limb y 0), lv (limb y 1), lv (limb y 2), lv (limb y 3), lv (limb z 0), lv (limb z 1), lv (limb z 2), lv (limb z 3)] 25)) (by simp [execOp, e0, e1, HbB3.out X]) ⟨IsEl.two (heap_alloc_new X _), (Below.refl X.heap.size X).alloc (Nat.le_refl _) _⟩
          · intro ev X hT hb hk hf
            refine ⟨true, hf.2.1, fun _ => ?_, fun h => (h rfl).elim⟩
            have e0 : IsEl X (ev (.tmp 78)) [y, z] := hf.1
            refine OpOk.enters (f := 17) (args := #[ev (.tmp 78)]) (W' := X) (by simp [execOp, resolve, invoke, hb.1, hb.2.1, go_sem]) ((A3.out _ X e0 (hT9.out.below hT)).mono ?_)
            rintro e _ ⟨rfl, hB⟩
            exact ⟨_, rfl, rfl, hB⟩
          · intro ev X hT hb hk hf
            refine ⟨true, hf.2.2.1, fun _ => ?_, fun h => (h rfl).elim⟩
            have e0 : ev (.tmp 75) = .agg Xa := hf.1
            have e1 : ev (.tmp 79) = .agg Syz := hf.2.1
            exact OpOk.run (v := .slice (some ⟨X.heap.size, 0, Option.none⟩) 2 2) (W' := X.alloc (.cells #[lv (limb x 0), lv (limb x 1), lv (limb x 2), lv (limb x 3), lv (limb ((y + z) % P5) 0), lv (limb ((y + z) % P5) 1), lv (limb ((y + z) % P5) 2), lv (limb ((y + z) % P5) 3)] 25)) (by simp [execOp, e0, e1, HbB4.out X]) ⟨IsEl.two (heap_alloc_new X _), (Below.refl X.heap.size X).alloc (Nat.le_refl _) _⟩
          · intro ev X hT hb hk hf
            refine ⟨true, hf.2.2.1, fun _ => ?_, fun h => (h rfl).elim⟩
            have e0 : IsEl X (ev (.tmp 80)) [x, ((y + z) % P5)] := hf.1
            refine OpOk.enters (f := 20) (args := #[ev (.tmp 80)]) (W' := X) (by simp [execOp, resolve, invoke, hb.1, hb.2.1, go_sem]) ((M3.out _ X e0 (hT9.out.below hT)).mono ?_)
            rintro e _ ⟨rfl, hB⟩
            exact ⟨_, rfl, rfl, hB⟩
          · intro ev X hT hb hk hf
            refine ⟨true, hf.1, fun _ => ?_, fun h => (h rfl).elim⟩
            have e0 : ev (.tmp 7) = .pointer (some ⟨p5, 0, Option.none⟩) := hk.1
            exact OpOk.load_row _ _ rfl _ e0 _ Xa (0, 0) _ (on_blk_mul (H10.out.below hT).right.right.right.right.right.right) hu rfl HsXa.out ⟨rfl, Stay.refl _⟩
          · intro ev X hT hb hk hf
            refine ⟨true, hf.1, fun _ => ?_, fun h => (h rfl).elim⟩
            have e0 : ev (.tmp 9) = .pointer (some ⟨p6, 0, Option.none⟩) := hk.1
            exact OpOk.load_row _ _ rfl _ e0 _ Ya (0, 0) _ (on_blk_mul (H10.out.below hT).right.right.right.right) hu rfl HsYa.out ⟨rfl, Stay.refl _⟩
          · intro ev X hT hb hk hf
            refine ⟨true, hf.2.2.1, fun _ => ?_, fun h => (h rfl).elim⟩
            have e0 : ev (.tmp 82) = .agg Xa := hf.1
            have e1 : ev (.tmp 83) = .agg Ya := hf.2.1
            exact OpOk.run (v := .slice (some ⟨X.heap.size, 0, Option.none⟩) 2 2) (W' := X.alloc (.cells #[lv (limb x 0), lv (limb x 1), lv (limb x 2), lv (limb x 3), lv (limb y 0), lv (limb y 1), lv (limb y 2), lv (limb y 3)] 25)) (by simp [execOp, e0, e1, HbB1.out X]) ⟨IsEl.two (heap_alloc_new X _), (Below.refl X.heap.size X).alloc (Nat.le_refl _) _⟩
          · intro ev X hT hb hk hf
            refine ⟨true, hf.2.2.1, fun _ => ?_, fun h => (h rfl).elim⟩
            have e0 : IsEl X (ev (.tmp 84)) [x, y] := hf.1
            refine OpOk.enters (f := 20) (args := #[ev (.tmp 84)]) (W' := X) (by simp [execOp, resolve, invoke, hb.1, hb.2.1, go_sem]) ((M1.out _ X e0 (hT9.out.below hT)).mono ?_)
            rintro e _ ⟨rfl, hB⟩
            exact ⟨_, rfl, rfl, hB⟩
          · intro ev X hT hb hk hf
            refine ⟨true, hf.1, fun _ => ?_, fun h => (h rfl).elim⟩
            have e0 : ev (.tmp 7) = .pointer (some ⟨p5, 0, Option.none⟩) := hk.1
            exact OpOk.load_row _ _ rfl _ e0 _ Xa (0, 0) _ (on_blk_mul (H10.out.below hT).right.right.right.right.right.right) hu rfl HsXa.out ⟨rfl, Stay.refl _⟩
          · intro ev X hT hb hk hf
            refine ⟨true, hf.1, fun _ => ?_, fun h => (h rfl).elim⟩
            have e0 : ev (.tmp 11) = .pointer (some ⟨p7, 0, Option.none⟩) := hk.1
            exact OpOk.load_row _ _ rfl _ e0 _ Za (0, 0) _ (on_blk_mul (H10.out.below hT).right.right) hu rfl HsZa.out ⟨rfl, Stay.refl _⟩
          · intro ev X hT hb hk hf
            refine ⟨true, hf.2.2.1, fun _ => ?_, fun h => (h rfl).elim⟩
            have e0 : ev (.tmp 86) = .agg Xa := hf.1
            have e1 : ev (.tmp 87) = .agg Za := hf.2.1
            exact OpOk.run (v := .slice (some ⟨X.heap.size, 0, Option.none⟩) 2 2) (W' := X.alloc (.cells #[lv (limb x 0), lv (limb x 1), lv (limb x 2), lv (limb x 3), lv (limb z 0), lv (limb z 1), lv (limb z 2), lv (limb z 3)] 25)) (by simp [execOp, e0, e1, HbB5.out X]) ⟨IsEl.two (heap_alloc_new X _), (Below.refl X.heap.size X).alloc (Nat.le_refl _) _⟩
          · intro ev X hT hb hk hf
            refine ⟨true, hf.2.2.1, fun _ => ?_, fun h => (h rfl).elim⟩
            have e0 : IsEl X (ev (.tmp 88)) [x, z] := hf.1
            refine OpOk.enters (f := 20) (args := #[ev (.tmp 88)]) (W' := X) (by simp [execOp, resolve, invoke, hb.1, hb.2.1, go_sem]) ((M4.out _ X e0 (hT9.out.below hT)).mono ?_)
            rintro e _ ⟨rfl, hB⟩
            exact ⟨_, rfl, rfl, hB⟩
          · intro ev X hT hb hk hf
            refine ⟨true, hf.2.2.1, fun _ => ?_, fun h => (h rfl).elim⟩
            have e0 : ev (.tmp 85) = .agg Pxy := hf.1
            have e1 : ev (.tmp 89) = .agg Pxz := hf.2.1
            exact OpOk.run (v := .slice (some ⟨X.heap.size, 0, Option.none⟩) 2 2) (W' := X.alloc (.cells #[lv (limb (x * y % P5) 0), lv (limb (x * y % P5) 1), lv (limb (x * y % P5) 2), lv (limb (x * y % P5) 3), lv (limb (x * z % P5) 0), lv (limb (x * z % P5) 1), lv (limb (x * z % P5) 2), lv (limb (x * z % P5) 3)] 25)) (by simp [execOp, e0, e1, HbB6.out X]) ⟨IsEl.two (heap_alloc_new X _), (Below.refl X.heap.size X).alloc (Nat.le_refl _) _⟩
          · intro ev X hT hb hk hf
            refine ⟨true, hf.2.2.1, fun _ => ?_, fun h => (h rfl).elim⟩
            have e0 : IsEl X (ev (.tmp 90)) [(x * y % P5), (x * z % P5)] := hf.1
            refine OpOk.enters (f := 17) (args := #[ev (.tmp 90)]) (W' := X) (by simp [execOp, resolve, invoke, hb.1, hb.2.1, go_sem]) ((A4'.out _ X e0 (hT9.out.below hT)).mono ?_)
            rintro e _ ⟨rfl, hB⟩
            exact ⟨_, rfl, rfl, hB⟩
          · intro ev X hT hb hk hf
            refine ⟨true, hf.2.2.1, fun _ => ?_, fun h => (h rfl).elim⟩
            have e0 : ev (.tmp 81) = .agg Pxs := hf.1
            have e1 : ev (.tmp 91) = .agg Pxs := hf.2.1
            exact OpOk.run (v := .bool true) (W' := X) (by
              unfold execOp
              simp only [e0, e1, Sem.run_bind, run_eqGuard_agg X _ _ _ _ _ _ Hgd.out, run_eql_struct, HE3.out X, Result.andThen_ok]
              rfl) ⟨rfl, Stay.refl _⟩
          · intro ev X hT hb hk hf
            have e0 : ev (.tmp 74) = .bool true := hf.1
            have e1 : ev (.tmp 92) = .bool true := hf.2.1
            exact OpOk.run (v := .bool true) (W' := X) (by simp [execOp, e0, e1, hb, hb.1, hb.2.1, hb.2.2, go_sem]) ⟨rfl, Stay.refl _⟩
          · intro ev X hT hb hk hf
            have e0 : ev (.tmp 93) = .bool true := hf.1
            exact OpOk.move rfl e0 ⟨rfl, Stay.refl _⟩
          · intro ev X hT hb hk hf
            refine ⟨true, hf.1, fun _ => ?_, fun h => (h rfl).elim⟩
            have e0 : ev (.tmp 7) = .pointer (some ⟨p5, 0, Option.none⟩) := hk.1
            exact OpOk.load_row _ _ rfl _ e0 _ Xa (0, 0) _ (on_blk_mul (H10.out.below hT).right.right.right.right.right.right) hu rfl HsXa.out ⟨rfl, Stay.refl _⟩
          · intro ev X hT hb hk hf
            refine ⟨true, hf.1, fun _ => ?_, fun h => (h rfl).elim⟩
            have e0 : ev (.tmp 7) = .pointer (some ⟨p5, 0, Option.none⟩) := hk.1
            exact OpOk.load_row _ _ rfl _ e0 _ Xa (0, 0) _ (on_blk_mul (H10.out.below hT).right.right.right.right.right.right) hu rfl HsXa.out ⟨rfl, Stay.refl _⟩
          · intro ev X hT hb hk hf
            refine ⟨true, hf.2.1, fun _ => ?_, fun h => (h rfl).elim⟩
            have e0 : ev (.tmp 96) = .agg Xa := hf.1
            refine OpOk.enters (f := 21) (args := #[.agg Xa]) (W' := X) (by simp [execOp, resolve, invoke, e0, hb.1, hb.2.1, go_sem]) ((N1.out X (hT9.out.below hT)).mono ?_)
            rintro e _ ⟨rfl, hB⟩
            exact ⟨_, rfl, rfl, hB⟩
          · intro ev X hT hb hk hf
            refine ⟨true, hf.2.2.1, fun _ => ?_, fun h => (h rfl).elim⟩
            have e0 : ev (.tmp 95) = .agg Xa := hf.1
            have e1 : ev (.tmp 97) = .agg Nx := hf.2.1
            exact OpOk.run (v := .slice (some ⟨X.heap.size, 0, Option.none⟩) 2 2) (W' := X.alloc (.cells #[lv (limb x 0), lv (limb x 1), lv (limb x 2), lv (limb x 3), lv (limb ((P5 - x) % P5) 0), lv (limb ((P5 - x) % P5) 1), lv (limb ((P5 - x) % P5) 2), lv (limb ((P5 - x) % P5) 3)] 25)) (by simp [execOp, e0, e1, HbB7.out X]) ⟨IsEl.two (heap_alloc_new X _), (Below.refl X.heap.size X).alloc (Nat.le_refl _) _⟩
          · intro ev X hT hb hk hf
            refine ⟨true, hf.2.2.1, fun _ => ?_, fun h => (h rfl).elim⟩
            have e0 : IsEl X (ev (.tmp 98)) [x, ((P5 - x) % P5)] := hf.1
            refine OpOk.enters (f := 17) (args := #[ev (.tmp 98)]) (W' := X) (by simp [execOp, resolve, invoke, hb.1, hb.2.1, go_sem]) ((A5.out _ X e0 (hT9.out.below hT)).mono ?_)
            rintro e _ ⟨rfl, hB⟩
            exact ⟨_, rfl, rfl, hB⟩
          · intro ev X hT hb hk hf
            refine ⟨true, hf.2.1, fun _ => ?_, fun h => (h rfl).elim⟩
            refine OpOk.enters (f := 37) (args := #[lv 0]) (W' := X) (by simp [execOp, resolve, invoke, hb.1, hb.2.1, go_sem]) ((Hs0.out X).mono ?_)
            rintro e _ ⟨rfl, hB⟩
            exact ⟨_, rfl, rfl, hB⟩
          · intro ev X hT hb hk hf
            refine ⟨true, hf.2.2.1, fun _ => ?_, fun h => (h rfl).elim⟩
            have e0 : ev (.tmp 99) = .agg Z4 := hf.1
            have e1 : ev (.tmp 100) = .agg Z4 := hf.2.1
            exact OpOk.run (v := .bool true) (W' := X) (by
              unfold execOp
              simp only [e0, e1, Sem.run_bind, run_eqGuard_agg X _ _ _ _ _ _ Hgd.out, run_eql_struct, HE4.out X, Result.andThen_ok]
              rfl) ⟨rfl, Stay.refl _⟩
          · intro ev X hT hb hk hf
            have e0 : ev (.tmp 94) = .bool true := hf.1
            have e1 : ev (.tmp 101) = .bool true := hf.2.1
            exact OpOk.run (v := .bool true) (W' := X) (by simp [execOp, e0, e1, hb, hb.1, hb.2.1, hb.2.2, go_sem]) ⟨rfl, Stay.refl _⟩
          · intro ev X hT hb hk hf
            have e0 : ev (.tmp 102) = .bool true := hf.1
            exact OpOk.move rfl e0 ⟨rfl, Stay.refl _⟩
          · intro ev X hT hb hk hf
            refine ⟨true, hf.1, fun _ => ?_, fun h => (h rfl).elim⟩
            have e0 : ev (.tmp 7) = .pointer (some ⟨p5, 0, Option.none⟩) := hk.1
            exact OpOk.load_row _ _ rfl _ e0 _ Xa (0, 0) _ (on_blk_mul (H10.out.below hT).right.right.right.right.right.right) hu rfl HsXa.out ⟨rfl, Stay.refl _⟩
          · intro ev X hT hb hk hf
            refine ⟨true, hf.1, fun _ => ?_, fun h => (h rfl).elim⟩
            have e0 : ev (.tmp 9) = .pointer (some ⟨p6, 0, Option.none⟩) := hk.1
            exact OpOk.load_row _ _ rfl _ e0 _ Ya (0, 0) _ (on_blk_mul (H10.out.below hT).right.right.right.right) hu rfl HsYa.out ⟨rfl, Stay.refl _⟩
          · intro ev X hT hb hk hf
            refine ⟨true, hf.2.2.1, fun _ => ?_, fun h => (h rfl).elim⟩
            have e0 : ev (.tmp 104) = .agg Xa := hf.1
            have e1 : ev (.tmp 105) = .agg Ya := hf.2.1
            exact OpOk.run (v := .slice (some ⟨X.heap.size, 0, Option.none⟩) 2 2) (W' := X.alloc (.cells #[lv (limb x 0), lv (limb x 1), lv (limb x 2), lv (limb x 3), lv (limb y 0), lv (limb y 1), lv (limb y 2), lv (limb y 3)] 25)) (by simp [execOp, e0, e1, HbB1.out X]) ⟨IsEl.two (heap_alloc_new X _), (Below.refl X.heap.size X).alloc (Nat.le_refl _) _⟩
          · intro ev X hT hb hk hf
            refine ⟨true, hf.2.1, fun _ => ?_, fun h => (h rfl).elim⟩
            have e0 : IsEl X (ev (.tmp 106)) [x, y] := hf.1
            refine OpOk.enters (f := 17) (args := #[ev (.tmp 106)]) (W' := X) (by simp [execOp, resolve, invoke, hb.1, hb.2.1, go_sem]) ((A1.out _ X e0 (hT9.out.below hT)).mono ?_)
            rintro e _ ⟨rfl, hB⟩
            exact ⟨_, rfl, rfl, hB⟩
          · intro ev X hT hb hk hf
            refine ⟨true, hf.1, fun _ => ?_, fun h => (h rfl).elim⟩
            have e0 : ev (.tmp 9) = .pointer (some ⟨p6, 0, Option.none⟩) := hk.1
            exact OpOk.load_row _ _ rfl _ e0 _ Ya (0, 0) _ (on_blk_mul (H10.out.below hT).right.right.right.right) hu rfl HsYa.out ⟨rfl, Stay.refl _⟩
          · intro ev X hT hb hk hf
            refine ⟨true, hf.2.2.2.1, fun _ => ?_, fun h => (h rfl).elim⟩
            have e0 : ev (.tmp 107) = .agg Sxy := hf.1
            have e1 : ev (.tmp 108) = .agg Ya := hf.2.1
            refine OpOk.enters (f := 18) (args := #[.agg Sxy, .agg Ya]) (W' := X) (by simp [execOp, resolve, invoke, e0, e1, hb.1, hb.2.1, go_sem]) ((B1.out X (hT9.out.below hT)).mono ?_)
            rintro e _ ⟨rfl, hB⟩
            exact ⟨_, rfl, rfl, hB⟩
          · intro ev X hT hb hk hf
            refine ⟨true, hf.1, fun _ => ?_, fun h => (h rfl).elim⟩
            have e0 : ev (.tmp 7) = .pointer (some ⟨p5, 0, Option.none⟩) := hk.1
            exact OpOk.load_row _ _ rfl _ e0 _ Xa (0, 0) _ (on_blk_mul (H10.out.below hT).right.right.right.right.right.right) hu rfl HsXa.out ⟨rfl, Stay.refl _⟩
          · intro ev X hT hb hk hf
            refine ⟨true, hf.2.2.1, fun _ => ?_, fun h => (h rfl).elim⟩
            have e0 : ev (.tmp 109) = .agg Xa := hf.1
            have e1 : ev (.tmp 110) = .agg Xa := hf.2.1
            exact OpOk.run (v := .bool true) (W' := X) (by
              unfold execOp
              simp only [e0, e1, Sem.run_bind, run_eqGuard_agg X _ _ _ _ _ _ Hgd.out, run_eql_struct, HE5.out X, Result.andThen_ok]
              rfl) ⟨rfl, Stay.refl _⟩
          · intro ev X hT hb hk hf
            have e0 : ev (.tmp 103) = .bool true := hf.1
            have e1 : ev (.tmp 111) = .bool true := hf.2.1
            exact OpOk.run (v := .bool true) (W' := X) (by simp [execOp, e0, e1, hb, hb.1, hb.2.1, hb.2.2, go_sem]) ⟨rfl, Stay.refl _⟩
          · intro ev X hT hb hk hf
            have e0 : ev (.tmp 112) = .bool true := hf.1
            exact OpOk.move rfl e0 ⟨rfl, Stay.refl _⟩
          · intro ev X hT hb hk hf
            refine ⟨true, hf.1, fun _ => ?_, fun h => (h rfl).elim⟩
            have e0 : ev (.tmp 7) = .pointer (some ⟨p5, 0, Option.none⟩) := hk.1
            exact OpOk.load_row _ _ rfl _ e0 _ Xa (0, 0) _ (on_blk_mul (H10.out.below hT).right.right.right.right.right.right) hu rfl HsXa.out ⟨rfl, Stay.refl _⟩
          · intro ev X hT hb hk hf
            refine ⟨true, hf.2.1, fun _ => ?_, fun h => (h rfl).elim⟩
            have e0 : ev (.tmp 114) = .agg Xa := hf.1
            refine OpOk.enters (f := 21) (args := #[.agg Xa]) (W' := X) (by simp [execOp, resolve, invoke, e0, hb.1, hb.2.1, go_sem]) ((N1.out X (hT9.out.below hT)).mono ?_)
            rintro e _ ⟨rfl, hB⟩
            exact ⟨_, rfl, rfl, hB⟩
          · intro ev X hT hb hk hf
            refine ⟨true, hf.1, fun _ => ?_, fun h => (h rfl).elim⟩
            have e0 : ev (.tmp 9) = .pointer (some ⟨p6, 0, Option.none⟩) := hk.1
            exact OpOk.load_row _ _ rfl _ e0 _ Ya (0, 0) _ (on_blk_mul (H10.out.below hT).right.right.right.right) hu rfl HsYa.out ⟨rfl, Stay.refl _⟩
          · intro ev X hT hb hk hf
            refine ⟨true, hf.2.2.1, fun _ => ?_, fun h => (h rfl).elim⟩
            have e0 : ev (.tmp 115) = .agg Nx := hf.1
            have e1 : ev (.tmp 116) = .agg Ya := hf.2.1
            exact OpOk.run (v := .slice (some ⟨X.heap.size, 0, Option.none⟩) 2 2) (W' := X.alloc (.cells #[lv (limb ((P5 - x) % P5) 0), lv (limb ((P5 - x) % P5) 1), lv (limb ((P5 - x) % P5) 2), lv (limb ((P5 - x) % P5) 3), lv (limb y 0), lv (limb y 1), lv (limb y 2), lv (limb y 3)] 25)) (by simp [execOp, e0, e1, HbB8.out X]) ⟨IsEl.two (heap_alloc_new X _), (Below.refl X.heap.size X).alloc (Nat.le_refl _) _⟩
          · intro ev X hT hb hk hf
            refine ⟨true, hf.2.2.1, fun _ => ?_, fun h => (h rfl).elim⟩
            have e0 : IsEl X (ev (.tmp 117)) [((P5 - x) % P5), y] := hf.1
            refine OpOk.enters (f := 20) (args := #[ev (.tmp 117)]) (W' := X) (by simp [execOp, resolve, invoke, hb.1, hb.2.1, go_sem]) ((M5.out _ X e0 (hT9.out.below hT)).mono ?_)
            rintro e _ ⟨rfl, hB⟩
            exact ⟨_, rfl, rfl, hB⟩
          · intro ev X hT hb hk hf
            refine ⟨true, hf.1, fun _ => ?_, fun h => (h rfl).elim⟩
            have e0 : ev (.tmp 7) = .pointer (some ⟨p5, 0, Option.none⟩) := hk.1
            exact OpOk.load_row _ _ rfl _ e0 _ Xa (0, 0) _ (on_blk_mul (H10.out.below hT).right.right.right.right.right.right) hu rfl HsXa.out ⟨rfl, Stay.refl _⟩
          · intro ev X hT hb hk hf
            refine ⟨true, hf.1, fun _ => ?_, fun h => (h rfl).elim⟩
            have e0 : ev (.tmp 9) = .pointer (some ⟨p6, 0, Option.none⟩) := hk.1
            exact OpOk.load_row _ _ rfl _ e0 _ Ya (0, 0) _ (on_blk_mul (H10.out.below hT).right.right.right.right) hu rfl HsYa.out ⟨rfl, Stay.refl _⟩
          · intro ev X hT hb hk hf
            refine ⟨true, hf.2.2.1, fun _ => ?_, fun h => (h rfl).elim⟩
            have e0 : ev (.tmp 119) = .agg Xa := hf.1
            have e1 : ev (.tmp 120) = .agg Ya := hf.2.1
            exact OpOk.run (v := .slice (some ⟨X.heap.size, 0, Option.none⟩) 2 2) (W' := X.alloc (.cells #[lv (limb x 0), lv (limb x 1), lv (limb x 2), lv (limb x 3), lv (limb y 0), lv (limb y 1), lv (limb y 2), lv (limb y 3)] 25)) (by simp [execOp, e0, e1, HbB1.out X]) ⟨IsEl.two (heap_alloc_new X _), (Below.refl X.heap.size X).alloc (Nat.le_refl _) _⟩
          · intro ev X hT hb hk hf
            refine ⟨true, hf.2.2.1, fun _ => ?_, fun h => (h rfl).elim⟩
            have e0 : IsEl X (ev (.tmp 121)) [x, y] := hf.1
            refine OpOk.enters (f := 20) (args := #[ev (.tmp 121)]) (W' := X) (by simp [execOp, resolve, invoke, hb.1, hb.2.1, go_sem]) ((M1.out _ X e0 (hT9.out.below hT)).mono ?_)
            rintro e _ ⟨rfl, hB⟩
            exact ⟨_, rfl, rfl, hB⟩
          · intro ev X hT hb hk hf
            refine ⟨true, hf.2.2.1, fun _ => ?_, fun h => (h rfl).elim⟩
            have e0 : ev (.tmp 122) = .agg Pxy := hf.1
            refine OpOk.enters (f := 21) (args := #[.agg Pxy]) (W' := X) (by simp [execOp, resolve, invoke, e0, hb.1, hb.2.1, go_sem]) ((N2.out X (hT9.out.below hT)).mono ?_)
            rintro e _ ⟨rfl, hB⟩
            exact ⟨_, rfl, rfl, hB⟩
          · intro ev X hT hb hk hf
            refine ⟨true, hf.2.2.1, fun _ => ?_, fun h => (h rfl).elim⟩
            have e0 : ev (.tmp 118) = .agg NP := hf.1
            have e1 : ev (.tmp 123) = .agg NP := hf.2.1
            exact OpOk.run (v := .bool true) (W' := X) (by
              unfold execOp
              simp only [e0, e1, Sem.run_bind, run_eqGuard_agg X _ _ _ _ _ _ Hgd.out, run_eql_struct, HE6.out X, Result.andThen_ok]
              rfl) ⟨rfl, Stay.refl _⟩
          · intro ev X hT hb hk hf
            have e0 : ev (.tmp 113) = .bool true := hf.1
            have e1 : ev (.tmp 124) = .bool true := hf.2.1
            exact OpOk.run (v := .bool true) (W' := X) (by simp [execOp, e0, e1, hb, hb.1, hb.2.1, hb.2.2, go_sem]) ⟨rfl, Stay.refl _⟩
          · intro ev X hT hb hk hf
            have e0 : ev (.tmp 125) = .bool true := hf.1
            exact OpOk.assign rfl e0 ⟨rfl, Stay.refl _⟩
        case rest =>
          intro X9 hX
          rintro _ - _ - _ - _ - _ - _ - _ - _ - _ - _ - _ - _ - _ - _ - _ - _ - _ - _ - _ - _ - _ - _ - _ - _ - _ - _ - _ - _ - _ - _ - _ - _ - _ - _ - _ - _ - _ - _ - _ - _ - _ - _ - _ - _ - _ - _ - _ - _ - _ - _ - _ - _ - _ - _ - _ - _ - _ - _ - _ - _ - _ - _ - _ - _ - _ - _ - _ - _ - _ - _ - _ - _ - _ rfl
          have HB := hide (all_below (H10.out.below hX).right.right.right.right.right.right.right.right.right.right (S10.out.trans (Str.below hX)))
          clear hX
          go_wp2
          refine Rest.done ?_
          go_wp2_with fail
          go_ret
          exact ⟨rfl, HB.out⟩
    · have hq1 := Hx0.out
      simp only [h0, decide_false] at hq1
      have hq2 := Hon1.out
      simp only [Hz1.out h0, decide_true] at hq2
      have HQ1 := hide hq1
      have HQ2 := hide hq2
      clear hq1 hq2 h0
      go_wp2_with fail
      refine wp_region_vsg [isV (.agg Xa), isV (.agg Z4), isV (.bool false), isV (.bool false), isV (undef), isV (undef), isV (undef), isV (.bool false), isV (.bool false), isV (.agg Xa), isV (.agg Z4), isV (.bool true), isV (.bool true), isV (.agg On), isV (.agg O4), isV (.bool false), isV (.bool false), isV (.bool false)]
        (by kernel_rfl) (by kernel_rfl) rfl ?keep ?todo ?rest
      case keep => exact ⟨Keep.isV _, Keep.isV _, Keep.isV _, Keep.isV _, Keep.isV _, Keep.isV _, Keep.isV _, Keep.isV _, Keep.isV _, Keep.isV _, Keep.isV _, Keep.isV _, Keep.isV _, Keep.isV _, Keep.isV _, Keep.isV _, Keep.isV _, Keep.isV _, trivial⟩
      case todo =>
        refine ⟨?_, ?_, ?_, ?_, ?_, ?_, ?_, ?_, ?_, ?_, ?_, ?_, ?_, ?_, ?_, ?_, ?_, ?_, trivial⟩
        · intro ev X hT hb hk hf
          have e0 : ev (.tmp 7) = .pointer (some ⟨p5, 0, Option.none⟩) := hk.1
          exact OpOk.load_row _ _ rfl _ e0 _ Xa (0, 0) _ (on_blk_mul (H9.out.below hT).right.right.right.right.right.right) hu rfl HsXa.out ⟨rfl, Stay.refl _⟩
        · intro ev X hT hb hk hf
          exact OpOk.run (v := .agg Z4) (W' := X) (by simp [execOp, Hbz.out X]) ⟨rfl, Stay.refl _⟩
        · intro ev X hT hb hk hf
          have e0 : ev (.tmp 36) = .agg Xa := hf.1
          have e1 : ev (.tmp 37) = .agg Z4 := hf.2.1
          exact OpOk.run (v := .bool false) (W' := X) (by
            unfold execOp
            simp only [e0, e1, Sem.run_bind, run_eqGuard_agg X _ _ _ _ _ _ Hgd.out, run_eql_struct, HQ1.out X, Result.andThen_ok]
            rfl) ⟨rfl, Stay.refl _⟩
        · intro ev X hT hb hk hf
          have e0 : ev (.tmp 38) = .bool false := hf.1
          exact OpOk.move rfl e0 ⟨rfl, Stay.refl _⟩
        · exact fun ev X hT hb hk hf => .inl ⟨false, hf.1, fun h => (nomatch h), fun _ => rfl⟩
        · exact fun ev X hT hb hk hf => .inl ⟨false, hf.1, fun h => (nomatch h), fun _ => rfl⟩
        · exact fun ev X hT hb hk hf => .inl ⟨false, hf.2.2.1, fun h => (nomatch h), fun _ => rfl⟩
        · intro ev X hT hb hk hf
          have e0 : ev (.tmp 39) = .bool false := hf.1
          have e1 : ev (.tmp 42) = undef := hf.2.1
          exact OpOk.run (v := .bool false) (W' := X) (by simp [execOp, e0, e1, hb, hb.1, hb.2.1, hb.2.2, go_sem]) ⟨rfl, Stay.refl _⟩
        · intro ev X hT hb hk hf
          have e0 : ev (.tmp 43) = .bool false := hf.1
          exact OpOk.move rfl e0 ⟨rfl, Stay.refl _⟩
        · intro ev X hT hb hk hf
          refine .inl ⟨false, hf.1, fun _ => ?_, fun h => (h rfl).elim⟩
          have e0 : ev (.tmp 7) = .pointer (some ⟨p5, 0, Option.none⟩) := hk.1
          exact OpOk.load_row _ _ rfl _ e0 _ Xa (0, 0) _ (on_blk_mul (H9.out.below hT).right.right.right.right.right.right) hu rfl HsXa.out ⟨rfl, Stay.refl _⟩
        · intro ev X hT hb hk hf
          refine .inl ⟨false, hf.1, fun _ => ?_, fun h => (h rfl).elim⟩
          exact OpOk.run (v := .agg Z4) (W' := X) (by simp [execOp, Hbz.out X]) ⟨rfl, Stay.refl _⟩
        · intro ev X hT hb hk hf
          refine .inl ⟨false, hf.2.2.1, fun _ => ?_, fun h => (h rfl).elim⟩
          have e0 : ev (.tmp 45) = .agg Xa := hf.1
          have e1 : ev (.tmp 46) = .agg Z4 := hf.2.1
          exact OpOk.run (v := .bool true) (W' := X) (by
            unfold execOp
            simp only [e0, e1, Sem.run_bind, run_eqGuard_agg X _ _ _ _ _ _ Hgd.out, run_neq_struct, HQ1.out X, Result.andThen_ok]
            rfl) ⟨rfl, Stay.refl _⟩
        · intro ev X hT hb hk hf
          refine .inl ⟨false, hf.2.1, fun _ => ?_, fun h => (h rfl).elim⟩
          have e0 : ev (.tmp 47) = .bool true := hf.1
          exact OpOk.move rfl e0 ⟨rfl, Stay.refl _⟩
        · intro ev X hT hb hk hf
          refine .inl ⟨true, hf.1, fun _ => ?_, fun h => (h rfl).elim⟩
          have e0 : ev (.tmp 13) = .pointer (some ⟨g13, 0, Option.none⟩) := hk.1
          exact OpOk.load_row _ _ rfl _ e0 _ On (0, 0) _ (on_blk_mul (H9.out.below hT)) hu rfl HsOn.out ⟨rfl, Stay.refl _⟩
        · intro ev X hT hb hk hf
          refine .inl ⟨true, hf.1, fun _ => ?_, fun h => (h rfl).elim⟩
          refine OpOk.enters (f := 37) (args := #[lv 1]) (W' := X) (by simp [execOp, resolve, invoke, hb.1, hb.2.1, go_sem]) ((Hs1.out X).mono ?_)
          rintro e _ ⟨rfl, hB⟩
          exact ⟨_, rfl, rfl, hB⟩
        · intro ev X hT hb hk hf
          refine .inl ⟨true, hf.2.2.1, fun _ => ?_, fun h => (h rfl).elim⟩
          have e0 : ev (.tmp 49) = .agg On := hf.1
          have e1 : ev (.tmp 50) = .agg O4 := hf.2.1
          exact OpOk.run (v := .bool false) (W' := X) (by
            unfold execOp
            simp only [e0, e1, Sem.run_bind, run_eqGuard_agg X _ _ _ _ _ _ Hgd.out, run_neq_struct, HQ2.out X, Result.andThen_ok]
            rfl) ⟨rfl, Stay.refl _⟩
        · intro ev X hT hb hk hf
          refine .inl ⟨false, hf.2.2.1, fun _ => ?_, fun h => (h rfl).elim⟩
          have e0 : ev (.tmp 48) = .bool true := hf.1
          have e1 : ev (.tmp 51) = .bool false := hf.2.1
          exact OpOk.run (v := .bool false) (W' := X) (by simp [execOp, e0, e1, hb, hb.1, hb.2.1, hb.2.2, go_sem]) ⟨rfl, Stay.refl _⟩
        · intro ev X hT hb hk hf
          have e0 : ev (.tmp 44) = .bool false := hf.1
          have e1 : ev (.tmp 52) = .bool false := hf.2.1
          exact OpOk.run (v := .bool false) (W' := X) (by simp [execOp, e0, e1, hb, hb.1, hb.2.1, hb.2.2, go_sem]) ⟨rfl, Stay.refl _⟩
      case rest =>
        intro w10 hX
        rintro _ - _ - _ - _ - _ - _ - _ - _ - _ - _ - _ - _ - _ - _ - _ - _ - _ - _ rfl
        have H10 := hide (H9.out.below hX)
        have S10 := hide (S9.out.trans (Str.below hX))
        clear hX H9 S9
        go_wp2
        refine Rest.done ?_
        have hT9 := hide (hT0.below (all_below H10.out.right.right.right.right.right.right.right.right.right.right S10.out))
        go_wp2_with fail
        refine wp_region_vs [isV (.agg Xa), isV (.agg Ya), fun v X => IsEl X v [x, y], isV (.agg Sxy), isV (.agg Ya), isV (.agg Xa), fun v X => IsEl X v [y, x], isV (.agg Sxy), isV (.bool true), isV (.bool true), isV (.agg Xa), isV (.agg Ya), fun v X => IsEl X v [x, y], isV (.agg Pxy), isV (.agg Ya), isV (.agg Xa), fun v X => IsEl X v [y, x], isV (.agg Pxy), isV (.bool true), isV (.bool true), isV (.bool true), isV (.agg Xa), isV (.agg Ya), isV (.agg Za), fun v X => IsEl X v [y, z], isV (.agg Syz), fun v X => IsEl X v [x, ((y + z) % P5)], isV (.agg Pxs), isV (.agg Xa), isV (.agg Ya), fun v X => IsEl X v [x, y], isV (.agg Pxy), isV (.agg Xa), isV (.agg Za), fun v X => IsEl X v [x, z], isV (.agg Pxz), fun v X => IsEl X v [(x * y % P5), (x * z % P5)], isV (.agg Pxs), isV (.bool true), isV (.bool true), isV (.bool true), isV (.agg Xa), isV (.agg Xa), isV (.agg Nx), fun v X => IsEl X v [x, ((P5 - x) % P5)], isV (.agg Z4), isV (.agg Z4), isV (.bool true), isV (.bool true), isV (.bool true), isV (.agg Xa), isV (.agg Ya), fun v X => IsEl X v [x, y], isV (.agg Sxy), isV (.agg Ya), isV (.agg Xa), isV (.agg Xa), isV (.bool true), isV (.bool true), isV (.bool true), isV (.agg Xa), isV (.agg Nx), isV (.agg Ya), fun v X => IsEl X v [((P5 - x) % P5), y], isV (.agg NP), isV (.agg Xa), isV (.agg Ya), fun v X => IsEl X v [x, y], isV (.agg Pxy), isV (.agg NP), isV (.bool true), isV (.bool true), isV (.bool true)]
          (by kernel_rfl) (by kernel_rfl) rfl ?keep ?todo ?rest
        case keep => exact ⟨Keep.isV _, Keep.isV _, fun _ _ _ h k => IsEl.below h k, Keep.isV _, Keep.isV _, Keep.isV _, fun _ _ _ h k => IsEl.below h k, Keep.isV _, Keep.isV _, Keep.isV _, Keep.isV _, Keep.isV _, fun _ _ _ h k => IsEl.below h k, Keep.isV _, Keep.isV _, Keep.isV _, fun _ _ _ h k => IsEl.below h k, Keep.isV _, Keep.isV _, Keep.isV _, Keep.isV _, Keep.isV _, Keep.isV _, Keep.isV _, fun _ _ _ h k => IsEl.below h k, Keep.isV _, fun _ _ _ h k => IsEl.below h k, Keep.isV _, Keep.isV _, Keep.isV _, fun _ _ _ h k => IsEl.below h k, Keep.isV _, Keep.isV _, Keep.isV _, fun _ _ _ h k => IsEl.below h k, Keep.isV _, fun _ _ _ h k => IsEl.below h k, Keep.isV _, Keep.isV _, Keep.isV _, Keep.isV _, Keep.isV _, Keep.isV _, Keep.isV _, fun _ _ _ h k => IsEl.below h k, Keep.isV _, Keep.isV _, Keep.isV _, Keep.isV _, Keep.isV _, Keep.isV _, Keep.isV _, fun _ _ _ h k => IsEl.below h k, Keep.isV _, Keep.isV _, Keep.isV _, Keep.isV _, Keep.isV _, Keep.isV _, Keep.isV _, Keep.isV _, Keep.isV _, Keep.isV _, fun _ _ _ h k => IsEl.below h k, Keep.isV _, Keep.isV _, Keep.isV _, fun _ _ _ h k => IsEl.below h k, Keep.isV _, Keep.isV _, Keep.isV _, Keep.isV _, Keep.isV _, trivial⟩
        case todo =>
          refine ⟨?_, ?_, ?_, ?_, ?_, ?_, ?_, ?_, ?_, ?_, ?_, ?_, ?_, ?_, ?_, ?_, ?_, ?_, ?_, ?_, ?_, ?_, ?_, ?_, ?_, ?_, ?_, ?_, ?_, ?_, ?_, ?_, ?_, ?_, ?_, ?_, ?_, ?_, ?_, ?_, ?_, ?_, ?_, ?_, ?_, ?_, ?_, ?_, ?_, ?_, ?_, ?_, ?_, ?_, ?_, ?_, ?_, ?_, ?_, ?_, ?_, ?_, ?_, ?_, ?_, ?_, ?_, ?_, ?_, ?_, ?_, ?_, ?_, trivial⟩
          · intro ev X hT hb hk hf
            have e0 : ev (.tmp 7) = .pointer (some ⟨p5, 0, Option.none⟩) := hk.1
            exact OpOk.load_row _ _ rfl _ e0 _ Xa (0, 0) _ (on_blk_mul (H10.out.below hT).right.right.right.right.right.right) hu rfl HsXa.out ⟨rfl, Stay.refl _⟩
          · intro ev X hT hb hk hf
            have e0 : ev (.tmp 9) = .pointer (some ⟨p6, 0, Option.none⟩) := hk.1
            exact OpOk.load_row _ _ rfl _ e0 _ Ya (0, 0) _ (on_blk_mul (H10.out.below hT).right.right.right.right) hu rfl HsYa.out ⟨rfl, Stay.refl _⟩
          · intro ev X hT hb hk hf
            have e0 : ev (.tmp 54) = .agg Xa := hf.1
            have e1 : ev (.tmp 55) = .agg Ya := hf.2.1
            exact OpOk.run (v := .slice (some ⟨X.heap.size, 0, Option.none⟩) 2 2) (W' := X.alloc (.cells #[lv (limb x 0), lv (limb x 1), lv (limb x 2), lv (limb x 3), lv (limb y 0), lv (limb y 1), lv (limb y 2), lv (limb y 3)] 25)) (by simp [execOp, e0, e1, HbB1.out X]) ⟨IsEl.two (heap_alloc_new X _), (Below.refl X.heap.size X).alloc (Nat.le_refl _) _⟩
          · intro ev X hT hb hk hf
            have e0 : IsEl X (ev (.tmp 56)) [x, y] := hf.1
            refine OpOk.enters (f := 17) (args := #[ev (.tmp 56)]) (W' := X) (by simp [execOp, resolve, invoke, hb.1, hb.2.1, go_sem]) ((A1.out _ X e0 (hT9.out.below hT)).mono ?_)
            rintro e _ ⟨rfl, hB⟩
            exact ⟨_, rfl, rfl, hB⟩
          · intro ev X hT hb hk hf
            have e0 : ev (.tmp 9) = .pointer (some ⟨p6, 0, Option.none⟩) := hk.1
            exact OpOk.load_row _ _ rfl _ e0 _ Ya (0, 0) _ (on_blk_mul (H10.out.below hT).right.right.right.right) hu rfl HsYa.out ⟨rfl, Stay.refl _⟩
          · intro ev X hT hb hk hf
            have e0 : ev (.tmp 7) = .pointer (some ⟨p5, 0, Option.none⟩) := hk.1
            exact OpOk.load_row _ _ rfl _ e0 _ Xa (0, 0) _ (on_blk_mul (H10.out.below hT).right.right.right.right.right.right) hu rfl HsXa.out ⟨rfl, Stay.refl _⟩
          · intro ev X hT hb hk hf
            have e0 : ev (.tmp 58) = .agg Ya := hf.1
            have e1 : ev (.tmp 59) = .agg Xa := hf.2.1
            exact OpOk.run (v := .slice (some ⟨X.heap.size, 0, Option.none⟩) 2 2) (W' := X.alloc (.cells #[lv (limb y 0), lv (limb y 1), lv (limb y 2), lv (limb y 3), lv (limb x 0), lv (limb x 1), lv (limb x 2), lv (limb x 3)] 25)) (by simp [execOp, e0, e1, HbB2.out X]) ⟨IsEl.two (heap_alloc_new X _), (Below.refl X.heap.size X).alloc (Nat.le_refl _) _⟩
          · intro ev X hT hb hk hf
            have e0 : IsEl X (ev (.tmp 60)) [y, x] := hf.1
            refine OpOk.enters (f := 17) (args := #[ev (.tmp 60)]) (W' := X) (by simp [execOp, resolve, invoke, hb.1, hb.2.1, go_sem]) ((A2.out _ X e0 (hT9.out.below hT)).mono ?_)
            rintro e _ ⟨rfl, hB⟩
            exact ⟨_, rfl, rfl, hB⟩
          · intro ev X hT hb hk hf
            have e0 : ev (.tmp 57) = .agg Sxy := hf.1
            have e1 : ev (.tmp 61) = .agg Sxy := hf.2.1
            exact OpOk.run (v := .bool true) (W' := X) (by
              unfold execOp
              simp only [e0, e1, Sem.run_bind, run_eqGuard_agg X _ _ _ _ _ _ Hgd.out, run_eql_struct, HE1.out X, Result.andThen_ok]
              rfl) ⟨rfl, Stay.refl _⟩
          · intro ev X hT hb hk hf
            have e0 : ev (.tmp 62) = .bool true := hf.1
            exact OpOk.move rfl e0 ⟨rfl, Stay.refl _⟩
          · intro ev X hT hb hk hf
            refine ⟨true, hf.1, fun _ => ?_, fun h => (h rfl).elim⟩
            have e0 : ev (.tmp 7) = .pointer (some ⟨p5, 0, Option.none⟩) := hk.1
            exact OpOk.load_row _ _ rfl _ e0 _ Xa (0, 0) _ (on_blk_mul (H10.out.below hT).right.right.right.right.right.right) hu rfl HsXa.out ⟨rfl, Stay.refl _⟩
          · intro ev X hT hb hk hf
            refine ⟨true, hf.1, fun _ => ?_, fun h => (h rfl).elim⟩
            have e0 : ev (.tmp 9) = .pointer (some ⟨p6, 0, Option.none⟩) := hk.1
            exact OpOk.load_row _ _ rfl _ e0 _ Ya (0, 0) _ (on_blk_mul (H10.out.below hT).right.right.right.right) hu rfl HsYa.out ⟨rfl, Stay.refl _⟩
          · intro ev X hT hb hk hf
            refine ⟨true, hf.2.2.1, fun _ => ?_, fun h => (h rfl).elim⟩
            have e0 : ev (.tmp 64) = .agg Xa := hf.1
            have e1 : ev (.tmp 65) = .agg Ya := hf.2.1
            exact OpOk.run (v := .slice (some ⟨X.heap.size, 0, Option.none⟩) 2 2) (W' := X.alloc (.cells #[lv (limb x 0), lv (limb x 1), lv (limb x 2), lv (limb x 3), lv (limb y 0), lv (limb y 1), lv (limb y 2), lv (limb y 3)] 25)) (by simp [execOp, e0, e1, HbB1.out X]) ⟨IsEl.two (heap_alloc_new X _), (Below.refl X.heap.size X).alloc (Nat.le_refl _) _⟩
          · intro ev X hT hb hk hf
            refine ⟨true, hf.2.1, fun _ => ?_, fun h => (h rfl).elim⟩
            have e0 : IsEl X (ev (.tmp 66)) [x, y] := hf.1
            refine OpOk.enters (f := 20) (args := #[ev (.tmp 66)]) (W' := X) (by simp [execOp, resolve, invoke, hb.1, hb.2.1, go_sem]) ((M1.out _ X e0 (hT9.out.below hT)).mono ?_)
            rintro e _ ⟨rfl, hB⟩
            exact ⟨_, rfl, rfl, hB⟩
          · intro ev X hT hb hk hf
            refine ⟨true, hf.1, fun _ => ?_, fun h => (h rfl).elim⟩
            have e0 : ev (.tmp 9) = .pointer (some ⟨p6, 0, Option.none⟩) := hk.1
            exact OpOk.load_row _ _ rfl _ e0 _ Ya (0, 0) _ (on_blk_mul (H10.out.below hT).right.right.right.right) hu rfl HsYa.out ⟨rfl, Stay.refl _⟩
          · intro ev X hT hb hk hf
            refine ⟨true, hf.1, fun _ => ?_, fun h => (h rfl).elim⟩
            have e0 : ev (.tmp 7) = .pointer (some ⟨p5, 0, Option.none⟩) := hk.1
            exact OpOk.load_row _ _ rfl _ e0 _ Xa (0, 0) _ (on_blk_mul (H10.out.below hT).right.right.right.right.right.right) hu rfl HsXa.out ⟨rfl, Stay.refl _⟩
          · intro ev X hT hb hk hf
            refine ⟨true, hf.2.2.1, fun _ => ?_, fun h => (h rfl).elim⟩
            have e0 : ev (.tmp 68) = .agg Ya := hf.1
            have e1 : ev (.tmp 69) = .agg Xa := hf.2.1
            exact OpOk.run (v := .slice (some ⟨X.heap.size, 0, Option.none⟩) 2 2) (W' := X.alloc (.cells #[lv (limb y 0), lv (limb y 1), lv (limb y 2), lv (limb y 3), lv (limb x 0), lv (limb x 1), lv (limb x 2), lv (limb x 3)] 25)) (by simp [execOp, e0, e1, HbB2.out X]) ⟨IsEl.two (heap_alloc_new X _), (Below.refl X.heap.size X).alloc (Nat.le_refl _) _⟩
          · intro ev X hT hb hk hf
            refine ⟨true, hf.2.2.1, fun _ => ?_, fun h => (h rfl).elim⟩
            have e0 : IsEl X (ev (.tmp 70)) [y, x] := hf.1
            refine OpOk.enters (f := 20) (args := #[ev (.tmp 70)]) (W' := X) (by simp [execOp, resolve, invoke, hb.1, hb.2.1, go_sem]) ((M2.out _ X e0 (hT9.out.below hT)).mono ?_)
            rintro e _ ⟨rfl, hB⟩
            exact ⟨_, rfl, rfl, hB⟩
          · intro ev X hT hb hk hf
            refine ⟨true, hf.2.2.1, fun _ => ?_, fun h => (h rfl).elim⟩
            have e0 : ev (.tmp 67) = .agg Pxy := hf.1
            have e1 : ev (.tmp 71) = .agg Pxy := hf.2.1
            exact OpOk.run (v := .bool true) (W' := X) (by
              unfold execOp
              simp only [e0, e1, Sem.run_bind, run_eqGuard_agg X _ _ _ _ _ _ Hgd.out, run_eql_struct, HE2.out X, Result.andThen_ok]
              rfl) ⟨rfl, Stay.refl _⟩
          · intro ev X hT hb hk hf
            have e0 : ev (.tmp 63) = .bool true := hf.1
            have e1 : ev (.tmp 72) = .bool true := hf.2.1
            exact OpOk.run (v := .bool true) (W' := X) (by simp [execOp, e0, e1, hb, hb.1, hb.2.1, hb.2.2, go_sem]) ⟨rfl, Stay.refl _⟩
          · intro ev X hT hb hk hf
            have e0 : ev (.tmp 73) = .bool true := hf.1
            exact OpOk.move rfl e0 ⟨rfl, Stay.refl _⟩
          · intro ev X hT hb hk hf
            refine ⟨true, hf.1, fun _ => ?_, fun h => (h rfl).elim⟩
            have e0 : ev (.tmp 7) = .pointer (some ⟨p5, 0, Option.none⟩) := hk.1
            exact OpOk.load_row _ _ rfl _ e0 _ Xa (0, 0) _ (on_blk_mul (H10.out.below hT).right.right.right.right.right.right) hu rfl HsXa.out ⟨rfl, Stay.refl _⟩
          · intro ev X hT hb hk hf
            refine ⟨true, hf.1, fun _ => ?_, fun h => (h rfl).elim⟩
            have e0 : ev (.tmp 9) = .pointer (some ⟨p6, 0, Option.none⟩) := hk.1
            exact OpOk.load_row _ _ rfl _ e0 _ Ya (0, 0) _ (on_blk_mul (H10.out.below hT).right.right.right.right) hu rfl HsYa.out ⟨rfl, Stay.refl _⟩
          · intro ev X hT hb hk hf
            refine ⟨true, hf.1, fun _ => ?_, fun h => (h rfl).elim⟩
            have e0 : ev (.tmp 11) = .pointer (some ⟨p7, 0, Option.none⟩) := hk.1
            exact OpOk.load_row _ _ rfl _ e0 _ Za (0, 0) _ (on_blk_mul (H10.out.below hT).right.right) hu rfl HsZa.out ⟨rfl, Stay.refl _⟩
          · intro ev X hT hb hk hf
            refine ⟨true, hf.2.2.1, fun _ => ?_, fun h => (h rfl).elim⟩
            have e0 : ev (.tmp 76) = .agg Ya := hf.1
            have e1 : ev (.tmp 77) = .agg Za := hf.2.1
            exact OpOk.run (v := .slice (some ⟨X.heap.size, 0, Option.none⟩) 2 2) (W' := X.alloc (.cells #[lv (limb y 0), lv (limb y 1), lv (limb y 2), lv (limb y 3), lv (limb z 0), lv (limb z 1), lv (limb z 2), lv (limb z 3)] 25)) (by simp [execOp, e0, e1, HbB3.out X]) ⟨IsEl.two (heap_alloc_new X _), (Below.refl X.heap.size X).alloc (Nat.le_refl _) _⟩
          · intro ev X hT hb hk hf
            refine ⟨true, hf.2.1, fun _ => ?_, fun h => (h rfl).elim⟩
            have e0 : IsEl X (ev (.tmp 78)) [y, z] := hf.1
            refine OpOk.enters (f := 17) (args := #[ev (.tmp 78)]) (W' := X) (by simp [execOp, resolve, invoke, hb.1, hb.2.1, go_sem]) ((A3.out _ X e0 (hT9.out.below hT)).mono ?_)
            rintro e _ ⟨rfl, hB⟩
            exact ⟨_, rfl, rfl, hB⟩
          · intro ev X hT hb hk hf
            refine ⟨true, hf.2.2.1, fun _ => ?_, fun h => (h rfl).elim⟩
            have e0 : ev (.tmp 75) = .agg Xa := hf.1
            have e1 : ev (.tmp 79) = .agg Syz := hf.2.1
            exact OpOk.run (v := .slice (some ⟨X.heap.size, 0, Option.none⟩) 2 2) (W' := X.alloc (.cells #[lv (limb x 0), lv (limb x 1), lv (limb x 2), lv (limb x 3), lv (limb ((y + z) % P5) 0), lv (limb ((y + z) % P5) 1), lv (limb ((y + z) % P5) 2), lv (limb ((y + z) % P5) 3)] 25)) (by simp [execOp, e0, e1, HbB4.out X]) ⟨IsEl.two (heap_alloc_new X _), (Below.refl X.heap.size X).alloc (Nat.le_refl _) _⟩
          · intro ev X hT hb hk hf
            refine ⟨true, hf.2.2.1, fun _ => ?_, fun h => (h rfl).elim⟩
            have e0 : IsEl X (ev (.tmp 80)) [x, ((y + z) % P5)] := hf.1
            refine OpOk.enters (f := 20) (args := #[ev (.tmp 80)]) (W' := X) (by simp [execOp, resolve, invoke, hb.1, hb.2.1, go_sem]) ((M3.out _ X e0 (hT9.out.below hT)).mono ?_)
            rintro e _ ⟨rfl, hB⟩
            exact ⟨_, rfl, rfl, hB⟩
          · intro ev X hT hb hk hf
            refine ⟨true, hf.1, fun _ => ?_, fun h => (h rfl).elim⟩
            have e0 : ev (.tmp 7) = .pointer (some ⟨p5, 0, Option.none⟩) := hk.1
            exact OpOk.load_row _ _ rfl _ e0 _ Xa (0, 0) _ (on_blk_mul (H10.out.below hT).right.right.right.right.right.right) hu rfl HsXa.out ⟨rfl, Stay.refl _⟩
          · intro ev X hT hb hk hf
            refine ⟨true, hf.1, fun _ => ?_, fun h => (h rfl).elim⟩
            have e0 : ev (.tmp 9) = .pointer (some ⟨p6, 0, Option.none⟩) := hk.1
            exact OpOk.load_row _ _ rfl _ e0 _ Ya (0, 0) _ (on_blk_mul (H10.out.below hT).right.right.right.right) hu rfl HsYa.out ⟨rfl, Stay.refl _⟩
          · intro ev X hT hb hk hf
            refine ⟨true, hf.2.2.1, fun _ => ?_, fun h => (h rfl).elim⟩
            have e0 : ev (.tmp 82) = .agg Xa := hf.1
            have e1 : ev (.tmp 83) = .agg Ya := hf.2.1
            exact OpOk.run (v := .slice (some ⟨X.heap.size, 0, Option.none⟩) 2 2) (W' := X.alloc (.cells #[lv (limb x 0), lv (limb x 1), lv (limb x 2), lv (limb x 3), lv (limb y 0), lv (limb y 1), lv (limb y 2), lv (limb y 3)] 25)) (by simp [execOp, e0, e1, HbB1.out X]) ⟨IsEl.two (heap_alloc_new X _), (Below.refl X.heap.size X).alloc (Nat.le_refl _) _⟩
          · intro ev X hT hb hk hf
            refine ⟨true, hf.2.2.1, fun _ => ?_, fun h => (h rfl).elim⟩
            have e0 : IsEl X (ev (.tmp 84)) [x, y] := hf.1
            refine OpOk.enters (f := 20) (args := #[ev (.tmp 84)]) (W' := X) (by simp [execOp, resolve, invoke, hb.1, hb.2.1, go_sem]) ((M1.out _ X e0 (hT9.out.below hT)).mono ?_)
            rintro e _ ⟨rfl, hB⟩
            exact ⟨_, rfl, rfl, hB⟩
          · intro ev X hT hb hk hf
            refine ⟨true, hf.1, fun _ => ?_, fun h => (h rfl).elim⟩
            have e0 : ev (.tmp 7) = .pointer (some ⟨p5, 0, Option.none⟩) := hk.1
            exact OpOk.load_row _ _ rfl _ e0 _ Xa (0, 0) _ (on_blk_mul (H10.out.below hT).right.right.right.right.right.right) hu rfl HsXa.out ⟨rfl, Stay.refl _⟩
          · intro ev X hT hb hk hf
            refine ⟨true, hf.1, fun _ => ?_, fun h => (h rfl).elim⟩
            have e0 : ev (.tmp 11) = .pointer (some ⟨p7, 0, Option.none⟩) := hk.1
            exact OpOk.load_row _ _ rfl _ e0 _ Za (0, 0) _ (on_blk_mul (H10.out.below hT).right.right) hu rfl HsZa.out ⟨rfl, Stay.refl _⟩
          · intro ev X hT hb hk hf
            refine ⟨true, hf.2.2.1, fun _ => ?_, fun h => (h rfl).elim⟩
            have e0 : ev (.tmp 86) = .agg Xa := hf.1
            have e1 : ev (.tmp 87) = .agg Za := hf.2.1
            exact OpOk.run (v := .slice (some ⟨X.heap.size, 0, Option.none⟩) 2 2) (W' := X.alloc (.cells #[lv (limb x 0), lv (limb x 1), lv (limb x 2), lv (limb x 3), lv (limb z 0), lv (limb z 1), lv (limb z 2), lv (limb z 3)] 25)) (by simp [execOp, e0, e1, HbB5.out X]) ⟨IsEl.two (heap_alloc_new X _), (Below.refl X.heap.size X).alloc (Nat.le_refl _) _⟩
          · intro ev X hT hb hk hf
            refine ⟨true, hf.2.2.1, fun _ => ?_, fun h => (h rfl).elim⟩
            have e0 : IsEl X (ev (.tmp 88)) [x, z] := hf.1
            refine OpOk.enters (f := 20) (args := #[ev (.tmp 88)]) (W' := X) (by simp [execOp, resolve, invoke, hb.1, hb.2.1, go_sem]) ((M4.out _ X e0 (hT9.out.below hT)).mono ?_)
            rintro e _ ⟨rfl, hB⟩
            exact ⟨_, rfl, rfl, hB⟩
          · intro ev X hT hb hk hf
            refine ⟨true, hf.2.2.1, fun _ => ?_, fun h => (h rfl).elim⟩
            have e0 : ev (.tmp 85) = .agg Pxy := hf.1
            have e1 : ev (.tmp 89) = .agg Pxz := hf.2.1
            exact OpOk.run (v := .slice (some ⟨X.heap.size, 0, Option.none⟩) 2 2) (W' := X.alloc (.cells #[lv (limb (x * y % P5) 0), lv (limb (x * y % P5) 1), lv (limb (x * y % P5) 2), lv (limb (x * y % P5) 3), lv (limb (x * z % P5) 0), lv (limb (x * z % P5) 1), lv (limb (x * z % P5) 2), lv (limb (x * z % P5) 3)] 25)) (by simp [execOp, e0, e1, HbB6.out X]) ⟨IsEl.two (heap_alloc_new X _), (Below.refl X.heap.size X).alloc (Nat.le_refl _) _⟩
          · intro ev X hT hb hk hf
            refine ⟨true, hf.2.2.1, fun _ => ?_, fun h => (h rfl).elim⟩
            have e0 : IsEl X (ev (.tmp 90)) [(x * y % P5), (x * z % P5)] := hf.1
            refine OpOk.enters (f := 17) (args := #[ev (.tmp 90)]) (W' := X) (by simp [execOp, resolve, invoke, hb.1, hb.2.1, go_sem]) ((A4'.out _ X e0 (hT9.out.below hT)).mono ?_)
            rintro e _ ⟨rfl, hB⟩
            exact ⟨_, rfl, rfl, hB⟩
          · intro ev X hT hb hk hf
            refine ⟨true, hf.2.2.1, fun _ => ?_, fun h => (h rfl).elim⟩
            have e0 : ev (.tmp 81) = .agg Pxs := hf.1
            have e1 : ev (.tmp 91) = .agg Pxs := hf.2.1
            exact OpOk.run (v := .bool true) (W' := X) (by
              unfold execOp
              simp only [e0, e1, Sem.run_bind, run_eqGuard_agg X _ _ _ _ _ _ Hgd.out, run_eql_struct, HE3.out X, Result.andThen_ok]
              rfl) ⟨rfl, Stay.refl _⟩
          · intro ev X hT hb hk hf
            have e0 : ev (.tmp 74) = .bool true := hf.1
            have e1 : ev (.tmp 92) = .bool true := hf.2.1
            exact OpOk.run (v := .bool true) (W' := X) (by simp [execOp, e0, e1, hb, hb.1, hb.2.1, hb.2.2, go_sem]) ⟨rfl, Stay.refl _⟩
          · intro ev X hT hb hk hf
            have e0 : ev (.tmp 93) = .bool true := hf.1
            exact OpOk.move rfl e0 ⟨rfl, Stay.refl _⟩
          · intro ev X hT hb hk hf
            refine ⟨true, hf.1, fun _ => ?_, fun h => (h rfl).elim⟩
            have e0 : ev (.tmp 7) = .pointer (some ⟨p5, 0, Option.none⟩) := hk.1
            exact OpOk.load_row _ _ rfl _ e0 _ Xa (0, 0) _ (on_blk_mul (H10.out.below hT).right.right.right.right.right.right) hu rfl HsXa.out ⟨rfl, Stay.refl _⟩
          · intro ev X hT hb hk hf
            refine ⟨true, hf.1, fun _ => ?_, fun h => (h rfl).elim⟩
            have e0 : ev (.tmp 7) = .pointer (some ⟨p5, 0, Option.none⟩) := hk.1
            exact OpOk.load_row _ _ rfl _ e0 _ Xa (0, 0) _ (on_blk_mul (H10.out.below hT).right.right.right.right.right.right) hu rfl HsXa.out ⟨rfl, Stay.refl _⟩
          · intro ev X hT hb hk hf
            refine ⟨true, hf.2.1, fun _ => ?_, fun h => (h rfl).elim⟩
            have e0 : ev (.tmp 96) = .agg Xa := hf.1
            refine OpOk.enters (f := 21) (args := #[.agg Xa]) (W' := X) (by simp [execOp, resolve, invoke, e0, hb.1, hb.2.1, go_sem]) ((N1.out X (hT9.out.below hT)).mono ?_)
            rintro e _ ⟨rfl, hB⟩
            exact ⟨_, rfl, rfl, hB⟩
          · intro ev X hT hb hk hf
            refine ⟨true, hf.2.2.1, fun _ => ?_, fun h => (h rfl).elim⟩
            have e0 : ev (.tmp 95) = .agg Xa := hf.1
            have e1 : ev (.tmp 97) = .agg Nx := hf.2.1
            exact OpOk.run (v := .slice (some ⟨X.heap.size, 0, Option.none⟩) 2 2) (W' := X.alloc (.cells #[lv (limb x 0), lv (limb x 1), lv (limb x 2), lv (limb x 3), lv (limb ((P5 - x) % P5) 0), lv (limb ((P5 - x) % P5) 1), lv (limb ((P5 - x) % P5) 2), lv (limb ((P5 - x) % P5) 3)] 25)) (by simp [execOp, e0, e1, HbB7.out X]) ⟨IsEl.two (heap_alloc_new X _), (Below.refl X.heap.size X).alloc (Nat.le_refl _) _⟩
          · intro ev X hT hb hk hf
            refine ⟨true, hf.2.2.1, fun _ => ?_, fun h => (h rfl).elim⟩
            have e0 : IsEl X (ev (.tmp 98)) [x, ((P5 - x) % P5)] := hf.1
            refine OpOk.enters (f := 17) (args := #[ev (.tmp 98)]) (W' := X) (by simp [execOp, resolve, invoke, hb.1, hb.2.1, go_sem]) ((A5.out _ X e0 (hT9.out.below hT)).mono ?_)
            rintro e _ ⟨rfl, hB⟩
            exact ⟨_, rfl, rfl, hB⟩
          · intro ev X hT hb hk hf
            refine ⟨true, hf.2.1, fun _ => ?_, fun h => (h rfl).elim⟩
            refine OpOk.enters (f := 37) (args := #[lv 0]) (W' := X) (by simp [execOp, resolve, invoke, hb.1, hb.2.1, go_sem]) ((Hs0.out X).mono ?_)
            rintro e _ ⟨rfl, hB⟩
            exact ⟨_, rfl, rfl, hB⟩
          · intro ev X hT hb hk hf
            refine ⟨true, hf.2.2.1, fun _ => ?_, fun h => (h rfl).elim⟩
            have e0 : ev (.tmp 99) = .agg Z4 := hf.1
            have e1 : ev (.tmp 100) = .agg Z4 := hf.2.1
            exact OpOk.run (v := .bool true) (W' := X) (by
              unfold execOp
              simp only [e0, e1, Sem.run_bind, run_eqGuard_agg X _ _ _ _ _ _ Hgd.out, run_eql_struct, HE4.out X, Result.andThen_ok]
              rfl) ⟨rfl, Stay.refl _⟩
          · intro ev X hT hb hk hf
            have e0 : ev (.tmp 94) = .bool true := hf.1
            have e1 : ev (.tmp 101) = .bool true := hf.2.1
            exact OpOk.run (v := .bool true) (W' := X) (by simp [execOp, e0, e1, hb, hb.1, hb.2.1, hb.2.2, go_sem]) ⟨rfl, Stay.refl _⟩
          · intro ev X hT hb hk hf
            have e0 : ev (.tmp 102) = .bool true := hf.1
            exact OpOk.move rfl e0 ⟨rfl, Stay.refl _⟩
          · intro ev X hT hb hk hf
            refine ⟨true, hf.1, fun _ => ?_, fun h => (h rfl).elim⟩
            have e0 : ev (.tmp 7) = .pointer (some ⟨p5, 0, Option.none⟩) := hk.1
            exact OpOk.load_row _ _ rfl _ e0 _ Xa (0, 0) _ (on_blk_mul (H10.out.below hT).right.right.right.right.right.right) hu rfl HsXa.out ⟨rfl, Stay.refl _⟩
          · intro ev X hT hb hk hf
            refine ⟨true, hf.1, fun _ => ?_, fun h => (h rfl).elim⟩
            have e0 : ev (.tmp 9) = .pointer (some ⟨p6, 0, Option.none⟩) := hk.1
            exact OpOk.load_row _ _ rfl _ e0 _ Ya (0, 0) _ (on_blk_mul (H10.out.below hT).right.right.right.right) hu rfl HsYa.out ⟨rfl, Stay.refl _⟩
          · intro ev X hT hb hk hf
            refine ⟨true, hf.2.2.1, fun _ => ?_, fun h => (h rfl).elim⟩
            have e0 : ev (.tmp 104) = .agg Xa := hf.1
            have e1 : ev (.tmp 105) = .agg Ya := hf.2.1
            exact OpOk.run (v := .slice (some ⟨X.heap.size, 0, Option.none⟩) 2 2) (W' := X.alloc (.cells #[lv (limb x 0), lv (limb x 1), lv (limb x 2), lv (limb x 3), lv (limb y 0), lv (limb y 1), lv (limb y 2), lv (limb y 3)] 25)) (by simp [execOp, e0, e1, HbB1.out X]) ⟨IsEl.two (heap_alloc_new X _), (Below.refl X.heap.size X).alloc (Nat.le_refl _) _⟩
          · intro ev X hT hb hk hf
            refine ⟨true, hf.2.1, fun _ => ?_, fun h => (h rfl).elim⟩
            have e0 : IsEl X (ev (.tmp 106)) [x, y] := hf.1
            refine OpOk.enters (f := 17) (args := #[ev (.tmp 106)]) (W' := X) (by simp [execOp, resolve, invoke, hb.1, hb.2.1, go_sem]) ((A1.out _ X e0 (hT9.out.below hT)).mono ?_)
            rintro e _ ⟨rfl, hB⟩
            exact ⟨_, rfl, rfl, hB⟩
          · intro ev X hT hb hk hf
            refine ⟨true, hf.1, fun _ => ?_, fun h => (h rfl).elim⟩
            have e0 : ev (.tmp 9) = .pointer (some ⟨p6, 0, Option.none⟩) := hk.1
            exact OpOk.load_row _ _ rfl _ e0 _ Ya (0, 0) _ (on_blk_mul (H10.out.below hT).right.right.right.right) hu rfl HsYa.out ⟨rfl, Stay.refl _⟩
          · intro ev X hT hb hk hf
            refine ⟨true, hf.2.2.2.1, fun _ => ?_, fun h => (h rfl).elim⟩
            have e0 : ev (.tmp 107) = .agg Sxy := hf.1
            have e1 : ev (.tmp 108) = .agg Ya := hf.2.1
            refine OpOk.enters (f := 18) (args := #[.agg Sxy, .agg Ya]) (W' := X) (by simp [execOp, resolve, invoke, e0, e1, hb.1, hb.2.1, go_sem]) ((B1.out X (hT9.out.below hT)).mono ?_)
            rintro e _ ⟨rfl, hB⟩
            exact ⟨_, rfl, rfl, hB⟩
          · intro ev X hT hb hk hf
            refine ⟨true, hf.1, fun _ => ?_, fun h => (h rfl).elim⟩
            have e0 : ev (.tmp 7) = .pointer (some ⟨p5, 0, Option.none⟩) := hk.1
            exact OpOk.load_row _ _ rfl _ e0 _ Xa (0, 0) _ (on_blk_mul (H10.out.below hT).right.right.right.right.right.right) hu rfl HsXa.out ⟨rfl, Stay.refl _⟩
          · intro ev X hT hb hk hf
            refine ⟨true, hf.2.2.1, fun _ => ?_, fun h => (h rfl).elim⟩
            have e0 : ev (.tmp 109) = .agg Xa := hf.1
            have e1 : ev (.tmp 110) = .agg Xa := hf.2.1
            exact OpOk.run (v := .bool true) (W' := X) (by
              unfold execOp
              simp only [e0, e1, Sem.run_bind, run_eqGuard_agg X _ _ _ _ _ _ Hgd.out, run_eql_struct, HE5.out X, Result.andThen_ok]
              rfl) ⟨rfl, Stay.refl _⟩
          · intro ev X hT hb hk hf
            have e0 : ev (.tmp 103) = .bool true := hf.1
            have e1 : ev (.tmp 111) = .bool true := hf.2.1
            exact OpOk.run (v := .bool true) (W' := X) (by simp [execOp, e0, e1, hb, hb.1, hb.2.1, hb.2.2, go_sem]) ⟨rfl, Stay.refl _⟩
          · intro ev X hT hb hk hf
            have e0 : ev (.tmp 112) = .bool true := hf.1
            exact OpOk.move rfl e0 ⟨rfl, Stay.refl _⟩
          · intro ev X hT hb hk hf
            refine ⟨true, hf.1, fun _ => ?_, fun h => (h rfl).elim⟩
            have e0 : ev (.tmp 7) = .pointer (some ⟨p5, 0, Option.none⟩) := hk.1
            exact OpOk.load_row _ _ rfl _ e0 _ Xa (0, 0) _ (on_blk_mul (H10.out.below hT).right.right.right.right.right.right) hu rfl HsXa.out ⟨rfl, Stay.refl _⟩
          · intro ev X hT hb hk hf
            refine ⟨true, hf.2.1, fun _ => ?_, fun h => (h rfl).elim⟩
            have e0 : ev (.tmp 114) = .agg Xa := hf.1
            refine OpOk.enters (f := 21) (args := #[.agg Xa]) (W' := X) (by simp [execOp, resolve, invoke, e0, hb.1, hb.2.1, go_sem]) ((N1.out X (hT9.out.below hT)).mono ?_)
            rintro e _ ⟨rfl, hB⟩
            exact ⟨_, rfl, rfl, hB⟩
          · intro ev X hT hb hk hf
            refine ⟨true, hf.1, fun _ => ?_, fun h => (h rfl).elim⟩
            have e0 : ev (.tmp 9) = .pointer (some ⟨p6, 0, Option.none⟩) := hk.1
            exact OpOk.load_row _ _ rfl _ e0 _ Ya (0, 0) _ (on_blk_mul (H10.out.below hT).right.right.right.right) hu rfl HsYa.out ⟨rfl, Stay.refl _⟩
          · intro ev X hT hb hk hf
            refine ⟨true, hf.2.2.1, fun _ => ?_, fun h => (h rfl).elim⟩
            have e0 : ev (.tmp 115) = .agg Nx := hf.1
            have e1 : ev (.tmp 116) = .agg Ya := hf.2.1
            exact OpOk.run (v := .slice (some ⟨X.heap.size, 0, Option.none⟩) 2 2) (W' := X.alloc (.cells #[lv (limb ((P5 - x) % P5) 0), lv (limb ((P5 - x) % P5) 1), lv (limb ((P5 - x) % P5) 2), lv (limb ((P5 - x) % P5) 3), lv (limb y 0), lv (limb y 1), lv (limb y 2), lv (limb y 3)] 25)) (by simp [execOp, e0, e1, HbB8.out X]) ⟨IsEl.two (heap_alloc_new X _), (Below.refl X.heap.size X).alloc (Nat.le_refl _) _⟩
          · intro ev X hT hb hk hf
            refine ⟨true, hf.2.2.1, fun _ => ?_, fun h => (h rfl).elim⟩
            have e0 : IsEl X (ev (.tmp 117)) [((P5 - x) % P5), y] := hf.1
            refine OpOk.enters (f := 20) (args := #[ev (.tmp 117)]) (W' := X) (by simp [execOp, resolve, invoke, hb.1, hb.2.1, go_sem]) ((M5.out _ X e0 (hT9.out.below hT)).mono ?_)
            rintro e _ ⟨rfl, hB⟩
            exact ⟨_, rfl, rfl, hB⟩
          · intro ev X hT hb hk hf
            refine ⟨true, hf.1, fun _ => ?_, fun h => (h rfl).elim⟩
            have e0 : ev (.tmp 7) = .pointer (some ⟨p5, 0, Option.none⟩) := hk.1
            exact OpOk.load_row _ _ rfl _ e0 _ Xa (0, 0) _ (on_blk_mul (H10.out.below hT).right.right.right.right.right.right) hu rfl HsXa.out ⟨rfl, Stay.refl _⟩
          · intro ev X hT hb hk hf
            refine ⟨true, hf.1, fun _ => ?_, fun h => (h rfl).elim⟩
            have e0 : ev (.tmp 9) = .pointer (some ⟨p6, 0, Option.none⟩) := hk.1
            exact OpOk.load_row _ _ rfl _ e0 _ Ya (0, 0) _ (on_blk_mul (H10.out.below hT).right.right.right.right) hu rfl HsYa.out ⟨rfl, Stay.refl _⟩
          · intro ev X hT hb hk hf
            refine ⟨true, hf.2.2.1, fun _ => ?_, fun h => (h rfl).elim⟩
            have e0 : ev (.tmp 119) = .agg Xa := hf.1
            have e1 : ev (.tmp 120) = .agg Ya := hf.2.1
            exact OpOk.run (v := .slice (some ⟨X.heap.size, 0, Option.none⟩) 2 2) (W' := X.alloc (.cells #[lv (limb x 0), lv (limb x 1), lv (limb x 2), lv (limb x 3), lv (limb y 0), lv (limb y 1), lv (limb y 2), lv (limb y 3)] 25)) (by simp [execOp, e0, e1, HbB1.out X]) ⟨IsEl.two (heap_alloc_new X _), (Below.refl X.heap.size X).alloc (Nat.le_refl _) _⟩
          · intro ev X hT hb hk hf
            refine ⟨true, hf.2.2.1, fun _ => ?_, fun h => (h rfl).elim⟩
            have e0 : IsEl X (ev (.tmp 121)) [x, y] := hf.1
            refine OpOk.enters (f := 20) (args := #[ev (.tmp 121)]) (W' := X) (by simp [execOp, resolve, invoke, hb.1, hb.2.1, go_sem]) ((M1.out _ X e0 (hT9.out.below hT)).mono ?_)
            rintro e _ ⟨rfl, hB⟩
            exact ⟨_, rfl, rfl, hB⟩
          · intro ev X hT hb hk hf
            refine ⟨true, hf.2.2.1, fun _ => ?_, fun h => (h rfl).elim⟩
            have e0 : ev (.tmp 122) = .agg Pxy := hf.1
            refine OpOk.enters (f := 21) (args := #[.agg Pxy]) (W' := X) (by simp [execOp, resolve, invoke, e0, hb.1, hb.2.1, go_sem]) ((N2.out X (hT9.out.below hT)).mono ?_)
            rintro e _ ⟨rfl, hB⟩
            exact ⟨_, rfl, rfl, hB⟩
          · intro ev X hT hb hk hf
            refine ⟨true, hf.2.2.1, fun _ => ?_, fun h => (h rfl).elim⟩
            have e0 : ev (.tmp 118) = .agg NP := hf.1
            have e1 : ev (.tmp 123) = .agg NP := hf.2.1
            exact OpOk.run (v := .bool true) (W' := X) (by
              unfold execOp
              simp only [e0, e1, Sem.run_bind, run_eqGuard_agg X _ _ _ _ _ _ Hgd.out, run_eql_struct, HE6.out X, Result.andThen_ok]
              rfl) ⟨rfl, Stay.refl _⟩
          · intro ev X hT hb hk hf
            have e0 : ev (.tmp 113) = .bool true := hf.1
            have e1 : ev (.tmp 124) = .bool true := hf.2.1
            exact OpOk.run (v := .bool true) (W' := X) (by simp [execOp, e0, e1, hb, hb.1, hb.2.1, hb.2.2, go_sem]) ⟨rfl, Stay.refl _⟩
          · intro ev X hT hb hk hf
            have e0 : ev (.tmp 125) = .bool true := hf.1
            exact OpOk.assign rfl e0 ⟨rfl, Stay.refl _⟩
        case rest =>
          intro X9 hX
          rintro _ - _ - _ - _ - _ - _ - _ - _ - _ - _ - _ - _ - _ - _ - _ - _ - _ - _ - _ - _ - _ - _ - _ - _ - _ - _ - _ - _ - _ - _ - _ - _ - _ - _ - _ - _ - _ - _ - _ - _ - _ - _ - _ - _ - _ - _ - _ - _ - _ - _ - _ - _ - _ - _ - _ - _ - _ - _ - _ - _ - _ - _ - _ - _ - _ - _ - _ - _ - _ - _ - _ - _ - _ rfl
          have HB := hide (all_below (H10.out.below hX).right.right.right.right.right.right.right.right.right.right (S10.out.trans (Str.below hX)))
          clear hX
          go_wp2
          refine Rest.done ?_
          go_wp2_with fail
          go_ret
          exact ⟨rfl, HB.out⟩
end Fe
open Go.ChangeShapes Go.WideShapes Go.ChangeAt Go.RowKit
theorem walk_FieldRules (w : World) (hL : laidMetH Tryd.prog Rows.fieldRulesRow.laid w) (a : Nat) (ha : a < 18446744073709551616 ^ 4) (b : Nat) (hb : b < 18446744073709551616 ^ 4) (c : Nat) (hc : c < 18446744073709551616 ^ 4) :
    Calls Tryd.prog 7 #[.agg (q4 a), .agg (q4 b), .agg (q4 c)] w fun e w' => e = .returned (.bool true) ∧ Below w.heap.size w w' := Fe.walk_FieldRules w hL a ha b hb c hc
namespace lawFieldRules
theorem own : ownKnob Tryd.prog.godebug = Option.none := by kernel_rfl
theorem laidOut : laidOutB Tryd.prog = true := by kernel_rfl

set_option maxRecDepth 100000 in
theorem contract (H : Type) (enc : TypeId × Value → H) (W : World) (base : Nat) (args : Array Value) (ds gs : List (DataW H)) (before : List MemPlace)
    (hval0 : ∀ (j : Nat) t v, Tryd.f7.params[j]? = some t → args[j]? = some v → Value.okWide Tryd.prog W .any base t v)
    (hW : DataW.Whole enc Tryd.prog Tryd.f7.params.toList Rows.fieldRulesSpec.vars false W args.toList ds gs before) (hsz : (DataW.weightsEach Tryd.prog (Tryd.f7.params.toList ++ (OpenSpec.ofChange Rows.fieldRulesSpec).bare.plain.varTypes Tryd.prog) (ds ++ gs)).all (· ≤ reachBytes) = true) (hL : laidMetH Tryd.prog Rows.fieldRulesRow.laid W) :
    Calls Tryd.prog 7 args W fun e W' => ∃ v, e = .returned v ∧ Rows.fieldRulesSpec.post enc Tryd.prog Tryd.f7 false true false false W args v W' := by
  have hval : ∀ (j : Nat) t v, Tryd.f7.params[j]? = some t → args[j]? = some v → Value.okWide Tryd.prog W .any base t v := hval0
  have hW' := hW
  obtain ⟨p, q, hA0, hV, rfl, hfz, hnd⟩ := hW
  have hA : DataW.TrodAll enc Tryd.prog W 0 (fun _ => true) true Tryd.f7.params.toList args.toList ds p := hA0
  rw [Tryd.params7] at hA hval
  obtain ⟨v0, vs0, d0, ds0, p0, q0, hargs, rfl, rfl, h0, r0⟩ := trodAll_cons hA
  obtain ⟨v1, vs1, d1, ds1, p1, q1, rfl, rfl, rfl, h1, r1⟩ := trodAll_cons r0
  obtain ⟨v2, vs2, d2, ds2, p2, q2, rfl, rfl, rfl, h2, r2⟩ := trodAll_cons r1
  obtain ⟨rfl, rfl, rfl⟩ := trodAll_nil r2
  obtain rfl : args = #[v0, v1, v2] := by cases args; simp_all
  obtain ⟨rfl, rfl⟩ := trodVars_none hV
  have k0 := h0
  have lt0 : ∀ x ∈ p0, x.block < W.heap.size := by obtain ⟨m, hm⟩ := k0; exact DataW.trod_lt m _ _ _ hm
  obtain ⟨s0, rfl, b0⟩ := open_limbs (hval 0 23 v0 rfl rfl) h0
  have k1 := h1
  have lt1 : ∀ x ∈ p1, x.block < W.heap.size := by obtain ⟨m, hm⟩ := k1; exact DataW.trod_lt m _ _ _ hm
  obtain ⟨s1, rfl, b1⟩ := open_limbs (hval 1 23 v1 rfl rfl) h1
  have k2 := h2
  have lt2 : ∀ x ∈ p2, x.block < W.heap.size := by obtain ⟨m, hm⟩ := k2; exact DataW.trod_lt m _ _ _ hm
  obtain ⟨s2, rfl, b2⟩ := open_limbs (hval 2 23 v2 rfl rfl) h2
  clear hA0 hval0 hsz
  refine (walk_FieldRules W hL s0 b0 s1 b1 s2 b2).mono fun e W' ⟨he, bel⟩ => ?_
  subst he
  exact ⟨_, rfl, _, _, _, [], _, [], hW', trodAll_mk1 (shut_bool Tryd.underlying4 _), (trodAll_cons_mk (Below.trod laidOut (by kernel_rfl) (of_decide_eq_true (by kernel_rfl)) k0 bel lt0) (trodAll_cons_mk (Below.trod laidOut (by kernel_rfl) (of_decide_eq_true (by kernel_rfl)) k1 bel lt1) (trodAll_cons_mk (Below.trod laidOut (by kernel_rfl) (of_decide_eq_true (by kernel_rfl)) k2 bel lt2) trodAll_mk0))), rfl, bel.frame _, fun h => by cases h⟩

/-- a world for the witness: the settled one, the listed variables holding what their initialisers lay -/
def litCells (d : DataW Unit) : Array Value := match d with
  | .agg l => (l.filterMap fun x => match x with | .lit (.int k n) => some (Value.int k n) | _ => Option.none).toArray
  | _ => #[]
noncomputable def laidWorld (os : Os) : World :=
  { World.holding Tryd.prog os ⟨#[], #[], []⟩ with heap := (((((World.holding Tryd.prog os ⟨#[], #[], []⟩).heap.modify 0 fun
      | .cells _ t frozen => .cells (litCells Rows.laid_bosun_field_modulus) t frozen
      | o => o).modify 1 fun
      | .cells _ t frozen => .cells (litCells Rows.laid_bosun_field_lessTwo) t frozen
      | o => o).modify 2 fun
      | .cells _ t frozen => .cells (litCells Rows.laid_bosun_field_eighth) t frozen
      | o => o).modify 3 fun
      | .cells _ t frozen => .cells (litCells Rows.laid_bosun_field_rootOfMinusOne) t frozen
      | o => o) }
theorem laid_met (os : Os) : laidMet Tryd.prog Rows.fieldRulesRow.laid ((laidWorld os).forCall (fun _ _ => 0) ⟨#[], #[.agg #[.int .u64 0, .int .u64 0, .int .u64 0, .int .u64 0], .agg #[.int .u64 0, .int .u64 0, .int .u64 0, .int .u64 0], .agg #[.int .u64 0, .int .u64 0, .int .u64 0, .int .u64 0]], []⟩).memory :=
  laidMet_of_run' 8 (by kernel_rfl) (by kernel_rfl)
theorem reads (os : Os) {H : Type} (enc : TypeId × Value → H) : ∃ places, DataW.whole enc Tryd.prog ((laidWorld os).forCall (fun _ _ => 0) ⟨#[], #[.agg #[.int .u64 0, .int .u64 0, .int .u64 0, .int .u64 0], .agg #[.int .u64 0, .int .u64 0, .int .u64 0, .int .u64 0], .agg #[.int .u64 0, .int .u64 0, .int .u64 0, .int .u64 0]], []⟩).memory Tryd.f7.params.toList Rows.fieldRulesSpec.vars false (#[.agg #[.int .u64 0, .int .u64 0, .int .u64 0, .int .u64 0], .agg #[.int .u64 0, .int .u64 0, .int .u64 0, .int .u64 0], .agg #[.int .u64 0, .int .u64 0, .int .u64 0, .int .u64 0]] : Array Value).toList 8 = some ([.agg (List.replicate 4 (.lit (.int .u64 0))), .agg (List.replicate 4 (.lit (.int .u64 0))), .agg (List.replicate 4 (.lit (.int .u64 0)))], [], places) :=
  ⟨[], by kernel_rfl⟩

set_option maxRecDepth 100000 in
theorem lifted (os : Os) (started : os.Started) (H : Type) (enc : TypeId × Value → H) (F : Stop.Interp) :
    ReturnsInHanded {} Tryd.checked os 7 .any ((OpenSpec.ofChange Rows.fieldRulesSpec).preRow enc Tryd.prog Tryd.f7 Rows.fieldRulesRow.domain false Rows.fieldRulesRow.laid) (((OpenSpec.ofChange Rows.fieldRulesSpec).at F).post enc Tryd.prog Tryd.f7 false true false false) := by
  obtain ⟨places, hx⟩ := reads os enc
  refine returnsInHanded_of_row (C := Tryd.checked) (s := OpenSpec.ofChange Rows.fieldRulesSpec) own started (by kernel_rfl) Tryd.func7
    (witness_row_at (enc := enc) (C := Tryd.checked) false (laidWorld os) #[.agg #[.int .u64 0, .int .u64 0, .int .u64 0, .int .u64 0], .agg #[.int .u64 0, .int .u64 0, .int .u64 0, .int .u64 0], .agg #[.int .u64 0, .int .u64 0, .int .u64 0, .int .u64 0]] rfl (by kernel_rfl) (by kernel_rfl) (by kernel_rfl)
      (OpenSpec.preRow_of_cond 8 hx (by kernel_rfl) (fun k hk => by cases hk) (by kernel_rfl) (laid_met os))) ?_
  intro W base args ds gs before hval hW _ _ hsz hL _ _
  exact contract H enc W base args ds gs before hval hW hsz hL

theorem said : Rows.FieldRulesSaid :=
  OpenClaim.holds_of_cond 7 Tryd.f7 rfl rfl rfl rfl rfl rfl rfl ⟨rfl, rfl, rfl, rfl, rfl⟩ rfl rfl rfl rfl rfl (by kernel_rfl) Tryd.func7 (by kernel_rfl)
    (of_decide_eq_true (by kernel_rfl)) (by unfold Func.isWrapper; first | (rw [if_pos (by decide +kernel)]; kernel_rfl) | (rw [if_neg (by decide +kernel)]; exact ⟨rfl, rfl⟩))
    (fun os started H enc _ F => by rw [OpenClaim.pre_eq_preRow]; exact lifted os started H enc F)

theorem plain (f : FuncId) (fn : Func) (hf : Tryd.pinned.checked.prog.funcNamed "bosun/bosunlaw05.FieldRules" = some f) (hfn : Tryd.pinned.checked.prog.funcs[f]? = some fn) :
    false = Tryd.pinned.checked.prog.looks [] ∧ ∀ (j : Nat) t, fn.params[j]? = some t → Tryd.pinned.checked.prog.wantsStandIn t = false := by
  obtain rfl : f = 7 := Option.some.inj ((show Tryd.prog.funcNamed "bosun/bosunlaw05.FieldRules" = some 7 by kernel_rfl).symm.trans hf) |>.symm
  obtain rfl : fn = Tryd.f7 := (Option.some.inj (Tryd.func7.symm.trans hfn)).symm
  refine ⟨by kernel_rfl, fun j t ht => ?_⟩
  rw [Tryd.params7] at ht
  have hm : t ∈ [23, 23, 23] := by simpa using Array.mem_of_getElem? ht
  have hall : ∀ t ∈ [23, 23, 23], Tryd.prog.wantsStandIn t = false := by
    intro t ht
    simp only [List.mem_cons, List.not_mem_nil, or_false] at ht
    rcases ht with rfl | rfl | rfl <;> kernel_rfl
  exact hall t hm

theorem proved : Rows.FieldRulesCardSaid :=
  Claim7.holds_tied_plain_at .later [] _ _ _ _ said (fun _ h => by cases h) (by kernel_rfl) (fun _ h => by cases h) fieldRules_row_tie rfl ⟨rfl, rfl⟩ (by kernel_rfl) rfl plain (by kernel_rfl)
end lawFieldRules
end Go.Proofs.YtgkofpfjbjnhfaaDoor
