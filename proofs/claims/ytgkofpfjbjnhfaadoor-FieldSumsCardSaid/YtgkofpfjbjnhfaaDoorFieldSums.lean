/- The law FieldSums: sums, differences, products, and the other sides, of any numbers. -/
import Derived.Test.YtgkofpfjbjnhfaaDoorFeLaw
import Derived.Test.YtgkofpfjbjnhfaaDoorCards
import Derived.Test.YtgkofpfjbjnhfaaDoorTie
import Derived.Deep.DeepHandedRow
namespace Go.Proofs.YtgkofpfjbjnhfaaDoor
namespace Fe
open Go.ChangeShapes Go.WideShapes Go.ChangeAt Go.RowKit
set_option linter.unusedVariables false
set_option linter.unusedSimpArgs false

theorem rsmallK (n : Nat) (hn : n < 1000) (X : World) : Calls Tryd.prog 23 #[.int .i64 (n : Int)] X fun e w' => e = .returned (.agg (n17 n)) ∧ Below X.heap.size X w' := by
  have := rsmall_any n (by omega) X
  rwa [Nat.mod_eq_of_lt (by have : 1000 < P5 := by decide
                            omega)] at this
set_option maxRecDepth 100000 in
set_option maxHeartbeats 8000000 in
theorem walk_FieldSums (w : World) (hL : laidMetH Tryd.prog Rows.fieldSumsRow.laid w) (a : Nat) (ha : a < 18446744073709551616 ^ 4) (b : Nat) (hb : b < 18446744073709551616 ^ 4) (c : Nat) (hc : c < 18446744073709551616 ^ 4) :
    Calls Tryd.prog 3 #[.agg (q4 a), .agg (q4 b), .agg (q4 c)] w fun e w' => e = .returned (.bool true) ∧ Below w.heap.size w w' := by
  have hT : Tab5 w := tab5_of_laid hL
  clear hL
  have hu := Tryd.underlying25
  have hz4e := eZero
  have hu4 := Tryd.underlying23
  have hz4 := eZero4
  have hun := Tryd.underlying27
  have hzn := nZero
  have h0 := (((on_all w).alloc (.cells (q4 (a)) 23)).alloc (.cells (q4 (b)) 23)).alloc (.cells (q4 (c)) 23)
  have s0 := (((Str.refl w).alloc (.cells (q4 (a)) 23)).alloc (.cells (q4 (b)) 23)).alloc (.cells (q4 (c)) 23)
  try simp only [World.size_alloc] at h0
  have H1 := hide h0
  have S1 := hide s0
  clear h0 s0
  have Hna := hide (fun X => num_any a ha X)
  have Hnb := hide (fun X => num_any b hb X)
  have Hnc := hide (fun X => num_any c hc X)
  have hx : a % P5 < P5 := Nat.mod_lt _ P5_pos
  have hy : b % P5 < P5 := Nat.mod_lt _ P5_pos
  have hzz : c % P5 < P5 := Nat.mod_lt _ P5_pos
  generalize a % P5 = x at *
  generalize b % P5 = y at *
  generalize c % P5 = z at *
  have h4 := P5_lt
  have h255 := P5_255lt
  have m1 : (x + y) % P5 < P5 := Nat.mod_lt _ P5_pos
  have m2 : ((x + y) % P5 + z) % P5 < P5 := Nat.mod_lt _ P5_pos
  have m3 : x * y % P5 < P5 := Nat.mod_lt _ P5_pos
  have m4 : x * y % P5 * z % P5 < P5 := Nat.mod_lt _ P5_pos
  have m5 : (x + (P5 - y)) % P5 < P5 := Nat.mod_lt _ P5_pos
  have m6 : (P5 - x) % P5 < P5 := Nat.mod_lt _ P5_pos
  have m7 : 1 < P5 := by decide
  have hall : ∀ u ∈ [x, y, z], u < P5 := by simp only [List.mem_cons, List.not_mem_nil, or_false]; rintro u (rfl | rfl | rfl) <;> assumption
  have es : sumP [x, y, z] = ((x + y) % P5 + z) % P5 := by simp only [sumP, List.foldl_cons, List.foldl_nil, Nat.zero_add]; rw [Nat.mod_eq_of_lt hx]
  have hadd := fun v X h1 h2 => add_any v [x, y, z] hall (show 3 < 1000 by decide) X h1 h2
  rw [es] at hadd
  have hmul := fun v X h1 h2 => mul_any v [x, y, z] hall (show 3 < 1000 by decide) X h1 h2
  rw [show mulP [x, y, z] = x * y % P5 * z % P5 from rfl] at hmul
  have hadd0 := fun X h => add_any (.slice Option.none 0 0) [] (by simp) (by decide) X (IsEl.nil X 0) h
  rw [show sumP [] = 0 from rfl] at hadd0
  have hmul0 := fun X h => mul_any (.slice Option.none 0 0) [] (by simp) (by decide) X (IsEl.nil X 0) h
  rw [show mulP [] = 1 from rfl] at hmul0
  have Hadd := hide hadd
  have Hmul := hide hmul
  have Hadd0 := hide hadd0
  have Hmul0 := hide hmul0
  have Hbs := hide (fun X => run_bs3 x y z X)
  have Hsub := hide (fun X h => sub_any x y hx hy X h)
  have Hneg := hide (fun X h => neg_any x hx X h)
  have Hodd := hide (fun X => odd_any x X)
  have Ha1 := hide (fun X => radd_any x y (by omega) (by omega) X)
  have Ha2 := hide (fun X => radd_any ((x + y) % P5) z (by omega) (by omega) X)
  have Hm1 := hide (fun X => rmul_any x y (by omega) (by omega) X)
  have Hm2 := hide (fun X => rmul_any (x * y % P5) z (by omega) (by omega) X)
  have Hrs := hide (fun X => rsub_any x y hx hy X)
  have Hrn := hide (fun X => rneg_any x hx X)
  have Hs0 := hide (fun X => rsmallK 0 (by decide) X)
  have Hs1 := hide (fun X => rsmallK 1 (by decide) X)
  have Hk1 := hide (fun X => like_any (((x + y) % P5 + z) % P5) (((x + y) % P5 + z) % P5) (by omega) m2 X)
  have Hk2 := hide (fun X => like_any ((x + (P5 - y)) % P5) ((x + (P5 - y)) % P5) (by omega) m5 X)
  have Hk3 := hide (fun X => like_any (x * y % P5 * z % P5) (x * y % P5 * z % P5) (by omega) m4 X)
  have Hk4 := hide (fun X => like_any ((P5 - x) % P5) ((P5 - x) % P5) (by omega) m6 X)
  have Hk5 := hide (fun X => like_any 0 0 (by decide) P5_pos X)
  have Hk6 := hide (fun X => like_any 1 1 (by decide) m7 X)
  simp only [decide_true] at Hk1 Hk2 Hk3 Hk4 Hk5 Hk6
  have Hd0 := hide (show (n17 x)[0]? = some (nv (dg x 0)) from dvs_get _ _ _ (ds_get 17 x 0 (by decide)))
  have Hr2 := hide (show ((dg x 0 : Nat) : Int).tmod 2 = ((x % 2 : Nat) : Int) by
    rw [Int.tmod_eq_emod_of_nonneg (by omega)]; unfold dg; rw [Nat.pow_zero, Nat.div_one]; omega)
  have Hoo := hide (show ((x : Int) % 2 == 1) = decide (x % 2 = 1) by rw [Bool.eq_iff_iff, beq_iff_eq, decide_eq_true_eq]; omega)
  generalize decide (x % 2 = 1) = oo at *
  have Hlv := hide (fun X h => lives_any X h)
  clear hx hy hzz h4 h255 m1 m2 m3 m4 m5 m6 m7 hall es hadd hmul hadd0 hmul0 ha hb hc
  have HsA4 := hide (eInfo4 (a))
  have HoA4 := hide (eOne (a))
  have HzA4 := hide (eSize 0 (a))
  have HsB4 := hide (eInfo4 (b))
  have HoB4 := hide (eOne (b))
  have HzB4 := hide (eSize 0 (b))
  have HsC4 := hide (eInfo4 (c))
  have HoC4 := hide (eOne (c))
  have HzC4 := hide (eSize 0 (c))
  have HsXa := hide (eInfo (x))
  have HoXa := hide (eOne (x))
  have HzXa := hide (eSize 0 (x))
  have HsMn := hide (nInfo (x))
  have HoMn := hide (nOne (x))
  have HzMn := hide (nSize 0 (x))
  have HsYa := hide (eInfo (y))
  have HoYa := hide (eOne (y))
  have HzYa := hide (eSize 0 (y))
  have HsNn := hide (nInfo (y))
  have HoNn := hide (nOne (y))
  have HzNn := hide (nSize 0 (y))
  have HsZa := hide (eInfo (z))
  have HoZa := hide (eOne (z))
  have HzZa := hide (eSize 0 (z))
  have HsOn := hide (nInfo (z))
  have HoOn := hide (nOne (z))
  have HzOn := hide (nSize 0 (z))
  have HsMN := hide (nInfo ((x + y) % P5))
  have HoMN := hide (nOne ((x + y) % P5))
  have HzMN := hide (nSize 0 ((x + y) % P5))
  have HsSU := hide (nInfo (((x + y) % P5 + z) % P5))
  have HoSU := hide (nOne (((x + y) % P5 + z) % P5))
  have HzSU := hide (nSize 0 (((x + y) % P5 + z) % P5))
  have HsSA := hide (eInfo (((x + y) % P5 + z) % P5))
  have HoSA := hide (eOne (((x + y) % P5 + z) % P5))
  have HzSA := hide (eSize 0 (((x + y) % P5 + z) % P5))
  have HsXY := hide (nInfo (x * y % P5))
  have HoXY := hide (nOne (x * y % P5))
  have HzXY := hide (nSize 0 (x * y % P5))
  have HsPR := hide (nInfo (x * y % P5 * z % P5))
  have HoPR := hide (nOne (x * y % P5 * z % P5))
  have HzPR := hide (nSize 0 (x * y % P5 * z % P5))
  have HsPA := hide (eInfo (x * y % P5 * z % P5))
  have HoPA := hide (eOne (x * y % P5 * z % P5))
  have HzPA := hide (eSize 0 (x * y % P5 * z % P5))
  have HsDA := hide (eInfo ((x + (P5 - y)) % P5))
  have HoDA := hide (eOne ((x + (P5 - y)) % P5))
  have HzDA := hide (eSize 0 ((x + (P5 - y)) % P5))
  have HsDn := hide (nInfo ((x + (P5 - y)) % P5))
  have HoDn := hide (nOne ((x + (P5 - y)) % P5))
  have HzDn := hide (nSize 0 ((x + (P5 - y)) % P5))
  have HsNA := hide (eInfo ((P5 - x) % P5))
  have HoNA := hide (eOne ((P5 - x) % P5))
  have HzNA := hide (eSize 0 ((P5 - x) % P5))
  have HsNm := hide (nInfo ((P5 - x) % P5))
  have HoNm := hide (nOne ((P5 - x) % P5))
  have HzNm := hide (nSize 0 ((P5 - x) % P5))
  have HsO4 := hide (eInfo (1))
  have HoO4 := hide (eOne (1))
  have HzO4 := hide (eSize 0 (1))
  have HsO1 := hide (nInfo (1))
  have HoO1 := hide (nOne (1))
  have HzO1 := hide (nSize 0 (1))
  generalize hA4 : q4 (a) = A4 at *
  have HA4 := hide hA4
  clear hA4
  generalize hB4 : q4 (b) = B4 at *
  have HB4 := hide hB4
  clear hB4
  generalize hC4 : q4 (c) = C4 at *
  have HC4 := hide hC4
  clear hC4
  generalize hXa : q4 (x) = Xa at *
  have HXa := hide hXa
  clear hXa
  generalize hMn : n17 (x) = Mn at *
  have HMn := hide hMn
  clear hMn
  generalize hYa : q4 (y) = Ya at *
  have HYa := hide hYa
  clear hYa
  generalize hNn : n17 (y) = Nn at *
  have HNn := hide hNn
  clear hNn
  generalize hZa : q4 (z) = Za at *
  have HZa := hide hZa
  clear hZa
  generalize hOn : n17 (z) = On at *
  have HOn := hide hOn
  clear hOn
  generalize hMN : n17 ((x + y) % P5) = MN at *
  have HMN := hide hMN
  clear hMN
  generalize hSU : n17 (((x + y) % P5 + z) % P5) = SU at *
  have HSU := hide hSU
  clear hSU
  generalize hSA : q4 (((x + y) % P5 + z) % P5) = SA at *
  have HSA := hide hSA
  clear hSA
  generalize hXY : n17 (x * y % P5) = XY at *
  have HXY := hide hXY
  clear hXY
  generalize hPR : n17 (x * y % P5 * z % P5) = PR at *
  have HPR := hide hPR
  clear hPR
  generalize hPA : q4 (x * y % P5 * z % P5) = PA at *
  have HPA := hide hPA
  clear hPA
  generalize hDA : q4 ((x + (P5 - y)) % P5) = DA at *
  have HDA := hide hDA
  clear hDA
  generalize hDn : n17 ((x + (P5 - y)) % P5) = Dn at *
  have HDn := hide hDn
  clear hDn
  generalize hNA : q4 ((P5 - x) % P5) = NA at *
  have HNA := hide hNA
  clear hNA
  generalize hNm : n17 ((P5 - x) % P5) = Nm at *
  have HNm := hide hNm
  clear hNm
  generalize hO4 : q4 (1) = O4 at *
  have HO4 := hide hO4
  clear hO4
  generalize hO1 : n17 (1) = O1 at *
  have HO1 := hide hO1
  clear hO1
  generalize hZ4 : q4 0 = Z4 at *
  have HZ4 := hide hZ4
  clear hZ4
  generalize hZn : n17 0 = Zn at *
  have HZn := hide hZn
  clear hZn
  go_enter Tryd.func3, Tryd.ntmps3
  go_wp2_with fail
  generalize ((w.alloc (.cells A4 23)).alloc (.cells B4 23)).alloc (.cells C4 23) = w1 at *
  refine (Hlv.out _ (hT.below (all_below H1.out.right.right.right S1.out))).mono ?_
  rintro e w2 ⟨rfl, hB⟩
  have H2 := hide (H1.out.below hB)
  have S2 := hide (S1.out.trans (Str.below hB))
  clear hB H1 S1
  have gA := on_blk_mul H2.out.right.right
  go_wp2_with (first
    | (refine wpList_load_row rfl _ _ rfl (w.heap.size) rfl _ A4 _ _ gA hu4 rfl HsA4.out ?_))
  clear gA
  refine (Hna.out _).mono ?_
  rintro e w3 ⟨rfl, hB⟩
  have H3 := hide (H2.out.below hB)
  have S3 := hide (S2.out.trans (Str.below hB))
  clear hB H2 S2
  have h1 := H3.out.alloc (.cells Z4 25)
  have h2 := h1.alloc (.cells Zn 27)
  simp only [World.size_alloc] at h2
  have gA := on_blk_mul h2.right
  have h3 := st1 h2 (cs := Xa)
  have gB := on_blk_mul h3
  have h4 := st0 h3 (cs := Mn)
  have H4 := hide h4
  have S4 := hide ((((S3.out.alloc (.cells Z4 25)).alloc (.cells Zn 27)).setRow w3.heap.size Xa).setRow (w3.heap.size + 1) Mn)
  clear h1 h2 h3 h4
  have gL := on_blk_mul H4.out.right.right.right
  go_wp2_with (first
    | (refine wpList_store_row rfl _ _ _ rfl (w3.heap.size) Xa rfl rfl _ _ gA HsXa.out HzXa.out HoXa.out ?_)
    | (refine wpList_store_row rfl _ _ _ rfl (w3.heap.size + 1) Mn rfl rfl _ _ gB HsMn.out HzMn.out HoMn.out ?_)
    | (refine wpList_load_row rfl _ _ rfl (w.heap.size + 1) rfl _ B4 _ _ gL hu4 rfl HsB4.out ?_))
  generalize (((w3.alloc (.cells Z4 25)).alloc (.cells Zn 27)).setRow w3.heap.size Xa).setRow (w3.heap.size + 1) Mn = w4 at *
  generalize w3.heap.size = p5 at *
  clear gA gB H3 S3 gL
  refine (Hnb.out _).mono ?_
  rintro e w5 ⟨rfl, hB⟩
  have H5 := hide (H4.out.below hB)
  have S5 := hide (S4.out.trans (Str.below hB))
  clear hB H4 S4
  have h1 := H5.out.alloc (.cells Z4 25)
  have h2 := h1.alloc (.cells Zn 27)
  simp only [World.size_alloc] at h2
  have gA := on_blk_mul h2.right
  have h3 := st1 h2 (cs := Ya)
  have gB := on_blk_mul h3
  have h4 := st0 h3 (cs := Nn)
  have H6 := hide h4
  have S6 := hide ((((S5.out.alloc (.cells Z4 25)).alloc (.cells Zn 27)).setRow w5.heap.size Ya).setRow (w5.heap.size + 1) Nn)
  clear h1 h2 h3 h4
  have gL := on_blk_mul H6.out.right.right.right.right
  go_wp2_with (first
    | (refine wpList_store_row rfl _ _ _ rfl (w5.heap.size) Ya rfl rfl _ _ gA HsYa.out HzYa.out HoYa.out ?_)
    | (refine wpList_store_row rfl _ _ _ rfl (w5.heap.size + 1) Nn rfl rfl _ _ gB HsNn.out HzNn.out HoNn.out ?_)
    | (refine wpList_load_row rfl _ _ rfl (w.heap.size + 1 + 1) rfl _ C4 _ _ gL hu4 rfl HsC4.out ?_))
  generalize (((w5.alloc (.cells Z4 25)).alloc (.cells Zn 27)).setRow w5.heap.size Ya).setRow (w5.heap.size + 1) Nn = w6 at *
  generalize w5.heap.size = p6 at *
  clear gA gB H5 S5 gL
  refine (Hnc.out _).mono ?_
  rintro e w7 ⟨rfl, hB⟩
  have H7 := hide (H6.out.below hB)
  have S7 := hide (S6.out.trans (Str.below hB))
  clear hB H6 S6
  have h1 := H7.out.alloc (.cells Z4 25)
  have h2 := h1.alloc (.cells Zn 27)
  simp only [World.size_alloc] at h2
  have gA := on_blk_mul h2.right
  have h3 := st1 h2 (cs := Za)
  have gB := on_blk_mul h3
  have h4 := st0 h3 (cs := On)
  have H8 := hide h4
  have S8 := hide ((((S7.out.alloc (.cells Z4 25)).alloc (.cells Zn 27)).setRow w7.heap.size Za).setRow (w7.heap.size + 1) On)
  clear h1 h2 h3 h4
  go_wp2_with (first
    | (refine wpList_store_row rfl _ _ _ rfl (w7.heap.size) Za rfl rfl _ _ gA HsZa.out HzZa.out HoZa.out ?_)
    | (refine wpList_store_row rfl _ _ _ rfl (w7.heap.size + 1) On rfl rfl _ _ gB HsOn.out HzOn.out HoOn.out ?_))
  generalize (((w7.alloc (.cells Z4 25)).alloc (.cells Zn 27)).setRow w7.heap.size Za).setRow (w7.heap.size + 1) On = w8 at *
  generalize w7.heap.size = p7 at *
  clear gA gB H7 S7
  go_wp2_with fail
  refine Multi2.wp_region_multi [5, 6] [5] [6] [isV (.agg Mn), isV (.agg Nn), isV (.agg MN), isV (.agg On), isV (.agg SU), (fun _ _ => True), (fun _ _ => True)]
    (by kernel_rfl) (by kernel_rfl) (by kernel_rfl) ⟨rfl, trivial⟩ (fun f s X => (Multi2.opt (f 5) (Multi2.bv (s 5) (.cells (if f 6 = true then SU else Zn) 27 (0, 0))) * ((blk (p7 + 1) (.cells On 27 (0, 0)) * (blk (p7) (.cells Za 25 (0, 0)) * (blk (p6 + 1) (.cells Nn 27 (0, 0)) * (blk (p6) (.cells Ya 25 (0, 0)) * (blk (p5 + 1) (.cells Mn 27 (0, 0)) * (blk (p5) (.cells Xa 25 (0, 0)) * (blk (w.heap.size + 1 + 1) (.cells C4 23 (0, 0)) * (blk (w.heap.size + 1) (.cells B4 23 (0, 0)) * (blk (w.heap.size) (.cells A4 23 (0, 0)) * all w))))))))))).on X ∧ Str w X) (fun _ => ⟨on_emp_mul.2 (SP.on.drew H8.out), Str.drew S8.out⟩) (fun f s a b h st => ⟨h.1.below st, h.2.trans (Str.below st)⟩) (fun f g s t X h h9 hI => by
      have e5 := h 5 rfl
      have e6 := h 6 rfl
      have i5 := h9 5 rfl
      rw [← e5, ← e6]
      refine ⟨?_, hI.2⟩
      have := hI.1
      revert this i5
      cases f 5 <;> intro i5 <;> simp_all [Multi2.opt]) ?keep ?todo ?rest (by decide) (by decide)
  case keep => exact ⟨Keep.isV _, Keep.isV _, Keep.isV _, Keep.isV _, Keep.isV _, fun _ _ _ h _ => h, fun _ _ _ h _ => h, trivial⟩
  case todo =>
    refine ⟨?_, ?_, ?_, ?_, ?_, ?_, ?_, trivial⟩
    · intro f hf0 hw hn ev X hT hb hk hf
      have e0 : ev (.tmp 8) = .pointer (some ⟨p5 + 1, 0, Option.none⟩) := by have h9 := hk.1; rw [if_pos (by kernel_rfl)] at h9; exact h9
      exact OpOk.load_row _ _ rfl _ e0 _ Mn (0, 0) _ (on_blk_mul hT.1.right.right.right.right.right) hun rfl HsMn.out (Multi2.ended_stay rfl rfl (Stay.refl _))
    · intro f hf0 hw hn ev X hT hb hk hf
      have e0 : ev (.tmp 10) = .pointer (some ⟨p6 + 1, 0, Option.none⟩) := by have h9 := hk.1; rw [if_pos (by kernel_rfl)] at h9; exact h9
      exact OpOk.load_row _ _ rfl _ e0 _ Nn (0, 0) _ (on_blk_mul hT.1.right.right.right) hun rfl HsNn.out (Multi2.ended_stay rfl rfl (Stay.refl _))
    · intro f hf0 hw hn ev X hT hb hk hf
      have e0 : ev (.tmp 32) = .agg Mn := hf.1
      have e1 : ev (.tmp 33) = .agg Nn := hf.2.1
      refine OpOk.enters (f := 14) (args := #[.agg Mn, .agg Nn]) (W' := X) (by simp [execOp, resolve, invoke, e0, e1, hb.1, hb.2.1, go_sem]) ((Ha1.out X).mono ?_)
      rintro e _ ⟨rfl, hB⟩
      exact ⟨_, rfl, Multi2.ended_stay rfl rfl hB⟩
    · intro f hf0 hw hn ev X hT hb hk hf
      have e0 : ev (.tmp 12) = .pointer (some ⟨p7 + 1, 0, Option.none⟩) := by have h9 := hk.1; rw [if_pos (by kernel_rfl)] at h9; exact h9
      exact OpOk.load_row _ _ rfl _ e0 _ On (0, 0) _ (on_blk_mul hT.1.right) hun rfl HsOn.out (Multi2.ended_stay rfl rfl (Stay.refl _))
    · intro f hf0 hw hn ev X hT hb hk hf
      have e0 : ev (.tmp 34) = .agg MN := hf.1
      have e1 : ev (.tmp 35) = .agg On := hf.2.1
      refine OpOk.enters (f := 14) (args := #[.agg MN, .agg On]) (W' := X) (by simp [execOp, resolve, invoke, e0, e1, hb.1, hb.2.1, go_sem]) ((Ha2.out X).mono ?_)
      rintro e _ ⟨rfl, hB⟩
      exact ⟨_, rfl, Multi2.ended_stay rfl rfl hB⟩
    · intro f hf0 hw hn ev X hT hb hk hf
      have fs : f 6 = false := hn 6 (by kernel_rfl)
      have hX := hT.1
      rw [hf0, Multi2.opt_false] at hX
      have hX2 := (on_emp_mul.1 hX).alloc (.cells Zn 27 (0, 0))
      exact OpOk.run (v := .pointer (some ⟨X.heap.size, 0, Option.none⟩)) (W' := X.alloc (.cells Zn 27)) (by simp [execOp, hzn, go_sem]) (Multi2.ended_turn rfl trivial ⟨by
        show (Multi2.opt true (Multi2.bv (.pointer (some ⟨X.heap.size, 0, Option.none⟩)) (.cells (if f 6 = true then SU else Zn) 27 (0, 0))) * _).on _
        rw [fs]
        exact Multi2.blk_bv hX2, hT.2.alloc _⟩ (Multi2.free_keep (by
        intro P hP
        simp only [List.mem_cons, List.not_mem_nil, or_false] at hP
        rcases hP with rfl | rfl | rfl | rfl | rfl | rfl | rfl <;> exact fun _ _ _ h => h) _ _))
    · intro f hf0 hw hn ev X hT hb hk hf
      have e0 := hf.1
      have e1 : ev (.tmp 36) = .agg SU := hf.2.1
      have fa : f 5 = true := hw 5 (by kernel_rfl)
      have hX := hT.1
      rw [fa, hf0] at hX
      have hX' : (Multi2.bv (ev (.tmp 13)) (.cells Zn 27 (0, 0)) * _).on X := hX
      obtain ⟨g, hg, hX2⟩ := Multi2.bv_blk hX'
      exact OpOk.store_agg _ _ _ rfl g SU hg e1 _ Zn hX2 HsSU.out HzSU.out HoSU.out (fun h3 => Multi2.ended_turn rfl trivial ⟨by
        show (Multi2.opt (f 5) (Multi2.bv (ev (.tmp 13)) (.cells SU 27 (0, 0))) * _).on _
        rw [fa, hg]
        exact Multi2.blk_bv h3, hT.2.setRow _ _⟩ (Multi2.free_keep (by
        intro P hP
        simp only [List.mem_cons, List.not_mem_nil, or_false] at hP
        rcases hP with rfl | rfl | rfl | rfl | rfl | rfl | rfl <;> exact fun _ _ _ h => h) _ _))
  case rest =>
    intro X s hI
    rintro _ ⟨-, -⟩ _ ⟨-, -⟩ _ ⟨-, -⟩ _ ⟨-, -⟩ _ ⟨-, -⟩ v9 ⟨k9, -⟩ _ -
    have h9 := k9 rfl
    obtain ⟨hX, hSX⟩ := hI
    have hX' : (Multi2.bv (s 5) (.cells SU 27 (0, 0)) * (blk (p7 + 1) (.cells On 27 (0, 0)) * (blk (p7) (.cells Za 25 (0, 0)) * (blk (p6 + 1) (.cells Nn 27 (0, 0)) * (blk (p6) (.cells Ya 25 (0, 0)) * (blk (p5 + 1) (.cells Mn 27 (0, 0)) * (blk (p5) (.cells Xa 25 (0, 0)) * (blk (w.heap.size + 1 + 1) (.cells C4 23 (0, 0)) * (blk (w.heap.size + 1) (.cells B4 23 (0, 0)) * (blk (w.heap.size) (.cells A4 23 (0, 0)) * all w)))))))))).on X := hX
    rw [← h9] at hX'
    obtain ⟨g13, rfl, hX2⟩ := Multi2.bv_blk hX'
    have H9 := hide hX2
    have S9 := hide hSX
    clear hX hX' hX2 h9 k9 hSX H8 S8
    go_wp2
    refine Rest.done ?_
    go_wp2_with fail
    refine Multi2.wp_region_multi [5, 6] [5] [6] [isV (.agg Mn), isV (.agg Nn), isV (.agg XY), isV (.agg On), isV (.agg PR), (fun _ _ => True), (fun _ _ => True)]
      (by kernel_rfl) (by kernel_rfl) (by kernel_rfl) ⟨rfl, trivial⟩ (fun f s X => (Multi2.opt (f 5) (Multi2.bv (s 5) (.cells (if f 6 = true then PR else Zn) 27 (0, 0))) * ((blk (g13) (.cells SU 27 (0, 0)) * (blk (p7 + 1) (.cells On 27 (0, 0)) * (blk (p7) (.cells Za 25 (0, 0)) * (blk (p6 + 1) (.cells Nn 27 (0, 0)) * (blk (p6) (.cells Ya 25 (0, 0)) * (blk (p5 + 1) (.cells Mn 27 (0, 0)) * (blk (p5) (.cells Xa 25 (0, 0)) * (blk (w.heap.size + 1 + 1) (.cells C4 23 (0, 0)) * (blk (w.heap.size + 1) (.cells B4 23 (0, 0)) * (blk (w.heap.size) (.cells A4 23 (0, 0)) * all w)))))))))))).on X ∧ Str w X) (fun _ => ⟨on_emp_mul.2 (SP.on.drew H9.out), Str.drew S9.out⟩) (fun f s a b h st => ⟨h.1.below st, h.2.trans (Str.below st)⟩) (fun f g s t X h h9 hI => by
      have e5 := h 5 rfl
      have e6 := h 6 rfl
      have i5 := h9 5 rfl
      rw [← e5, ← e6]
      refine ⟨?_, hI.2⟩
      have := hI.1
      revert this i5
      cases f 5 <;> intro i5 <;> simp_all [Multi2.opt]) ?keep ?todo ?rest (by decide) (by decide)
    case keep => exact ⟨Keep.isV _, Keep.isV _, Keep.isV _, Keep.isV _, Keep.isV _, fun _ _ _ h _ => h, fun _ _ _ h _ => h, trivial⟩
    case todo =>
      refine ⟨?_, ?_, ?_, ?_, ?_, ?_, ?_, trivial⟩
      · intro f hf0 hw hn ev X hT hb hk hf
        have e0 : ev (.tmp 8) = .pointer (some ⟨p5 + 1, 0, Option.none⟩) := by have h9 := hk.1; rw [if_pos (by kernel_rfl)] at h9; exact h9
        exact OpOk.load_row _ _ rfl _ e0 _ Mn (0, 0) _ (on_blk_mul hT.1.right.right.right.right.right.right) hun rfl HsMn.out (Multi2.ended_stay rfl rfl (Stay.refl _))
      · intro f hf0 hw hn ev X hT hb hk hf
        have e0 : ev (.tmp 10) = .pointer (some ⟨p6 + 1, 0, Option.none⟩) := by have h9 := hk.1; rw [if_pos (by kernel_rfl)] at h9; exact h9
        exact OpOk.load_row _ _ rfl _ e0 _ Nn (0, 0) _ (on_blk_mul hT.1.right.right.right.right) hun rfl HsNn.out (Multi2.ended_stay rfl rfl (Stay.refl _))
      · intro f hf0 hw hn ev X hT hb hk hf
        have e0 : ev (.tmp 37) = .agg Mn := hf.1
        have e1 : ev (.tmp 38) = .agg Nn := hf.2.1
        refine OpOk.enters (f := 15) (args := #[.agg Mn, .agg Nn]) (W' := X) (by simp [execOp, resolve, invoke, e0, e1, hb.1, hb.2.1, go_sem]) ((Hm1.out X).mono ?_)
        rintro e _ ⟨rfl, hB⟩
        exact ⟨_, rfl, Multi2.ended_stay rfl rfl hB⟩
      · intro f hf0 hw hn ev X hT hb hk hf
        have e0 : ev (.tmp 12) = .pointer (some ⟨p7 + 1, 0, Option.none⟩) := by have h9 := hk.1; rw [if_pos (by kernel_rfl)] at h9; exact h9
        exact OpOk.load_row _ _ rfl _ e0 _ On (0, 0) _ (on_blk_mul hT.1.right.right) hun rfl HsOn.out (Multi2.ended_stay rfl rfl (Stay.refl _))
      · intro f hf0 hw hn ev X hT hb hk hf
        have e0 : ev (.tmp 39) = .agg XY := hf.1
        have e1 : ev (.tmp 40) = .agg On := hf.2.1
        refine OpOk.enters (f := 15) (args := #[.agg XY, .agg On]) (W' := X) (by simp [execOp, resolve, invoke, e0, e1, hb.1, hb.2.1, go_sem]) ((Hm2.out X).mono ?_)
        rintro e _ ⟨rfl, hB⟩
        exact ⟨_, rfl, Multi2.ended_stay rfl rfl hB⟩
      · intro f hf0 hw hn ev X hT hb hk hf
        have fs : f 6 = false := hn 6 (by kernel_rfl)
        have hX := hT.1
        rw [hf0, Multi2.opt_false] at hX
        have hX2 := (on_emp_mul.1 hX).alloc (.cells Zn 27 (0, 0))
        exact OpOk.run (v := .pointer (some ⟨X.heap.size, 0, Option.none⟩)) (W' := X.alloc (.cells Zn 27)) (by simp [execOp, hzn, go_sem]) (Multi2.ended_turn rfl trivial ⟨by
          show (Multi2.opt true (Multi2.bv (.pointer (some ⟨X.heap.size, 0, Option.none⟩)) (.cells (if f 6 = true then PR else Zn) 27 (0, 0))) * _).on _
          rw [fs]
          exact Multi2.blk_bv hX2, hT.2.alloc _⟩ (Multi2.free_keep (by
          intro P hP
          simp only [List.mem_cons, List.not_mem_nil, or_false] at hP
          rcases hP with rfl | rfl | rfl | rfl | rfl | rfl | rfl <;> exact fun _ _ _ h => h) _ _))
      · intro f hf0 hw hn ev X hT hb hk hf
        have e0 := hf.1
        have e1 : ev (.tmp 41) = .agg PR := hf.2.1
        have fa : f 5 = true := hw 5 (by kernel_rfl)
        have hX := hT.1
        rw [fa, hf0] at hX
        have hX' : (Multi2.bv (ev (.tmp 14)) (.cells Zn 27 (0, 0)) * _).on X := hX
        obtain ⟨g, hg, hX2⟩ := Multi2.bv_blk hX'
        exact OpOk.store_agg _ _ _ rfl g PR hg e1 _ Zn hX2 HsPR.out HzPR.out HoPR.out (fun h3 => Multi2.ended_turn rfl trivial ⟨by
          show (Multi2.opt (f 5) (Multi2.bv (ev (.tmp 14)) (.cells PR 27 (0, 0))) * _).on _
          rw [fa, hg]
          exact Multi2.blk_bv h3, hT.2.setRow _ _⟩ (Multi2.free_keep (by
          intro P hP
          simp only [List.mem_cons, List.not_mem_nil, or_false] at hP
          rcases hP with rfl | rfl | rfl | rfl | rfl | rfl | rfl <;> exact fun _ _ _ h => h) _ _))
    case rest =>
      intro X s hI
      rintro _ ⟨-, -⟩ _ ⟨-, -⟩ _ ⟨-, -⟩ _ ⟨-, -⟩ _ ⟨-, -⟩ v9 ⟨k9, -⟩ _ -
      have h9 := k9 rfl
      obtain ⟨hX, hSX⟩ := hI
      have hX' : (Multi2.bv (s 5) (.cells PR 27 (0, 0)) * (blk (g13) (.cells SU 27 (0, 0)) * (blk (p7 + 1) (.cells On 27 (0, 0)) * (blk (p7) (.cells Za 25 (0, 0)) * (blk (p6 + 1) (.cells Nn 27 (0, 0)) * (blk (p6) (.cells Ya 25 (0, 0)) * (blk (p5 + 1) (.cells Mn 27 (0, 0)) * (blk (p5) (.cells Xa 25 (0, 0)) * (blk (w.heap.size + 1 + 1) (.cells C4 23 (0, 0)) * (blk (w.heap.size + 1) (.cells B4 23 (0, 0)) * (blk (w.heap.size) (.cells A4 23 (0, 0)) * all w))))))))))).on X := hX
      rw [← h9] at hX'
      obtain ⟨g14, rfl, hX2⟩ := Multi2.bv_blk hX'
      have H10 := hide hX2
      have S10 := hide hSX
      clear hX hX' hX2 h9 k9 hSX H9 S9
      go_wp2
      refine Rest.done ?_
      have hT0 := hide (hT.below (all_below H10.out.right.right.right.right.right.right.right.right.right.right.right S10.out))
      go_wp2_with fail
      refine wp_region_vs [isV (.agg Xa), isV (.agg Ya), isV (.agg Za), fun v X => IsEl X v [x, y, z], isV (.agg SA), isV (.agg SU), isV (.bool true), isV (.bool true), isV (.agg Xa), isV (.agg Ya), isV (.agg DA), isV (.agg Mn), isV (.agg Nn), isV (.agg Dn), isV (.bool true), isV (.bool true), isV (.bool true), isV (.agg Xa), isV (.agg Ya), isV (.agg Za), fun v X => IsEl X v [x, y, z], isV (.agg PA), isV (.agg PR), isV (.bool true), isV (.bool true), isV (.bool true), isV (.agg Xa), isV (.agg NA), isV (.agg Mn), isV (.agg Nm), isV (.bool true), isV (.bool true), isV (.bool true), isV (.agg Z4), isV (.agg Zn), isV (.bool true), isV (.bool true), isV (.bool true), isV (.agg O4), isV (.agg O1), isV (.bool true), isV (.bool true), isV (.bool true), isV (.agg Xa), isV (.bool oo), isV (.pointer (some ⟨p5 + 1, 0, Option.none⟩)), isV (nv (dg x 0)), isV (.int .i64 ((x % 2 : Nat) : Int)), isV (.bool oo), isV (.bool true), isV (.bool true), isV (.bool true)]
        (by kernel_rfl) (by kernel_rfl) rfl ?keep ?todo ?rest
      case keep => exact ⟨Keep.isV _, Keep.isV _, Keep.isV _, fun _ _ _ h k => IsEl.below h k, Keep.isV _, Keep.isV _, Keep.isV _, Keep.isV _, Keep.isV _, Keep.isV _, Keep.isV _, Keep.isV _, Keep.isV _, Keep.isV _, Keep.isV _, Keep.isV _, Keep.isV _, Keep.isV _, Keep.isV _, Keep.isV _, fun _ _ _ h k => IsEl.below h k, Keep.isV _, Keep.isV _, Keep.isV _, Keep.isV _, Keep.isV _, Keep.isV _, Keep.isV _, Keep.isV _, Keep.isV _, Keep.isV _, Keep.isV _, Keep.isV _, Keep.isV _, Keep.isV _, Keep.isV _, Keep.isV _, Keep.isV _, Keep.isV _, Keep.isV _, Keep.isV _, Keep.isV _, Keep.isV _, Keep.isV _, Keep.isV _, Keep.isV _, Keep.isV _, Keep.isV _, Keep.isV _, Keep.isV _, Keep.isV _, Keep.isV _, trivial⟩
      case todo =>
        refine ⟨?_, ?_, ?_, ?_, ?_, ?_, ?_, ?_, ?_, ?_, ?_, ?_, ?_, ?_, ?_, ?_, ?_, ?_, ?_, ?_, ?_, ?_, ?_, ?_, ?_, ?_, ?_, ?_, ?_, ?_, ?_, ?_, ?_, ?_, ?_, ?_, ?_, ?_, ?_, ?_, ?_, ?_, ?_, ?_, ?_, ?_, ?_, ?_, ?_, ?_, ?_, ?_, trivial⟩
        · intro ev X hT hb hk hf
          have e0 : ev (.tmp 7) = .pointer (some ⟨p5, 0, Option.none⟩) := hk.1
          exact OpOk.load_row _ _ rfl _ e0 _ Xa (0, 0) _ (on_blk_mul (H10.out.below hT).right.right.right.right.right.right.right) hu rfl HsXa.out ⟨rfl, Stay.refl _⟩
        · intro ev X hT hb hk hf
          have e0 : ev (.tmp 9) = .pointer (some ⟨p6, 0, Option.none⟩) := hk.1
          exact OpOk.load_row _ _ rfl _ e0 _ Ya (0, 0) _ (on_blk_mul (H10.out.below hT).right.right.right.right.right) hu rfl HsYa.out ⟨rfl, Stay.refl _⟩
        · intro ev X hT hb hk hf
          have e0 : ev (.tmp 11) = .pointer (some ⟨p7, 0, Option.none⟩) := hk.1
          exact OpOk.load_row _ _ rfl _ e0 _ Za (0, 0) _ (on_blk_mul (H10.out.below hT).right.right.right) hu rfl HsZa.out ⟨rfl, Stay.refl _⟩
        · intro ev X hT hb hk hf
          have e0 : ev (.tmp 42) = .agg Xa := hf.1
          have e1 : ev (.tmp 43) = .agg Ya := hf.2.1
          have e2 : ev (.tmp 44) = .agg Za := hf.2.2.1
          exact OpOk.run (v := .slice (some ⟨X.heap.size, 0, Option.none⟩) 3 3) (W' := X.alloc (.cells #[lv (limb x 0), lv (limb x 1), lv (limb x 2), lv (limb x 3), lv (limb y 0), lv (limb y 1), lv (limb y 2), lv (limb y 3), lv (limb z 0), lv (limb z 1), lv (limb z 2), lv (limb z 3)] 25)) (by simp [execOp, e0, e1, e2, Hbs.out X]) ⟨IsEl.three (heap_alloc_new X _), (Below.refl X.heap.size X).alloc (Nat.le_refl _) _⟩
        · intro ev X hT hb hk hf
          have e0 : IsEl X (ev (.tmp 45)) [x, y, z] := hf.1
          refine OpOk.enters (f := 17) (args := #[ev (.tmp 45)]) (W' := X) (by simp [execOp, resolve, invoke, hb.1, hb.2.1, go_sem]) ((Hadd.out _ X e0 (hT0.out.below hT)).mono ?_)
          rintro e _ ⟨rfl, hB⟩
          exact ⟨_, rfl, rfl, hB⟩
        · intro ev X hT hb hk hf
          have e0 : ev (.tmp 13) = .pointer (some ⟨g13, 0, Option.none⟩) := hk.1
          exact OpOk.load_row _ _ rfl _ e0 _ SU (0, 0) _ (on_blk_mul (H10.out.below hT).right) hun rfl HsSU.out ⟨rfl, Stay.refl _⟩
        · intro ev X hT hb hk hf
          have e0 : ev (.tmp 46) = .agg SA := hf.1
          have e1 : ev (.tmp 47) = .agg SU := hf.2.1
          refine OpOk.enters (f := 16) (args := #[.agg SA, .agg SU]) (W' := X) (by simp [execOp, resolve, invoke, e0, e1, hb.1, hb.2.1, go_sem]) ((Hk1.out X).mono ?_)
          rintro e _ ⟨rfl, hB⟩
          exact ⟨_, rfl, rfl, hB⟩
        · intro ev X hT hb hk hf
          have e0 : ev (.tmp 48) = .bool true := hf.1
          exact OpOk.move rfl e0 ⟨rfl, Stay.refl _⟩
        · intro ev X hT hb hk hf
          refine ⟨true, hf.1, fun _ => ?_, fun h => (h rfl).elim⟩
          have e0 : ev (.tmp 7) = .pointer (some ⟨p5, 0, Option.none⟩) := hk.1
          exact OpOk.load_row _ _ rfl _ e0 _ Xa (0, 0) _ (on_blk_mul (H10.out.below hT).right.right.right.right.right.right.right) hu rfl HsXa.out ⟨rfl, Stay.refl _⟩
        · intro ev X hT hb hk hf
          refine ⟨true, hf.1, fun _ => ?_, fun h => (h rfl).elim⟩
          have e0 : ev (.tmp 9) = .pointer (some ⟨p6, 0, Option.none⟩) := hk.1
          exact OpOk.load_row _ _ rfl _ e0 _ Ya (0, 0) _ (on_blk_mul (H10.out.below hT).right.right.right.right.right) hu rfl HsYa.out ⟨rfl, Stay.refl _⟩
        · intro ev X hT hb hk hf
          refine ⟨true, hf.2.2.1, fun _ => ?_, fun h => (h rfl).elim⟩
          have e0 : ev (.tmp 50) = .agg Xa := hf.1
          have e1 : ev (.tmp 51) = .agg Ya := hf.2.1
          refine OpOk.enters (f := 18) (args := #[.agg Xa, .agg Ya]) (W' := X) (by simp [execOp, resolve, invoke, e0, e1, hb.1, hb.2.1, go_sem]) ((Hsub.out X (hT0.out.below hT)).mono ?_)
          rintro e _ ⟨rfl, hB⟩
          exact ⟨_, rfl, rfl, hB⟩
        · intro ev X hT hb hk hf
          refine ⟨true, hf.1, fun _ => ?_, fun h => (h rfl).elim⟩
          have e0 : ev (.tmp 8) = .pointer (some ⟨p5 + 1, 0, Option.none⟩) := hk.1
          exact OpOk.load_row _ _ rfl _ e0 _ Mn (0, 0) _ (on_blk_mul (H10.out.below hT).right.right.right.right.right.right) hun rfl HsMn.out ⟨rfl, Stay.refl _⟩
        · intro ev X hT hb hk hf
          refine ⟨true, hf.1, fun _ => ?_, fun h => (h rfl).elim⟩
          have e0 : ev (.tmp 10) = .pointer (some ⟨p6 + 1, 0, Option.none⟩) := hk.1
          exact OpOk.load_row _ _ rfl _ e0 _ Nn (0, 0) _ (on_blk_mul (H10.out.below hT).right.right.right.right) hun rfl HsNn.out ⟨rfl, Stay.refl _⟩
        · intro ev X hT hb hk hf
          refine ⟨true, hf.2.2.2.1, fun _ => ?_, fun h => (h rfl).elim⟩
          have e0 : ev (.tmp 53) = .agg Mn := hf.1
          have e1 : ev (.tmp 54) = .agg Nn := hf.2.1
          refine OpOk.enters (f := 19) (args := #[.agg Mn, .agg Nn]) (W' := X) (by simp [execOp, resolve, invoke, e0, e1, hb.1, hb.2.1, go_sem]) ((Hrs.out X).mono ?_)
          rintro e _ ⟨rfl, hB⟩
          exact ⟨_, rfl, rfl, hB⟩
        · intro ev X hT hb hk hf
          refine ⟨true, hf.2.2.2.1, fun _ => ?_, fun h => (h rfl).elim⟩
          have e0 : ev (.tmp 52) = .agg DA := hf.1
          have e1 : ev (.tmp 55) = .agg Dn := hf.2.1
          refine OpOk.enters (f := 16) (args := #[.agg DA, .agg Dn]) (W' := X) (by simp [execOp, resolve, invoke, e0, e1, hb.1, hb.2.1, go_sem]) ((Hk2.out X).mono ?_)
          rintro e _ ⟨rfl, hB⟩
          exact ⟨_, rfl, rfl, hB⟩
        · intro ev X hT hb hk hf
          have e0 : ev (.tmp 49) = .bool true := hf.1
          have e1 : ev (.tmp 56) = .bool true := hf.2.1
          exact OpOk.run (v := .bool true) (W' := X) (by simp [execOp, e0, e1, hb, hb.1, hb.2.1, hb.2.2, go_sem]) ⟨rfl, Stay.refl _⟩
        · intro ev X hT hb hk hf
          have e0 : ev (.tmp 57) = .bool true := hf.1
          exact OpOk.move rfl e0 ⟨rfl, Stay.refl _⟩
        · intro ev X hT hb hk hf
          refine ⟨true, hf.1, fun _ => ?_, fun h => (h rfl).elim⟩
          have e0 : ev (.tmp 7) = .pointer (some ⟨p5, 0, Option.none⟩) := hk.1
          exact OpOk.load_row _ _ rfl _ e0 _ Xa (0, 0) _ (on_blk_mul (H10.out.below hT).right.right.right.right.right.right.right) hu rfl HsXa.out ⟨rfl, Stay.refl _⟩
        · intro ev X hT hb hk hf
          refine ⟨true, hf.1, fun _ => ?_, fun h => (h rfl).elim⟩
          have e0 : ev (.tmp 9) = .pointer (some ⟨p6, 0, Option.none⟩) := hk.1
          exact OpOk.load_row _ _ rfl _ e0 _ Ya (0, 0) _ (on_blk_mul (H10.out.below hT).right.right.right.right.right) hu rfl HsYa.out ⟨rfl, Stay.refl _⟩
        · intro ev X hT hb hk hf
          refine ⟨true, hf.1, fun _ => ?_, fun h => (h rfl).elim⟩
          have e0 : ev (.tmp 11) = .pointer (some ⟨p7, 0, Option.none⟩) := hk.1
          exact OpOk.load_row _ _ rfl _ e0 _ Za (0, 0) _ (on_blk_mul (H10.out.below hT).right.right.right) hu rfl HsZa.out ⟨rfl, Stay.refl _⟩
        · intro ev X hT hb hk hf
          refine ⟨true, hf.2.2.2.1, fun _ => ?_, fun h => (h rfl).elim⟩
          have e0 : ev (.tmp 59) = .agg Xa := hf.1
          have e1 : ev (.tmp 60) = .agg Ya := hf.2.1
          have e2 : ev (.tmp 61) = .agg Za := hf.2.2.1
          exact OpOk.run (v := .slice (some ⟨X.heap.size, 0, Option.none⟩) 3 3) (W' := X.alloc (.cells #[lv (limb x 0), lv (limb x 1), lv (limb x 2), lv (limb x 3), lv (limb y 0), lv (limb y 1), lv (limb y 2), lv (limb y 3), lv (limb z 0), lv (limb z 1), lv (limb z 2), lv (limb z 3)] 25)) (by simp [execOp, e0, e1, e2, Hbs.out X]) ⟨IsEl.three (heap_alloc_new X _), (Below.refl X.heap.size X).alloc (Nat.le_refl _) _⟩
        · intro ev X hT hb hk hf
          refine ⟨true, hf.2.1, fun _ => ?_, fun h => (h rfl).elim⟩
          have e0 : IsEl X (ev (.tmp 62)) [x, y, z] := hf.1
          refine OpOk.enters (f := 20) (args := #[ev (.tmp 62)]) (W' := X) (by simp [execOp, resolve, invoke, hb.1, hb.2.1, go_sem]) ((Hmul.out _ X e0 (hT0.out.below hT)).mono ?_)
          rintro e _ ⟨rfl, hB⟩
          exact ⟨_, rfl, rfl, hB⟩
        · intro ev X hT hb hk hf
          refine ⟨true, hf.1, fun _ => ?_, fun h => (h rfl).elim⟩
          have e0 : ev (.tmp 14) = .pointer (some ⟨g14, 0, Option.none⟩) := hk.1
          exact OpOk.load_row _ _ rfl _ e0 _ PR (0, 0) _ (on_blk_mul (H10.out.below hT)) hun rfl HsPR.out ⟨rfl, Stay.refl _⟩
        · intro ev X hT hb hk hf
          refine ⟨true, hf.2.2.2.1, fun _ => ?_, fun h => (h rfl).elim⟩
          have e0 : ev (.tmp 63) = .agg PA := hf.1
          have e1 : ev (.tmp 64) = .agg PR := hf.2.1
          refine OpOk.enters (f := 16) (args := #[.agg PA, .agg PR]) (W' := X) (by simp [execOp, resolve, invoke, e0, e1, hb.1, hb.2.1, go_sem]) ((Hk3.out X).mono ?_)
          rintro e _ ⟨rfl, hB⟩
          exact ⟨_, rfl, rfl, hB⟩
        · intro ev X hT hb hk hf
          have e0 : ev (.tmp 58) = .bool true := hf.1
          have e1 : ev (.tmp 65) = .bool true := hf.2.1
          exact OpOk.run (v := .bool true) (W' := X) (by simp [execOp, e0, e1, hb, hb.1, hb.2.1, hb.2.2, go_sem]) ⟨rfl, Stay.refl _⟩
        · intro ev X hT hb hk hf
          have e0 : ev (.tmp 66) = .bool true := hf.1
          exact OpOk.move rfl e0 ⟨rfl, Stay.refl _⟩
        · intro ev X hT hb hk hf
          refine ⟨true, hf.1, fun _ => ?_, fun h => (h rfl).elim⟩
          have e0 : ev (.tmp 7) = .pointer (some ⟨p5, 0, Option.none⟩) := hk.1
          exact OpOk.load_row _ _ rfl _ e0 _ Xa (0, 0) _ (on_blk_mul (H10.out.below hT).right.right.right.right.right.right.right) hu rfl HsXa.out ⟨rfl, Stay.refl _⟩
        · intro ev X hT hb hk hf
          refine ⟨true, hf.2.1, fun _ => ?_, fun h => (h rfl).elim⟩
          have e0 : ev (.tmp 68) = .agg Xa := hf.1
          refine OpOk.enters (f := 21) (args := #[.agg Xa]) (W' := X) (by simp [execOp, resolve, invoke, e0, hb.1, hb.2.1, go_sem]) ((Hneg.out X (hT0.out.below hT)).mono ?_)
          rintro e _ ⟨rfl, hB⟩
          exact ⟨_, rfl, rfl, hB⟩
        · intro ev X hT hb hk hf
          refine ⟨true, hf.1, fun _ => ?_, fun h => (h rfl).elim⟩
          have e0 : ev (.tmp 8) = .pointer (some ⟨p5 + 1, 0, Option.none⟩) := hk.1
          exact OpOk.load_row _ _ rfl _ e0 _ Mn (0, 0) _ (on_blk_mul (H10.out.below hT).right.right.right.right.right.right) hun rfl HsMn.out ⟨rfl, Stay.refl _⟩
        · intro ev X hT hb hk hf
          refine ⟨true, hf.2.2.1, fun _ => ?_, fun h => (h rfl).elim⟩
          have e0 : ev (.tmp 70) = .agg Mn := hf.1
          refine OpOk.enters (f := 22) (args := #[.agg Mn]) (W' := X) (by simp [execOp, resolve, invoke, e0, hb.1, hb.2.1, go_sem]) ((Hrn.out X).mono ?_)
          rintro e _ ⟨rfl, hB⟩
          exact ⟨_, rfl, rfl, hB⟩
        · intro ev X hT hb hk hf
          refine ⟨true, hf.2.2.2.1, fun _ => ?_, fun h => (h rfl).elim⟩
          have e0 : ev (.tmp 69) = .agg NA := hf.1
          have e1 : ev (.tmp 71) = .agg Nm := hf.2.1
          refine OpOk.enters (f := 16) (args := #[.agg NA, .agg Nm]) (W' := X) (by simp [execOp, resolve, invoke, e0, e1, hb.1, hb.2.1, go_sem]) ((Hk4.out X).mono ?_)
          rintro e _ ⟨rfl, hB⟩
          exact ⟨_, rfl, rfl, hB⟩
        · intro ev X hT hb hk hf
          have e0 : ev (.tmp 67) = .bool true := hf.1
          have e1 : ev (.tmp 72) = .bool true := hf.2.1
          exact OpOk.run (v := .bool true) (W' := X) (by simp [execOp, e0, e1, hb, hb.1, hb.2.1, hb.2.2, go_sem]) ⟨rfl, Stay.refl _⟩
        · intro ev X hT hb hk hf
          have e0 : ev (.tmp 73) = .bool true := hf.1
          exact OpOk.move rfl e0 ⟨rfl, Stay.refl _⟩
        · intro ev X hT hb hk hf
          refine ⟨true, hf.1, fun _ => ?_, fun h => (h rfl).elim⟩
          refine OpOk.enters (f := 17) (args := #[.slice Option.none 0 0]) (W' := X) (by simp [execOp, resolve, invoke, hb.1, hb.2.1, go_sem]) ((Hadd0.out X (hT0.out.below hT)).mono ?_)
          rintro e _ ⟨rfl, hB⟩
          exact ⟨_, rfl, rfl, hB⟩
        · intro ev X hT hb hk hf
          refine ⟨true, hf.2.1, fun _ => ?_, fun h => (h rfl).elim⟩
          refine OpOk.enters (f := 23) (args := #[.int .i64 0]) (W' := X) (by simp [execOp, resolve, invoke, hb.1, hb.2.1, go_sem]) ((Hs0.out X).mono ?_)
          rintro e _ ⟨rfl, hB⟩
          exact ⟨_, rfl, rfl, hB⟩
        · intro ev X hT hb hk hf
          refine ⟨true, hf.2.2.2.1, fun _ => ?_, fun h => (h rfl).elim⟩
          have e0 : ev (.tmp 75) = .agg Z4 := hf.1
          have e1 : ev (.tmp 76) = .agg Zn := hf.2.1
          refine OpOk.enters (f := 16) (args := #[.agg Z4, .agg Zn]) (W' := X) (by simp [execOp, resolve, invoke, e0, e1, hb.1, hb.2.1, go_sem]) ((Hk5.out X).mono ?_)
          rintro e _ ⟨rfl, hB⟩
          exact ⟨_, rfl, rfl, hB⟩
        · intro ev X hT hb hk hf
          have e0 : ev (.tmp 74) = .bool true := hf.1
          have e1 : ev (.tmp 77) = .bool true := hf.2.1
          exact OpOk.run (v := .bool true) (W' := X) (by simp [execOp, e0, e1, hb, hb.1, hb.2.1, hb.2.2, go_sem]) ⟨rfl, Stay.refl _⟩
        · intro ev X hT hb hk hf
          have e0 : ev (.tmp 78) = .bool true := hf.1
          exact OpOk.move rfl e0 ⟨rfl, Stay.refl _⟩
        · intro ev X hT hb hk hf
          refine ⟨true, hf.1, fun _ => ?_, fun h => (h rfl).elim⟩
          refine OpOk.enters (f := 20) (args := #[.slice Option.none 0 0]) (W' := X) (by simp [execOp, resolve, invoke, hb.1, hb.2.1, go_sem]) ((Hmul0.out X (hT0.out.below hT)).mono ?_)
          rintro e _ ⟨rfl, hB⟩
          exact ⟨_, rfl, rfl, hB⟩
        · intro ev X hT hb hk hf
          refine ⟨true, hf.2.1, fun _ => ?_, fun h => (h rfl).elim⟩
          refine OpOk.enters (f := 23) (args := #[.int .i64 1]) (W' := X) (by simp [execOp, resolve, invoke, hb.1, hb.2.1, go_sem]) ((Hs1.out X).mono ?_)
          rintro e _ ⟨rfl, hB⟩
          exact ⟨_, rfl, rfl, hB⟩
        · intro ev X hT hb hk hf
          refine ⟨true, hf.2.2.2.1, fun _ => ?_, fun h => (h rfl).elim⟩
          have e0 : ev (.tmp 80) = .agg O4 := hf.1
          have e1 : ev (.tmp 81) = .agg O1 := hf.2.1
          refine OpOk.enters (f := 16) (args := #[.agg O4, .agg O1]) (W' := X) (by simp [execOp, resolve, invoke, e0, e1, hb.1, hb.2.1, go_sem]) ((Hk6.out X).mono ?_)
          rintro e _ ⟨rfl, hB⟩
          exact ⟨_, rfl, rfl, hB⟩
        · intro ev X hT hb hk hf
          have e0 : ev (.tmp 79) = .bool true := hf.1
          have e1 : ev (.tmp 82) = .bool true := hf.2.1
          exact OpOk.run (v := .bool true) (W' := X) (by simp [execOp, e0, e1, hb, hb.1, hb.2.1, hb.2.2, go_sem]) ⟨rfl, Stay.refl _⟩
        · intro ev X hT hb hk hf
          have e0 : ev (.tmp 83) = .bool true := hf.1
          exact OpOk.move rfl e0 ⟨rfl, Stay.refl _⟩
        · intro ev X hT hb hk hf
          refine ⟨true, hf.1, fun _ => ?_, fun h => (h rfl).elim⟩
          have e0 : ev (.tmp 7) = .pointer (some ⟨p5, 0, Option.none⟩) := hk.1
          exact OpOk.load_row _ _ rfl _ e0 _ Xa (0, 0) _ (on_blk_mul (H10.out.below hT).right.right.right.right.right.right.right) hu rfl HsXa.out ⟨rfl, Stay.refl _⟩
        · intro ev X hT hb hk hf
          refine ⟨true, hf.2.1, fun _ => ?_, fun h => (h rfl).elim⟩
          have e0 : ev (.tmp 85) = .agg Xa := hf.1
          refine OpOk.enters (f := 24) (args := #[.agg Xa]) (W' := X) (by simp [execOp, resolve, invoke, e0, hb.1, hb.2.1, go_sem]) ((Hodd.out X).mono ?_)
          rintro e _ ⟨rfl, hB⟩
          exact ⟨_, rfl, rfl, hB⟩
        · intro ev X hT hb hk hf
          refine ⟨true, hf.1, fun _ => ?_, fun h => (h rfl).elim⟩
          have e0 : ev (.tmp 8) = .pointer (some ⟨p5 + 1, 0, Option.none⟩) := hk.1
          exact OpOk.run (v := .pointer (some ⟨p5 + 1, 0, Option.none⟩)) (W' := X) (by simp [execOp, e0, hb.1, go_sem]) ⟨rfl, Stay.refl _⟩
        · intro ev X hT hb hk hf
          refine ⟨true, hf.2.1, fun _ => ?_, fun h => (h rfl).elim⟩
          have e0 : ev (.tmp 87) = .pointer (some ⟨p5 + 1, 0, Option.none⟩) := hf.1
          have cW := (cell_of_row X (p5 + 1) 0 _ _ _ (on_blk_mul (H10.out.below hT).right.right.right.right.right.right)).trans Hd0.out
          exact OpOk.run (v := nv (dg x 0)) (W' := X) (by simp [execOp, e0, cW, go_sem]) ⟨rfl, Stay.refl _⟩
        · intro ev X hT hb hk hf
          refine ⟨true, hf.2.1, fun _ => ?_, fun h => (h rfl).elim⟩
          have e0 : ev (.tmp 88) = nv (dg x 0) := hf.1
          exact OpOk.run (v := .int .i64 ((x % 2 : Nat) : Int)) (W' := X) (by have h9 := Hr2.out; simp [execOp, e0, hb.1, h9, go_sem]) ⟨rfl, Stay.refl _⟩
        · intro ev X hT hb hk hf
          refine ⟨true, hf.2.1, fun _ => ?_, fun h => (h rfl).elim⟩
          have e0 : ev (.tmp 89) = .int .i64 ((x % 2 : Nat) : Int) := hf.1
          exact OpOk.run (v := .bool oo) (W' := X) (by have h9 := Hoo.out; simp [execOp, e0, hb.1, h9, go_sem]) ⟨rfl, Stay.refl _⟩
        · intro ev X hT hb hk hf
          refine ⟨true, hf.2.2.1, fun _ => ?_, fun h => (h rfl).elim⟩
          have e0 : ev (.tmp 86) = .bool oo := hf.1
          have e1 : ev (.tmp 90) = .bool oo := hf.2.1
          exact OpOk.run (v := .bool true) (W' := X) (by simp [execOp, e0, e1, go_sem]) ⟨rfl, Stay.refl _⟩
        · intro ev X hT hb hk hf
          have e0 : ev (.tmp 84) = .bool true := hf.1
          have e1 : ev (.tmp 91) = .bool true := hf.2.1
          exact OpOk.run (v := .bool true) (W' := X) (by simp [execOp, e0, e1, hb, hb.1, hb.2.1, hb.2.2, go_sem]) ⟨rfl, Stay.refl _⟩
        · intro ev X hT hb hk hf
          have e0 : ev (.tmp 92) = .bool true := hf.1
          exact OpOk.assign rfl e0 ⟨rfl, Stay.refl _⟩
      case rest =>
        intro X9 hX
        rintro _ - _ - _ - _ - _ - _ - _ - _ - _ - _ - _ - _ - _ - _ - _ - _ - _ - _ - _ - _ - _ - _ - _ - _ - _ - _ - _ - _ - _ - _ - _ - _ - _ - _ - _ - _ - _ - _ - _ - _ - _ - _ - _ - _ - _ - _ - _ - _ - _ - _ - _ - _ rfl
        have HB := hide (all_below (H10.out.below hX).right.right.right.right.right.right.right.right.right.right.right (S10.out.trans (Str.below hX)))
        clear hX
        go_wp2
        refine Rest.done ?_
        go_wp2_with fail
        go_ret
        exact ⟨rfl, HB.out⟩
end Fe
open Go.ChangeShapes Go.WideShapes Go.ChangeAt Go.RowKit
theorem walk_FieldSums (w : World) (hL : laidMetH Tryd.prog Rows.fieldSumsRow.laid w) (a : Nat) (ha : a < 18446744073709551616 ^ 4) (b : Nat) (hb : b < 18446744073709551616 ^ 4) (c : Nat) (hc : c < 18446744073709551616 ^ 4) :
    Calls Tryd.prog 3 #[.agg (q4 a), .agg (q4 b), .agg (q4 c)] w fun e w' => e = .returned (.bool true) ∧ Below w.heap.size w w' := Fe.walk_FieldSums w hL a ha b hb c hc
namespace lawFieldSums
theorem own : ownKnob Tryd.prog.godebug = Option.none := by kernel_rfl
theorem laidOut : laidOutB Tryd.prog = true := by kernel_rfl

set_option maxRecDepth 100000 in
theorem contract (H : Type) (enc : TypeId × Value → H) (W : World) (base : Nat) (args : Array Value) (ds gs : List (DataW H)) (before : List MemPlace)
    (hval0 : ∀ (j : Nat) t v, Tryd.f3.params[j]? = some t → args[j]? = some v → Value.okWide Tryd.prog W .any base t v)
    (hW : DataW.Whole enc Tryd.prog Tryd.f3.params.toList Rows.fieldSumsSpec.vars false W args.toList ds gs before) (hsz : (DataW.weightsEach Tryd.prog (Tryd.f3.params.toList ++ (OpenSpec.ofChange Rows.fieldSumsSpec).bare.plain.varTypes Tryd.prog) (ds ++ gs)).all (· ≤ reachBytes) = true) (hL : laidMetH Tryd.prog Rows.fieldSumsRow.laid W) :
    Calls Tryd.prog 3 args W fun e W' => ∃ v, e = .returned v ∧ Rows.fieldSumsSpec.post enc Tryd.prog Tryd.f3 false true false false W args v W' := by
  have hval : ∀ (j : Nat) t v, Tryd.f3.params[j]? = some t → args[j]? = some v → Value.okWide Tryd.prog W .any base t v := hval0
  have hW' := hW
  obtain ⟨p, q, hA0, hV, rfl, hfz, hnd⟩ := hW
  have hA : DataW.TrodAll enc Tryd.prog W 0 (fun _ => true) true Tryd.f3.params.toList args.toList ds p := hA0
  rw [Tryd.params3] at hA hval
  obtain ⟨v0, vs0, d0, ds0, p0, q0, hargs, rfl, rfl, h0, r0⟩ := trodAll_cons hA
  obtain ⟨v1, vs1, d1, ds1, p1, q1, rfl, rfl, rfl, h1, r1⟩ := trodAll_cons r0
  obtain ⟨v2, vs2, d2, ds2, p2, q2, rfl, rfl, rfl, h2, r2⟩ := trodAll_cons r1
  obtain ⟨rfl, rfl, rfl⟩ := trodAll_nil r2
  obtain rfl : args = #[v0, v1, v2] := by cases args; simp_all
  obtain ⟨rfl, rfl⟩ := trodVars_none hV
  have k0 := h0
  have lt0 : ∀ x ∈ p0, x.block < W.heap.size := by obtain ⟨m, hm⟩ := k0; exact DataW.trod_lt m _ _ _ hm
  obtain ⟨s0, rfl, b0⟩ := open_limbs (hval 0 23 v0 rfl rfl) h0
  have k1 := h1
  have lt1 : ∀ x ∈ p1, x.block < W.heap.size := by obtain ⟨m, hm⟩ := k1; exact DataW.trod_lt m _ _ _ hm
  obtain ⟨s1, rfl, b1⟩ := open_limbs (hval 1 23 v1 rfl rfl) h1
  have k2 := h2
  have lt2 : ∀ x ∈ p2, x.block < W.heap.size := by obtain ⟨m, hm⟩ := k2; exact DataW.trod_lt m _ _ _ hm
  obtain ⟨s2, rfl, b2⟩ := open_limbs (hval 2 23 v2 rfl rfl) h2
  clear hA0 hval0 hsz
  refine (walk_FieldSums W hL s0 b0 s1 b1 s2 b2).mono fun e W' ⟨he, bel⟩ => ?_
  subst he
  exact ⟨_, rfl, _, _, _, [], _, [], hW', trodAll_mk1 (shut_bool Tryd.underlying4 _), (trodAll_cons_mk (Below.trod laidOut (by kernel_rfl) (of_decide_eq_true (by kernel_rfl)) k0 bel lt0) (trodAll_cons_mk (Below.trod laidOut (by kernel_rfl) (of_decide_eq_true (by kernel_rfl)) k1 bel lt1) (trodAll_cons_mk (Below.trod laidOut (by kernel_rfl) (of_decide_eq_true (by kernel_rfl)) k2 bel lt2) trodAll_mk0))), rfl, bel.frame _, fun h => by cases h⟩

/-- a world for the witness: the settled one, the listed variables holding what their initialisers lay -/
def litCells (d : DataW Unit) : Array Value := match d with
  | .agg l => (l.filterMap fun x => match x with | .lit (.int k n) => some (Value.int k n) | _ => Option.none).toArray
  | _ => #[]
noncomputable def laidWorld (os : Os) : World :=
  { World.holding Tryd.prog os ⟨#[], #[], []⟩ with heap := ((((World.holding Tryd.prog os ⟨#[], #[], []⟩).heap.modify 0 fun
      | .cells _ t frozen => .cells (litCells Rows.laid_bosun_field_modulus) t frozen
      | o => o).modify 2 fun
      | .cells _ t frozen => .cells (litCells Rows.laid_bosun_field_eighth) t frozen
      | o => o).modify 3 fun
      | .cells _ t frozen => .cells (litCells Rows.laid_bosun_field_rootOfMinusOne) t frozen
      | o => o) }
theorem laid_met (os : Os) : laidMet Tryd.prog Rows.fieldSumsRow.laid ((laidWorld os).forCall (fun _ _ => 0) ⟨#[], #[.agg #[.int .u64 0, .int .u64 0, .int .u64 0, .int .u64 0], .agg #[.int .u64 0, .int .u64 0, .int .u64 0, .int .u64 0], .agg #[.int .u64 0, .int .u64 0, .int .u64 0, .int .u64 0]], []⟩).memory :=
  laidMet_of_run' 8 (by kernel_rfl) (by kernel_rfl)
theorem reads (os : Os) {H : Type} (enc : TypeId × Value → H) : ∃ places, DataW.whole enc Tryd.prog ((laidWorld os).forCall (fun _ _ => 0) ⟨#[], #[.agg #[.int .u64 0, .int .u64 0, .int .u64 0, .int .u64 0], .agg #[.int .u64 0, .int .u64 0, .int .u64 0, .int .u64 0], .agg #[.int .u64 0, .int .u64 0, .int .u64 0, .int .u64 0]], []⟩).memory Tryd.f3.params.toList Rows.fieldSumsSpec.vars false (#[.agg #[.int .u64 0, .int .u64 0, .int .u64 0, .int .u64 0], .agg #[.int .u64 0, .int .u64 0, .int .u64 0, .int .u64 0], .agg #[.int .u64 0, .int .u64 0, .int .u64 0, .int .u64 0]] : Array Value).toList 8 = some ([.agg (List.replicate 4 (.lit (.int .u64 0))), .agg (List.replicate 4 (.lit (.int .u64 0))), .agg (List.replicate 4 (.lit (.int .u64 0)))], [], places) :=
  ⟨[], by kernel_rfl⟩

set_option maxRecDepth 100000 in
theorem lifted (os : Os) (started : os.Started) (H : Type) (enc : TypeId × Value → H) (F : Stop.Interp) :
    ReturnsInHanded {} Tryd.checked os 3 .any ((OpenSpec.ofChange Rows.fieldSumsSpec).preRow enc Tryd.prog Tryd.f3 Rows.fieldSumsRow.domain false Rows.fieldSumsRow.laid) (((OpenSpec.ofChange Rows.fieldSumsSpec).at F).post enc Tryd.prog Tryd.f3 false true false false) := by
  obtain ⟨places, hx⟩ := reads os enc
  refine returnsInHanded_of_row (C := Tryd.checked) (s := OpenSpec.ofChange Rows.fieldSumsSpec) own started (by kernel_rfl) Tryd.func3
    (witness_row_at (enc := enc) (C := Tryd.checked) false (laidWorld os) #[.agg #[.int .u64 0, .int .u64 0, .int .u64 0, .int .u64 0], .agg #[.int .u64 0, .int .u64 0, .int .u64 0, .int .u64 0], .agg #[.int .u64 0, .int .u64 0, .int .u64 0, .int .u64 0]] rfl (by kernel_rfl) (by kernel_rfl) (by kernel_rfl)
      (OpenSpec.preRow_of_cond 8 hx (by kernel_rfl) (fun k hk => by cases hk) (by kernel_rfl) (laid_met os))) ?_
  intro W base args ds gs before hval hW _ _ hsz hL _ _
  exact contract H enc W base args ds gs before hval hW hsz hL

theorem said : Rows.FieldSumsSaid :=
  OpenClaim.holds_of_cond 3 Tryd.f3 rfl rfl rfl rfl rfl rfl rfl ⟨rfl, rfl, rfl, rfl, rfl⟩ rfl rfl rfl rfl rfl (by kernel_rfl) Tryd.func3 (by kernel_rfl)
    (of_decide_eq_true (by kernel_rfl)) (by unfold Func.isWrapper; first | (rw [if_pos (by decide +kernel)]; kernel_rfl) | (rw [if_neg (by decide +kernel)]; exact ⟨rfl, rfl⟩))
    (fun os started H enc _ F => by rw [OpenClaim.pre_eq_preRow]; exact lifted os started H enc F)

theorem plain (f : FuncId) (fn : Func) (hf : Tryd.pinned.checked.prog.funcNamed "bosun/bosunlaw05.FieldSums" = some f) (hfn : Tryd.pinned.checked.prog.funcs[f]? = some fn) :
    false = Tryd.pinned.checked.prog.looks [] ∧ ∀ (j : Nat) t, fn.params[j]? = some t → Tryd.pinned.checked.prog.wantsStandIn t = false := by
  obtain rfl : f = 3 := Option.some.inj ((show Tryd.prog.funcNamed "bosun/bosunlaw05.FieldSums" = some 3 by kernel_rfl).symm.trans hf) |>.symm
  obtain rfl : fn = Tryd.f3 := (Option.some.inj (Tryd.func3.symm.trans hfn)).symm
  refine ⟨by kernel_rfl, fun j t ht => ?_⟩
  rw [Tryd.params3] at ht
  have hm : t ∈ [23, 23, 23] := by simpa using Array.mem_of_getElem? ht
  have hall : ∀ t ∈ [23, 23, 23], Tryd.prog.wantsStandIn t = false := by
    intro t ht
    simp only [List.mem_cons, List.not_mem_nil, or_false] at ht
    rcases ht with rfl | rfl | rfl <;> kernel_rfl
  exact hall t hm

theorem proved : Rows.FieldSumsCardSaid :=
  Claim7.holds_tied_plain_at .later [] _ _ _ _ said (fun _ h => by cases h) (by kernel_rfl) (fun _ h => by cases h) fieldSums_row_tie rfl ⟨rfl, rfl⟩ (by kernel_rfl) rfl plain (by kernel_rfl)
end lawFieldSums
end Go.Proofs.YtgkofpfjbjnhfaaDoor
