/- The law ScalarRules: in another order, and of sums, the same; bytes behind others are 256 times each. -/
import Derived.Test.YtgkofpfjbjnhfaaDoorScLaw
import Derived.Test.YtgkofpfjbjnhfaaDoorCards
import Derived.Test.YtgkofpfjbjnhfaaDoorTie
import Derived.Deep.DeepHandedRow
namespace Go.Proofs.YtgkofpfjbjnhfaaDoor
open Go.ChangeShapes Go.WideShapes Go.ChangeAt Go.RowKit
set_option linter.unusedVariables false
set_option linter.unusedSimpArgs false

theorem star_2_1 (P Q R : SP) : P * (Q * R) = Q * (P * R) := SP.mul_left_comm P Q R
theorem star_3_1 (P Q T R : SP) : P * (Q * (T * R)) = Q * (P * (T * R)) := SP.mul_left_comm P Q _
theorem star_3_2 (P Q T R : SP) : P * (Q * (T * R)) = T * (P * (Q * R)) := by ac_rfl
theorem run_app_arr (w : World) (g1 g2 : Nat) (l1 l2 : List UInt8) (t : TypeId) (h1 : w.heap[g1]? = some (.cells (zb l1) t (0, 0))) (h2 : w.heap[g2]? = some (.cells (zb l2) t (0, 0))) (e1 : l1.length = 32) (e2 : l2.length = 32) :
    ∃ v' w', (Builtin.append_ #[63, 63] 63 #[.slice (some ⟨g1, 0, Option.none⟩) 32 32, .slice (some ⟨g2, 0, Option.none⟩) 32 32]).run Tryd.prog w = .ok v' w' ∧ IsBytes w' v' (l1 ++ l2) ∧ Stay w w' := by
  obtain ⟨i, hq, hz, hsz, hby⟩ := info_some infoU86
  have c : ∀ g (l : List UInt8), w.heap[g]? = some (.cells (zb l) t (0, 0)) → ∀ j v, (vbs l)[j]? = some v → w.cell? ((⟨g, 0, Option.none⟩ : Addr).add j) = some v := fun g l h j v hv => by
    have ea : (⟨g, 0, Option.none⟩ : Addr).add j = ⟨g, j, Option.none⟩ := by unfold Addr.add; split <;> simp_all
    rw [ea, cell_of_row w g j _ _ _ h]
    simpa [zb] using hv
  have hr := run_append_grow (P := Tryd.prog) (w := w) 63 63 5 i (.int .u8 0) Tryd.underlying63 hq hz ⟨g1, 0, Option.none⟩ 32 32 (vbs l1) (by rw [hsz]; simp [e1]) (c g1 l1 h1) ⟨g2, 0, Option.none⟩ 32 32 (vbs l2) (by rw [hsz]; simp [e2]) (c g2 l2 h2) (by omega) (by omega) (growslice_fits (by omega) (by rw [hby]; omega))
  have hge := grownCap_ge w (32 + 32) 32 5
  have hle := grownCap_le_maxLen w (32 + 32) 32 5 (by unfold maxLen; omega)
  refine ⟨_, _, hr, ?_, (Below.refl _ _).drew.alloc (by simp) _⟩
  have hlen : (l1 ++ l2).length = 32 + 32 := by rw [List.length_append, e1, e2]
  refine ⟨some ⟨w.heap.size, 0, Option.none⟩, grownCap w (32 + 32) 32 5, by rw [hlen], by rw [hlen]; exact hge, hle, ?_, fun h => (nomatch h)⟩
  intro j v hv
  refine ⟨_, _, rfl, ?_⟩
  have hg := heap_alloc_new w.drew (.cells ((vbs l1).toArray ++ (vbs l2).toArray ++ Builtin.zeroCells (Value.int IntKind.u8 0).cells (grownCap w (32 + 32) 32 5 - (32 + 32))) 5)
  rw [Nat.zero_add]
  refine (cell_of_row _ w.heap.size j _ _ _ hg).trans ?_
  have hjl := (List.getElem?_eq_some_iff.1 hv).1
  simp only [vbl, List.length_append] at hjl
  rw [Array.getElem?_append_left (by simp only [Array.size_append, List.size_toArray, vbl]; exact hjl)]
  rw [show (vbs l1).toArray ++ (vbs l2).toArray = (vbs (l1 ++ l2)).toArray by simp [vbs]]
  simpa using hv
theorem qo4 : q4 1 = #[.int .u64 1, .int .u64 0, .int .u64 0, .int .u64 0] := by rw [show q4 1 = lvs (qs 4 1) from rfl, show qs 4 1 = [1, 0, 0, 0] by decide]; rfl
theorem rul_bytes (x y : Nat) (hx : x < 18446744073709551616 ^ 4) (hy : y < 18446744073709551616 ^ 4) : leN (wbs (qs 4 x) ++ wbs (qs 4 y)) % O6 = (x + 256 ^ 32 % O6 * y % O6) % O6 := by
  rw [leN_append, leN_q4 x hx, leN_q4 y hy, wbs_len, qs_len, Nat.mod_mul_mod, Nat.add_mod_mod]
theorem rul_dist (x y z : Nat) : x * ((y + z) % O6) % O6 = (x * y % O6 + x * z % O6) % O6 := by
  rw [Nat.mul_mod_mod, ← Nat.add_mod, Nat.mul_add]

set_option maxRecDepth 100000 in
set_option maxHeartbeats 16000000 in
theorem walk_ScalarRules (w : World) (hL : laidMetH Tryd.prog Rows.scalarRulesRow.laid w) (a : Nat) (ha : a < 18446744073709551616 ^ 4) (b : Nat) (hb : b < 18446744073709551616 ^ 4) (c : Nat) (hc : c < 18446744073709551616 ^ 4) :
    Calls Tryd.prog 10 #[.agg (q4 a), .agg (q4 b), .agg (q4 c)] w fun e w' => e = .returned (.bool true) ∧ Below w.heap.size w w' := by
  have hO : TabO w := tabO_of_laid hL
  clear hL
  have hu := Tryd.underlying23
  have hun := Tryd.underlying58
  have hu32 := Tryd.underlying48
  have hzn : ∀ w, (zeroValue 58).run Tryd.prog w = .ok (.agg (q4 0)) w := fun w => by rw [qz4]; kernel_rfl
  have hz32 : ∀ w, (zeroValue 48).run Tryd.prog w = .ok (.agg (zb (List.replicate 32 0))) w := fun w => by kernel_rfl
  have hb0 : ∀ w, (Instr.build 58 #[]).run Tryd.prog w = .ok (.agg (q4 0)) w := fun w => by rw [qz4]; kernel_rfl
  have hb1 : ∀ w, (Instr.build 58 #[(0, .int .u64 1)]).run Tryd.prog w = .ok (.agg (q4 1)) w := fun w => by rw [show q4 1 = lvs (qs 4 1) from rfl, show qs 4 1 = [1, 0, 0, 0] by decide]; kernel_rfl
  have Hs : Hid (∀ n, (Tryd.prog.info? 23).map (·.size) = some (q4 n).size) := hide fun n => by rw [q4_size]; kernel_rfl
  have Hsn : Hid (∀ n, (Tryd.prog.info? 58).map (·.size) = some (q4 n).size) := hide fun n => by rw [q4_size]; kernel_rfl
  have Hgd : Hid (Tryd.prog.eqGuardType Tryd.prog.depth 58 = false) := hide (by kernel_rfl)
  have h0 := (((on_all w).alloc (.cells (q4 a) 23)).alloc (.cells (q4 b) 23)).alloc (.cells (q4 c) 23)
  have hs0 := (((Str.refl w).alloc (.cells (q4 a) 23)).alloc (.cells (q4 b) 23)).alloc (.cells (q4 c) 23)
  simp only [World.size_alloc] at h0
  have H0 := hide h0
  have HS0 := hide hs0
  have HO := hide hO
  have HB0 := hide (all_below h0.right.right.right hs0)
  have Hna := hide (fun X => num_any a ha X)
  have Hnb := hide (fun X => num_any b hb X)
  have Hnc := hide (fun X => num_any c hc X)
  have hO4 : O6 < 18446744073709551616 ^ 4 := by decide
  have ltO : ∀ n : Nat, n % O6 < 18446744073709551616 ^ 4 := fun n => Nat.lt_trans (Nat.mod_lt _ (by decide)) hO4
  have hx := ltO a
  have hy := ltO b
  have hz := ltO c
  have hxO : a % O6 % O6 = a % O6 := Nat.mod_mod _ _
  have HsA := hide (Hs.out a)
  have HsB := hide (Hs.out b)
  have HsC := hide (Hs.out c)
  clear h0 hs0 hO ha hb hc
  obtain ⟨x, hxd⟩ : ∃ x, x = a % O6 := ⟨_, rfl⟩
  obtain ⟨y, hyd⟩ : ∃ y, y = b % O6 := ⟨_, rfl⟩
  obtain ⟨z, hzd⟩ : ∃ z, z = c % O6 := ⟨_, rfl⟩
  rw [← hxd] at Hna hx hxO
  rw [← hyd] at Hnb hy
  rw [← hzd] at Hnc hz
  clear hxd hyd hzd
  -- the sums and products
  have Hxy := hide (fun X h => add_any x y hx hy X h)
  have Hyx := hide (fun X h => add_any y x hy hx X h)
  rw [Nat.add_comm y x] at Hyx
  have Pxy := hide (fun X h => mul_any x y hx hy X h)
  have Pyx := hide (fun X h => mul_any y x hy hx X h)
  rw [Nat.mul_comm y x] at Pyx
  have Hyz := hide (fun X h => add_any y z hy hz X h)
  have Pxs := hide (fun X h => mul_any x ((y + z) % O6) hx (ltO _) X h)
  have Pxz := hide (fun X h => mul_any x z hx hz X h)
  have Hpp := hide (fun X h => add_any (x * y % O6) (x * z % O6) (ltO _) (ltO _) X h)
  rw [← rul_dist x y z] at Hpp
  have Hx0 := hide (fun X h => add_any x 0 hx (by decide) X h)
  rw [Nat.add_zero, hxO] at Hx0
  have Px1 := hide (fun X h => mul_any x 1 hx (by decide) X h)
  rw [Nat.mul_one, hxO] at Px1
  have Pfy := hide (fun X h => mul_any (256 ^ 32 % O6) y (ltO _) hy X h)
  have Hxf := hide (fun X h => add_any x (256 ^ 32 % O6 * y % O6) hx (ltO _) X h)
  have Hfar : Hid (∀ k X, TabO X → Calls Tryd.prog 42 #[.agg (q4 (256 ^ k % O6)), .agg (q4 256)] X fun e w' => e = .returned (.agg (q4 (256 ^ (k + 1) % O6))) ∧ Below X.heap.size X w') := hide fun k X h => by
    have := mul_any (256 ^ k % O6) 256 (ltO _) (by decide) X h
    rwa [Nat.mod_mul_mod, ← Nat.pow_succ] at this
  have Hrd : Hid (∀ v X, IsBytes X v (wbs (qs 4 x) ++ wbs (qs 4 y)) → TabO X → Calls Tryd.prog 46 #[v] X fun e w' => e = .returned (.agg (q4 ((x + 256 ^ 32 % O6 * y % O6) % O6))) ∧ Below X.heap.size X w') := hide fun v X h1 h2 => by
    have := reduce_any v _ X h1 h2 (by rw [List.length_append, wbs_len, wbs_len, qs_len, qs_len]; omega)
    rwa [rul_bytes x y hx hy] at this
  have Ex := hide (fun X => enc_any x X)
  have Ey := hide (fun X => enc_any y X)
  have lx := wbs_len (qs 4 x)
  rw [qs_len] at lx
  have ly := wbs_len (qs 4 y)
  rw [qs_len] at ly
  have Lx := hide lx
  have Ly := hide ly
  have HE1 := hide (fun X => eq_q4 X 9998 58 hun _ _ (ltO (x + y)) (ltO (x + y)))
  have HE2 := hide (fun X => eq_q4 X 9998 58 hun _ _ (ltO (x * y)) (ltO (x * y)))
  have HE3 := hide (fun X => eq_q4 X 9998 58 hun _ _ (ltO (x * ((y + z) % O6))) (ltO (x * ((y + z) % O6))))
  have HE4 := hide (fun X => eq_q4 X 9998 58 hun _ _ hx hx)
  have HE5 := hide (fun X => eq_q4 X 9998 58 hun _ _ (ltO (x + 256 ^ 32 % O6 * y % O6)) (ltO (x + 256 ^ 32 % O6 * y % O6)))
  have HsX := hide (Hsn.out x)
  have HsY := hide (Hsn.out y)
  have HsZ := hide (Hsn.out z)
  have HoX : Hid ((q4 x).all (·.oneCell') = true) := hide (lvs_one _)
  have HoY : Hid ((q4 y).all (·.oneCell') = true) := hide (lvs_one _)
  have HoZ : Hid ((q4 z).all (·.oneCell') = true) := hide (lvs_one _)
  have HzX : Hid ((q4 0).size = (q4 x).size) := hide (by rw [q4_size, q4_size])
  have HzY : Hid ((q4 0).size = (q4 y).size) := hide (by rw [q4_size, q4_size])
  have HzZ : Hid ((q4 0).size = (q4 z).size) := hide (by rw [q4_size, q4_size])
  have sz32 : ∀ l : List UInt8, l.length = 32 → (zb l).size = 32 := fun l h => by simp [zb, vbs, h]
  have HsPx : Hid ((Tryd.prog.info? 48).map (·.size) = some (zb (wbs (qs 4 x))).size) := hide (by rw [sz32 _ lx]; kernel_rfl)
  have HsPy : Hid ((Tryd.prog.info? 48).map (·.size) = some (zb (wbs (qs 4 y))).size) := hide (by rw [sz32 _ ly]; kernel_rfl)
  have HzPx : Hid ((zb (List.replicate 32 0)).size = (zb (wbs (qs 4 x))).size) := hide (by rw [sz32 _ lx]; rfl)
  have HzPy : Hid ((zb (List.replicate 32 0)).size = (zb (wbs (qs 4 y))).size) := hide (by rw [sz32 _ ly]; rfl)
  have HoPx := hide (zb_one (wbs (qs 4 x)))
  have HoPy := hide (zb_one (wbs (qs 4 y)))
  have Happ := hide (fun X g1 g2 h1 h2 => run_app_arr X g1 g2 (wbs (qs 4 x)) (wbs (qs 4 y)) 48 h1 h2 lx ly)
  generalize wbs (qs 4 x) = bx at *
  generalize wbs (qs 4 y) = yb at *
  generalize hpx : zb bx = PX at *
  generalize hpy : zb yb = PY at *
  generalize zb (List.replicate 32 0) = ZB at *
  generalize q4 a = A4 at *
  generalize q4 b = B4 at *
  generalize q4 c = C4 at *
  generalize q4 x = XA at *
  generalize q4 y = YB at *
  generalize q4 z = ZC at *
  have hxyD : ∀ n, q4 n = q4 n := fun _ => rfl
  clear hx hy hz hxO lx ly hO4 ltO sz32 hpx hpy hxyD
  go_enter Tryd.func10, Tryd.ntmps10
  go_wp2_with fail
  generalize ((w.alloc (.cells A4 23)).alloc (.cells B4 23)).alloc (.cells C4 23) = w1 at *
  refine (lives06_any _ (HO.out.below HB0.out)).mono ?_
  rintro e w2 ⟨rfl, hB2⟩
  have H2 := hide (H0.out.below hB2)
  have HS2 := hide (HS0.out.trans (Str.below hB2))
  clear hB2 H0 HS0 HB0
  go_wp2_with fail
  refine Multi2.wp_region_multi [6, 7, 8, 9, 10, 11] [6, 7, 8] [9, 10, 11] [isV (.agg A4), isV (.agg XA), isV (.agg B4), isV (.agg YB), isV (.agg C4), isV (.agg ZC), (fun _ _ => True), (fun _ _ => True), (fun _ _ => True), (fun _ _ => True), (fun _ _ => True), (fun _ _ => True)]
    (by kernel_rfl) (by kernel_rfl) (by kernel_rfl) ⟨rfl, rfl, rfl, trivial⟩ (fun f s X => (Multi2.opt (f 6) (Multi2.bv (s 6) (.cells (if f 9 = true then XA else (q4 0)) 58 (0, 0))) * (Multi2.opt (f 7) (Multi2.bv (s 7) (.cells (if f 10 = true then YB else (q4 0)) 58 (0, 0))) * (Multi2.opt (f 8) (Multi2.bv (s 8) (.cells (if f 11 = true then ZC else (q4 0)) 58 (0, 0))) * ((blk (w.heap.size + 1 + 1) (.cells C4 23 (0, 0)) * (blk (w.heap.size + 1) (.cells B4 23 (0, 0)) * (blk w.heap.size (.cells A4 23 (0, 0)) * all w))))))).on X ∧ Str w X) (fun _ => ⟨on_emp_mul.2 (on_emp_mul.2 (on_emp_mul.2 (SP.on.drew H2.out))), Str.drew HS2.out⟩) (fun f s a b h st => ⟨h.1.below st, h.2.trans (Str.below st)⟩) (fun f g s t X h h9 hI => by
      have e6 := h 6 rfl
      have e7 := h 7 rfl
      have e8 := h 8 rfl
      have e9 := h 9 rfl
      have e10 := h 10 rfl
      have e11 := h 11 rfl
      have i6 := h9 6 rfl
      have i7 := h9 7 rfl
      have i8 := h9 8 rfl
      rw [← e6, ← e7, ← e8, ← e9, ← e10, ← e11]
      refine ⟨?_, hI.2⟩
      have := hI.1
      revert this i6 i7 i8
      cases f 6 <;> cases f 7 <;> cases f 8 <;> intro i6 i7 i8 <;> simp_all [Multi2.opt]) ?keep ?todo ?rest (by decide) (by decide)
  case keep => exact ⟨Keep.isV _, Keep.isV _, Keep.isV _, Keep.isV _, Keep.isV _, Keep.isV _, fun _ _ _ h _ => h, fun _ _ _ h _ => h, fun _ _ _ h _ => h, fun _ _ _ h _ => h, fun _ _ _ h _ => h, fun _ _ _ h _ => h, trivial⟩
  case todo =>
    refine ⟨?_, ?_, ?_, ?_, ?_, ?_, ?_, ?_, ?_, ?_, ?_, ?_, trivial⟩
    · intro f hf0 hw hn ev X hT hb hk hf
      have e0 : ev (.tmp 3) = .pointer (some ⟨w.heap.size, 0, Option.none⟩) := by have h9 := hk.1; rw [if_pos (by kernel_rfl)] at h9; exact h9
      exact OpOk.load_row _ _ rfl _ e0 _ A4 (0, 0) _ (on_blk_mul (hT.1.right.right.right.right.right)) hu rfl HsA.out (Multi2.ended_stay rfl rfl (Stay.refl _))
    · intro f hf0 hw hn ev X hT hb hk hf
      have e0 : ev (.tmp 15) = .agg A4 := hf.1
      refine OpOk.enters (f := 39) (args := #[.agg A4]) (W' := X) (by simp [execOp, resolve, invoke, e0, hb.1, hb.2.1, go_sem]) ((Hna.out X).mono ?_)
      rintro e _ ⟨rfl, hB⟩
      exact ⟨_, rfl, Multi2.ended_stay rfl rfl hB⟩
    · intro f hf0 hw hn ev X hT hb hk hf
      have e0 : ev (.tmp 4) = .pointer (some ⟨w.heap.size + 1, 0, Option.none⟩) := by have h9 := hk.1; rw [if_pos (by kernel_rfl)] at h9; exact h9
      exact OpOk.load_row _ _ rfl _ e0 _ B4 (0, 0) _ (on_blk_mul (hT.1.right.right.right.right)) hu rfl HsB.out (Multi2.ended_stay rfl rfl (Stay.refl _))
    · intro f hf0 hw hn ev X hT hb hk hf
      have e0 : ev (.tmp 17) = .agg B4 := hf.1
      refine OpOk.enters (f := 39) (args := #[.agg B4]) (W' := X) (by simp [execOp, resolve, invoke, e0, hb.1, hb.2.1, go_sem]) ((Hnb.out X).mono ?_)
      rintro e _ ⟨rfl, hB⟩
      exact ⟨_, rfl, Multi2.ended_stay rfl rfl hB⟩
    · intro f hf0 hw hn ev X hT hb hk hf
      have e0 : ev (.tmp 5) = .pointer (some ⟨w.heap.size + 1 + 1, 0, Option.none⟩) := by have h9 := hk.1; rw [if_pos (by kernel_rfl)] at h9; exact h9
      exact OpOk.load_row _ _ rfl _ e0 _ C4 (0, 0) _ (on_blk_mul (hT.1.right.right.right)) hu rfl HsC.out (Multi2.ended_stay rfl rfl (Stay.refl _))
    · intro f hf0 hw hn ev X hT hb hk hf
      have e0 : ev (.tmp 19) = .agg C4 := hf.1
      refine OpOk.enters (f := 39) (args := #[.agg C4]) (W' := X) (by simp [execOp, resolve, invoke, e0, hb.1, hb.2.1, go_sem]) ((Hnc.out X).mono ?_)
      rintro e _ ⟨rfl, hB⟩
      exact ⟨_, rfl, Multi2.ended_stay rfl rfl hB⟩
    · intro f hf0 hw hn ev X hT hb hk hf
      have fs : f 9 = false := hn 9 (by kernel_rfl)
      have hX := hT.1
      rw [hf0, Multi2.opt_false] at hX
      have hX2 := (on_emp_mul.1 hX).alloc (.cells (q4 0) 58 (0, 0))
      exact OpOk.run (v := .pointer (some ⟨X.heap.size, 0, Option.none⟩)) (W' := X.alloc (.cells (q4 0) 58)) (by simp [execOp, hzn, go_sem]) (Multi2.ended_turn rfl trivial ⟨by
        show (Multi2.opt true (Multi2.bv (.pointer (some ⟨X.heap.size, 0, Option.none⟩)) (.cells (if f 9 = true then XA else (q4 0)) 58 (0, 0))) * _).on _
        rw [fs]
        exact Multi2.blk_bv hX2, hT.2.alloc _⟩ (Multi2.free_keep (by
        intro P hP
        simp only [List.mem_cons, List.not_mem_nil, or_false] at hP
        rcases hP with rfl | rfl | rfl | rfl | rfl | rfl | rfl | rfl | rfl | rfl | rfl | rfl <;> exact fun _ _ _ h => h) _ _))
    · intro f hf0 hw hn ev X hT hb hk hf
      have fs : f 10 = false := hn 10 (by kernel_rfl)
      have hX := hT.1
      rw [hf0, Multi2.opt_false, star_3_1] at hX
      have hX2 := (on_emp_mul.1 hX).alloc (.cells (q4 0) 58 (0, 0))
      exact OpOk.run (v := .pointer (some ⟨X.heap.size, 0, Option.none⟩)) (W' := X.alloc (.cells (q4 0) 58)) (by simp [execOp, hzn, go_sem]) (Multi2.ended_turn rfl trivial ⟨by
        show (_ * (Multi2.opt true (Multi2.bv (.pointer (some ⟨X.heap.size, 0, Option.none⟩)) (.cells (if f 10 = true then YB else (q4 0)) 58 (0, 0))) * _)).on _
        rw [fs, star_3_1]
        exact Multi2.blk_bv hX2, hT.2.alloc _⟩ (Multi2.free_keep (by
        intro P hP
        simp only [List.mem_cons, List.not_mem_nil, or_false] at hP
        rcases hP with rfl | rfl | rfl | rfl | rfl | rfl | rfl | rfl | rfl | rfl | rfl | rfl <;> exact fun _ _ _ h => h) _ _))
    · intro f hf0 hw hn ev X hT hb hk hf
      have fs : f 11 = false := hn 11 (by kernel_rfl)
      have hX := hT.1
      rw [hf0, Multi2.opt_false, star_3_2] at hX
      have hX2 := (on_emp_mul.1 hX).alloc (.cells (q4 0) 58 (0, 0))
      exact OpOk.run (v := .pointer (some ⟨X.heap.size, 0, Option.none⟩)) (W' := X.alloc (.cells (q4 0) 58)) (by simp [execOp, hzn, go_sem]) (Multi2.ended_turn rfl trivial ⟨by
        show (_ * (_ * (Multi2.opt true (Multi2.bv (.pointer (some ⟨X.heap.size, 0, Option.none⟩)) (.cells (if f 11 = true then ZC else (q4 0)) 58 (0, 0))) * _))).on _
        rw [fs, star_3_2]
        exact Multi2.blk_bv hX2, hT.2.alloc _⟩ (Multi2.free_keep (by
        intro P hP
        simp only [List.mem_cons, List.not_mem_nil, or_false] at hP
        rcases hP with rfl | rfl | rfl | rfl | rfl | rfl | rfl | rfl | rfl | rfl | rfl | rfl <;> exact fun _ _ _ h => h) _ _))
    · intro f hf0 hw hn ev X hT hb hk hf
      have e0 := hf.1
      have e1 : ev (.tmp 16) = .agg XA := hf.2.1
      have fa : f 6 = true := hw 6 (by kernel_rfl)
      have hX := hT.1
      rw [fa, hf0] at hX
      have hX' : (Multi2.bv (ev (.tmp 7)) (.cells (q4 0) 58 (0, 0)) * _).on X := hX
      obtain ⟨g, hg, hX2⟩ := Multi2.bv_blk hX'
      exact OpOk.store_agg _ _ _ rfl g XA hg e1 _ (q4 0) hX2 HsX.out HzX.out HoX.out (fun h3 => Multi2.ended_turn rfl trivial ⟨by
        show (Multi2.opt (f 6) (Multi2.bv (ev (.tmp 7)) (.cells XA 58 (0, 0))) * _).on _
        rw [fa, hg]
        exact Multi2.blk_bv h3, hT.2.setRow _ _⟩ (Multi2.free_keep (by
        intro P hP
        simp only [List.mem_cons, List.not_mem_nil, or_false] at hP
        rcases hP with rfl | rfl | rfl | rfl | rfl | rfl | rfl | rfl | rfl | rfl | rfl | rfl <;> exact fun _ _ _ h => h) _ _))
    · intro f hf0 hw hn ev X hT hb hk hf
      have e0 := hf.1
      have e1 : ev (.tmp 18) = .agg YB := hf.2.1
      have fa : f 7 = true := hw 7 (by kernel_rfl)
      have hX := hT.1
      rw [fa, hf0, star_3_1] at hX
      have hX' : (Multi2.bv (ev (.tmp 8)) (.cells (q4 0) 58 (0, 0)) * _).on X := hX
      obtain ⟨g, hg, hX2⟩ := Multi2.bv_blk hX'
      exact OpOk.store_agg _ _ _ rfl g YB hg e1 _ (q4 0) hX2 HsY.out HzY.out HoY.out (fun h3 => Multi2.ended_turn rfl trivial ⟨by
        show (_ * (Multi2.opt (f 7) (Multi2.bv (ev (.tmp 8)) (.cells YB 58 (0, 0))) * _)).on _
        rw [fa, hg, star_3_1]
        exact Multi2.blk_bv h3, hT.2.setRow _ _⟩ (Multi2.free_keep (by
        intro P hP
        simp only [List.mem_cons, List.not_mem_nil, or_false] at hP
        rcases hP with rfl | rfl | rfl | rfl | rfl | rfl | rfl | rfl | rfl | rfl | rfl | rfl <;> exact fun _ _ _ h => h) _ _))
    · intro f hf0 hw hn ev X hT hb hk hf
      have e0 := hf.1
      have e1 : ev (.tmp 20) = .agg ZC := hf.2.1
      have fa : f 8 = true := hw 8 (by kernel_rfl)
      have hX := hT.1
      rw [fa, hf0, star_3_2] at hX
      have hX' : (Multi2.bv (ev (.tmp 9)) (.cells (q4 0) 58 (0, 0)) * _).on X := hX
      obtain ⟨g, hg, hX2⟩ := Multi2.bv_blk hX'
      exact OpOk.store_agg _ _ _ rfl g ZC hg e1 _ (q4 0) hX2 HsZ.out HzZ.out HoZ.out (fun h3 => Multi2.ended_turn rfl trivial ⟨by
        show (_ * (_ * (Multi2.opt (f 8) (Multi2.bv (ev (.tmp 9)) (.cells ZC 58 (0, 0))) * _))).on _
        rw [fa, hg, star_3_2]
        exact Multi2.blk_bv h3, hT.2.setRow _ _⟩ (Multi2.free_keep (by
        intro P hP
        simp only [List.mem_cons, List.not_mem_nil, or_false] at hP
        rcases hP with rfl | rfl | rfl | rfl | rfl | rfl | rfl | rfl | rfl | rfl | rfl | rfl <;> exact fun _ _ _ h => h) _ _))
  case rest =>
    intro X s hI
    rintro _ ⟨-, rfl⟩ _ ⟨-, rfl⟩ _ ⟨-, rfl⟩ _ ⟨-, rfl⟩ _ ⟨-, rfl⟩ _ ⟨-, rfl⟩ v7 ⟨h7, -⟩ v8 ⟨h8, -⟩ v9 ⟨h9, -⟩ _ - _ - _ -
    replace h7 := h7 rfl
    replace h8 := h8 rfl
    replace h9 := h9 rfl
    obtain ⟨hX, hSX⟩ := hI
    have hX' : (Multi2.bv (s 6) (.cells XA 58 (0, 0)) * (Multi2.bv (s 7) (.cells YB 58 (0, 0)) * (Multi2.bv (s 8) (.cells ZC 58 (0, 0)) * (blk (w.heap.size + 1 + 1) (.cells C4 23 (0, 0)) * (blk (w.heap.size + 1) (.cells B4 23 (0, 0)) * (blk w.heap.size (.cells A4 23 (0, 0)) * all w)))))).on X := hX
    rw [← h7, ← h8, ← h9] at hX'
    obtain ⟨g7, rfl, hX2⟩ := Multi2.bv_blk hX'
    rw [star_2_1] at hX2
    obtain ⟨g8, rfl, hX3⟩ := Multi2.bv_blk hX2
    rw [star_3_2] at hX3
    obtain ⟨g9, rfl, hX4⟩ := Multi2.bv_blk hX3
    have H3 := hide (show (blk g9 (.cells ZC 58 (0, 0)) * (blk g8 (.cells YB 58 (0, 0)) * (blk g7 (.cells XA 58 (0, 0)) * all w))).on X from by
      have e : ∀ P Q T R : SP, P * (Q * (T * R)) = R * (P * (Q * T)) := fun P Q T R => by ac_rfl
      exact (SP.le.mul (SP.le.refl _) (SP.le.mul (SP.le.refl _) (SP.le.mul (SP.le.refl _) ((SP.le_right _ _).trans ((SP.le_right _ _).trans (SP.le_right _ _)))))).on hX4)
    have HS3 := hide hSX
    clear hX hX' hX2 hX3 hX4 h7 h8 h9 hSX H2 HS2
    go_wp2
    refine Rest.done ?_
    clear s
    go_wp2_with fail
    refine Multi2.wp_region_multi [4, 5, 6, 7] [4, 5] [6, 7] [isV (.agg XA), isV (.agg PX), isV (.agg YB), isV (.agg PY), (fun _ _ => True), (fun _ _ => True), (fun _ _ => True), (fun _ _ => True)]
      (by kernel_rfl) (by kernel_rfl) (by kernel_rfl) ⟨rfl, rfl, trivial⟩ (fun f s X => (Multi2.opt (f 4) (Multi2.bv (s 4) (.cells (if f 6 = true then PX else ZB) 48 (0, 0))) * (Multi2.opt (f 5) (Multi2.bv (s 5) (.cells (if f 7 = true then PY else ZB) 48 (0, 0))) * ((blk g9 (.cells ZC 58 (0, 0)) * (blk g8 (.cells YB 58 (0, 0)) * (blk g7 (.cells XA 58 (0, 0)) * all w)))))).on X ∧ Str w X) (fun _ => ⟨on_emp_mul.2 (on_emp_mul.2 (SP.on.drew H3.out)), Str.drew HS3.out⟩) (fun f s a b h st => ⟨h.1.below st, h.2.trans (Str.below st)⟩) (fun f g s t X h h9 hI => by
      have e4 := h 4 rfl
      have e5 := h 5 rfl
      have e6 := h 6 rfl
      have e7 := h 7 rfl
      have i4 := h9 4 rfl
      have i5 := h9 5 rfl
      rw [← e4, ← e5, ← e6, ← e7]
      refine ⟨?_, hI.2⟩
      have := hI.1
      revert this i4 i5
      cases f 4 <;> cases f 5 <;> intro i4 i5 <;> simp_all [Multi2.opt]) ?keep ?todo ?rest (by decide) (by decide)
    case keep => exact ⟨Keep.isV _, Keep.isV _, Keep.isV _, Keep.isV _, fun _ _ _ h _ => h, fun _ _ _ h _ => h, fun _ _ _ h _ => h, fun _ _ _ h _ => h, trivial⟩
    case todo =>
      refine ⟨?_, ?_, ?_, ?_, ?_, ?_, ?_, ?_, trivial⟩
      · intro f hf0 hw hn ev X hT hb hk hf
        have e0 : ev (.tmp 7) = .pointer (some ⟨g7, 0, Option.none⟩) := by have h9 := hk.1; rw [if_pos (by kernel_rfl)] at h9; exact h9
        exact OpOk.load_row _ _ rfl _ e0 _ XA (0, 0) _ (on_blk_mul (hT.1.right.right.right.right)) hun rfl HsX.out (Multi2.ended_stay rfl rfl (Stay.refl _))
      · intro f hf0 hw hn ev X hT hb hk hf
        have e0 : ev (.tmp 21) = .agg XA := hf.1
        refine OpOk.enters (f := 49) (args := #[.agg XA]) (W' := X) (by simp [execOp, resolve, invoke, e0, hb.1, hb.2.1, go_sem]) ((Ex.out X).mono ?_)
        rintro e _ ⟨rfl, hB⟩
        exact ⟨_, rfl, Multi2.ended_stay rfl rfl hB⟩
      · intro f hf0 hw hn ev X hT hb hk hf
        have e0 : ev (.tmp 8) = .pointer (some ⟨g8, 0, Option.none⟩) := by have h9 := hk.1; rw [if_pos (by kernel_rfl)] at h9; exact h9
        exact OpOk.load_row _ _ rfl _ e0 _ YB (0, 0) _ (on_blk_mul (hT.1.right.right.right)) hun rfl HsY.out (Multi2.ended_stay rfl rfl (Stay.refl _))
      · intro f hf0 hw hn ev X hT hb hk hf
        have e0 : ev (.tmp 23) = .agg YB := hf.1
        refine OpOk.enters (f := 49) (args := #[.agg YB]) (W' := X) (by simp [execOp, resolve, invoke, e0, hb.1, hb.2.1, go_sem]) ((Ey.out X).mono ?_)
        rintro e _ ⟨rfl, hB⟩
        exact ⟨_, rfl, Multi2.ended_stay rfl rfl hB⟩
      · intro f hf0 hw hn ev X hT hb hk hf
        have fs : f 6 = false := hn 6 (by kernel_rfl)
        have hX := hT.1
        rw [hf0, Multi2.opt_false] at hX
        have hX2 := (on_emp_mul.1 hX).alloc (.cells ZB 48 (0, 0))
        exact OpOk.run (v := .pointer (some ⟨X.heap.size, 0, Option.none⟩)) (W' := X.alloc (.cells ZB 48)) (by simp [execOp, hz32, go_sem]) (Multi2.ended_turn rfl trivial ⟨by
          show (Multi2.opt true (Multi2.bv (.pointer (some ⟨X.heap.size, 0, Option.none⟩)) (.cells (if f 6 = true then PX else ZB) 48 (0, 0))) * _).on _
          rw [fs]
          exact Multi2.blk_bv hX2, hT.2.alloc _⟩ (Multi2.free_keep (by
          intro P hP
          simp only [List.mem_cons, List.not_mem_nil, or_false] at hP
          rcases hP with rfl | rfl | rfl | rfl | rfl | rfl | rfl | rfl <;> exact fun _ _ _ h => h) _ _))
      · intro f hf0 hw hn ev X hT hb hk hf
        have fs : f 7 = false := hn 7 (by kernel_rfl)
        have hX := hT.1
        rw [hf0, Multi2.opt_false, star_2_1] at hX
        have hX2 := (on_emp_mul.1 hX).alloc (.cells ZB 48 (0, 0))
        exact OpOk.run (v := .pointer (some ⟨X.heap.size, 0, Option.none⟩)) (W' := X.alloc (.cells ZB 48)) (by simp [execOp, hz32, go_sem]) (Multi2.ended_turn rfl trivial ⟨by
          show (_ * (Multi2.opt true (Multi2.bv (.pointer (some ⟨X.heap.size, 0, Option.none⟩)) (.cells (if f 7 = true then PY else ZB) 48 (0, 0))) * _)).on _
          rw [fs, star_2_1]
          exact Multi2.blk_bv hX2, hT.2.alloc _⟩ (Multi2.free_keep (by
          intro P hP
          simp only [List.mem_cons, List.not_mem_nil, or_false] at hP
          rcases hP with rfl | rfl | rfl | rfl | rfl | rfl | rfl | rfl <;> exact fun _ _ _ h => h) _ _))
      · intro f hf0 hw hn ev X hT hb hk hf
        have e0 := hf.1
        have e1 : ev (.tmp 22) = .agg PX := hf.2.1
        have fa : f 4 = true := hw 4 (by kernel_rfl)
        have hX := hT.1
        rw [fa, hf0] at hX
        have hX' : (Multi2.bv (ev (.tmp 10)) (.cells ZB 48 (0, 0)) * _).on X := hX
        obtain ⟨g, hg, hX2⟩ := Multi2.bv_blk hX'
        exact OpOk.store_agg _ _ _ rfl g PX hg e1 _ ZB hX2 HsPx.out HzPx.out HoPx.out (fun h3 => Multi2.ended_turn rfl trivial ⟨by
          show (Multi2.opt (f 4) (Multi2.bv (ev (.tmp 10)) (.cells PX 48 (0, 0))) * _).on _
          rw [fa, hg]
          exact Multi2.blk_bv h3, hT.2.setRow _ _⟩ (Multi2.free_keep (by
          intro P hP
          simp only [List.mem_cons, List.not_mem_nil, or_false] at hP
          rcases hP with rfl | rfl | rfl | rfl | rfl | rfl | rfl | rfl <;> exact fun _ _ _ h => h) _ _))
      · intro f hf0 hw hn ev X hT hb hk hf
        have e0 := hf.1
        have e1 : ev (.tmp 24) = .agg PY := hf.2.1
        have fa : f 5 = true := hw 5 (by kernel_rfl)
        have hX := hT.1
        rw [fa, hf0, star_2_1] at hX
        have hX' : (Multi2.bv (ev (.tmp 11)) (.cells ZB 48 (0, 0)) * _).on X := hX
        obtain ⟨g, hg, hX2⟩ := Multi2.bv_blk hX'
        exact OpOk.store_agg _ _ _ rfl g PY hg e1 _ ZB hX2 HsPy.out HzPy.out HoPy.out (fun h3 => Multi2.ended_turn rfl trivial ⟨by
          show (_ * (Multi2.opt (f 5) (Multi2.bv (ev (.tmp 11)) (.cells PY 48 (0, 0))) * _)).on _
          rw [fa, hg, star_2_1]
          exact Multi2.blk_bv h3, hT.2.setRow _ _⟩ (Multi2.free_keep (by
          intro P hP
          simp only [List.mem_cons, List.not_mem_nil, or_false] at hP
          rcases hP with rfl | rfl | rfl | rfl | rfl | rfl | rfl | rfl <;> exact fun _ _ _ h => h) _ _))
    case rest =>
      intro X4 s hI
      rintro _ ⟨-, rfl⟩ _ ⟨-, rfl⟩ _ ⟨-, rfl⟩ _ ⟨-, rfl⟩ v10 ⟨h10, -⟩ v11 ⟨h11, -⟩ _ - _ -
      replace h10 := h10 rfl
      replace h11 := h11 rfl
      obtain ⟨hX, hSX⟩ := hI
      have hX' : (Multi2.bv (s 4) (.cells PX 48 (0, 0)) * (Multi2.bv (s 5) (.cells PY 48 (0, 0)) * (blk g9 (.cells ZC 58 (0, 0)) * (blk g8 (.cells YB 58 (0, 0)) * (blk g7 (.cells XA 58 (0, 0)) * all w))))).on X4 := hX
      rw [← h10, ← h11] at hX'
      obtain ⟨g10, rfl, hX2⟩ := Multi2.bv_blk hX'
      rw [star_2_1] at hX2
      obtain ⟨g11, rfl, hX3⟩ := Multi2.bv_blk hX2
      have H4 := hide hX3
      have HS4 := hide hSX
      clear hX hX' hX2 hX3 h10 h11 hSX H3 HS3
      go_wp2
      refine Rest.done ?_
      clear s
      have h5 := H4.out.alloc (.cells (q4 0) 58)
      have hs5 := HS4.out.alloc (.cells (q4 0) 58)
      have gN := on_blk_mul h5
      have hone : (q4 1).all (·.oneCell') = true := lvs_one _
      have hza : (q4 0).size = (q4 1).size := by rw [q4_size, q4_size]
      have Hs1 := hide (Hsn.out 1)
      have H6 := hide (SP.on.setRow h5 (q4 1))
      have HS6 := hide (hs5.setRow X4.heap.size (q4 1))
      clear h5 hs5
      go_wp2_with (first
        | (refine wpList_build_n rfl 1 rfl (by decide) ?_)
        | (refine wpList_store_row rfl _ _ _ rfl X4.heap.size (q4 1) rfl rfl _ _ gN Hs1.out hza hone ?_))
      generalize (X4.alloc (.cells (q4 0) 58)).setRow X4.heap.size (q4 1) = w6 at *
      generalize X4.heap.size = g12 at *
      clear gN
      go_loopw [26] (fun i wr => ∃ k : Nat, k ≤ 32 ∧ i = .int .i64 k ∧ (blk g12 (.cells (q4 (256 ^ k % O6)) 58 (0, 0)) * (blk g11 (.cells PY 48 (0, 0)) * (blk g10 (.cells PX 48 (0, 0)) * (blk g9 (.cells ZC 58 (0, 0)) * (blk g8 (.cells YB 58 (0, 0)) * (blk g7 (.cells XA 58 (0, 0)) * all w)))))).on wr ∧ Str w wr) (fun i _ => 32 - (intOf i).toNat)
      case atStart => exact ⟨0, by omega, rfl, H6.out, HS6.out⟩
      case round =>
        obtain ⟨k, hk, rfl, hX, hS2⟩ := hrel
        have HXk := hide hX
        have HSk := hide hS2
        clear hX hS2 H6 HS6 H4 HS4
        by_cases hlt : k < 32
        · have HOw := hide (HO.out.below (all_below HXk.out.right.right.right.right.right.right HSk.out))
          have gF := on_blk_mul HXk.out
          have HsF := hide (Hsn.out (256 ^ k % O6))
          have HsF2 := hide (Hsn.out (256 ^ (k + 1) % O6))
          have Hm := hide (Hfar.out k wr HOw.out)
          have hz2 : (q4 (256 ^ k % O6)).size = (q4 (256 ^ (k + 1) % O6)).size := by rw [q4_size, q4_size]
          have hone2 : (q4 (256 ^ (k + 1) % O6)).all (·.oneCell') = true := lvs_one _
          generalize q4 (256 ^ k % O6) = F1 at *
          generalize hF2 : q4 (256 ^ (k + 1) % O6) = F2 at *
          have HF2 := hide hF2
          clear hF2
          have hk32 : (k : Int) < 32 := by omega
          go_wp2_with (first
            | (refine wpList_load_row rfl _ _ rfl g12 rfl _ F1 _ _ gF hun rfl HsF.out ?_)
            | (refine wpList_build_n rfl 256 rfl (by decide) ?_))
          refine Hm.out.mono ?_
          rintro e w7 ⟨rfl, hB7⟩
          have hx7 := HXk.out.below hB7
          have gF7 := on_blk_mul hx7
          have H7 := hide (SP.on.setRow hx7 F2)
          have HS7 := hide ((HSk.out.trans (Str.below hB7)).setRow g12 F2)
          clear hx7 hB7 gF HXk HSk
          go_wp2_with (refine wpList_store_row rfl _ _ _ rfl g12 F2 rfl rfl _ _ gF7 HsF2.out hz2 hone2 ?_)
          refine ⟨⟨k + 1, by omega, by simp, by rw [HF2.out]; exact H7.out, HS7.out⟩, by simp [intOf]; omega⟩
        · obtain rfl : k = 32 := by omega
          have HsF := hide (Hsn.out (256 ^ 32 % O6))
          go_wp2_with fail
          refine wp_region_vs [isV (.slice (some ⟨g10, 0, Option.none⟩) 32 32), isV (.slice (some ⟨g11, 0, Option.none⟩) 32 32), fun v X => IsBytes X v (bx ++ yb), isV (.agg (q4 ((x + 256 ^ 32 % O6 * y % O6) % O6))), isV (.agg XA), isV (.agg (q4 (256 ^ 32 % O6))), isV (.agg YB), isV (.agg (q4 (256 ^ 32 % O6 * y % O6))), isV (.agg (q4 ((x + 256 ^ 32 % O6 * y % O6) % O6))), isV (.bool false)]
            (by kernel_rfl) (by kernel_rfl) rfl ?keep ?todo ?rest
          case keep => exact ⟨Keep.isV _, Keep.isV _, fun _ _ _ h k => IsBytes.below h k, Keep.isV _, Keep.isV _, Keep.isV _, Keep.isV _, Keep.isV _, Keep.isV _, Keep.isV _, trivial⟩
          case todo =>
            refine ⟨?_, ?_, ?_, ?_, ?_, ?_, ?_, ?_, ?_, ?_, trivial⟩
            · intro ev X hT hb hk hf
              have e0 : ev (.tmp 10) = .pointer (some ⟨g10, 0, Option.none⟩) := hk.1
              exact OpOk.run (v := .slice (some ⟨g10, 0, Option.none⟩) 32 32) (W' := X) (by simp [execOp, e0, hu32, go_sem]) ⟨rfl, Stay.refl _⟩
            · intro ev X hT hb hk hf
              have e0 : ev (.tmp 11) = .pointer (some ⟨g11, 0, Option.none⟩) := hk.1
              exact OpOk.run (v := .slice (some ⟨g11, 0, Option.none⟩) 32 32) (W' := X) (by simp [execOp, e0, hu32, go_sem]) ⟨rfl, Stay.refl _⟩
            · intro ev X hT hb hk hf
              have e0 : ev (.tmp 32) = .slice (some ⟨g10, 0, Option.none⟩) 32 32 := hf.1
              have e1 : ev (.tmp 33) = .slice (some ⟨g11, 0, Option.none⟩) 32 32 := hf.2.1
              have hX := HXk.out.below hT
              obtain ⟨v', w', hr, hv, hs⟩ := Happ.out X g10 g11 (on_blk_mul hX.right.right) (on_blk_mul hX.right)
              exact OpOk.append rfl e0 e1 hr ⟨hv, hs⟩
            · intro ev X hT hb hk hf
              have e0 : IsBytes X (ev (.tmp 34)) (bx ++ yb) := hf.1
              obtain ⟨v3, hv3⟩ : ∃ v3, ev (.tmp 34) = v3 := ⟨_, rfl⟩
              rw [hv3] at e0
              refine OpOk.enters (f := 46) (args := #[v3]) (W' := X) (by simp [execOp, resolve, invoke, hv3, hb.1, hb.2.1, go_sem]) ((Hrd.out v3 X e0 (HO.out.below (all_below (HXk.out.below hT).right.right.right.right.right.right (HSk.out.trans (Str.below hT))))).mono ?_)
              rintro e _ ⟨rfl, hB⟩
              exact ⟨_, rfl, rfl, hB⟩
            · intro ev X hT hb hk hf
              have e0 : ev (.tmp 7) = .pointer (some ⟨g7, 0, Option.none⟩) := hk.1
              exact OpOk.load_row _ _ rfl _ e0 _ XA (0, 0) _ (on_blk_mul ((HXk.out.below hT).right.right.right.right.right)) hun rfl HsX.out ⟨rfl, Stay.refl _⟩
            · intro ev X hT hb hk hf
              have e0 : ev (.tmp 12) = .pointer (some ⟨g12, 0, Option.none⟩) := hk.1
              exact OpOk.load_row _ _ rfl _ e0 _ (q4 (256 ^ 32 % O6)) (0, 0) _ (on_blk_mul ((HXk.out.below hT))) hun rfl HsF.out ⟨rfl, Stay.refl _⟩
            · intro ev X hT hb hk hf
              have e0 : ev (.tmp 8) = .pointer (some ⟨g8, 0, Option.none⟩) := hk.1
              exact OpOk.load_row _ _ rfl _ e0 _ YB (0, 0) _ (on_blk_mul ((HXk.out.below hT).right.right.right.right)) hun rfl HsY.out ⟨rfl, Stay.refl _⟩
            · intro ev X hT hb hk hf
              have e0 : ev (.tmp 37) = .agg (q4 (256 ^ 32 % O6)) := hf.1
              have e1 : ev (.tmp 38) = .agg YB := hf.2.1
              refine OpOk.enters (f := 42) (args := #[.agg (q4 (256 ^ 32 % O6)), .agg YB]) (W' := X) (by simp [execOp, resolve, invoke, e0, e1, hb.1, hb.2.1, go_sem]) ((Pfy.out X (HO.out.below (all_below (HXk.out.below hT).right.right.right.right.right.right (HSk.out.trans (Str.below hT))))).mono ?_)
              rintro e _ ⟨rfl, hB⟩
              exact ⟨_, rfl, rfl, hB⟩
            · intro ev X hT hb hk hf
              have e0 : ev (.tmp 36) = .agg XA := hf.1
              have e1 : ev (.tmp 39) = .agg (q4 (256 ^ 32 % O6 * y % O6)) := hf.2.1
              refine OpOk.enters (f := 40) (args := #[.agg XA, .agg (q4 (256 ^ 32 % O6 * y % O6))]) (W' := X) (by simp [execOp, resolve, invoke, e0, e1, hb.1, hb.2.1, go_sem]) ((Hxf.out X (HO.out.below (all_below (HXk.out.below hT).right.right.right.right.right.right (HSk.out.trans (Str.below hT))))).mono ?_)
              rintro e _ ⟨rfl, hB⟩
              exact ⟨_, rfl, rfl, hB⟩
            · intro ev X hT hb hk hf
              have e0 : ev (.tmp 35) = .agg (q4 ((x + 256 ^ 32 % O6 * y % O6) % O6)) := hf.1
              have e1 : ev (.tmp 40) = .agg (q4 ((x + 256 ^ 32 % O6 * y % O6) % O6)) := hf.2.1
              exact OpOk.run (v := .bool false) (W' := X) (by
                unfold execOp
                simp only [e0, e1, Sem.run_bind, run_eqGuard_agg X _ _ _ _ _ _ Hgd.out, run_neq_struct, HE5.out X, Result.andThen_ok]
                simp) ⟨rfl, Stay.refl _⟩
          case rest =>
            intro X10 hT
            rintro _ - _ - _ - _ - _ - _ - _ - _ - _ - _ rfl
            have HX10 := hide (HXk.out.below hT)
            have HS10 := hide (HSk.out.trans (Str.below hT))
            clear hT HXk HSk
            go_wp2
            refine Rest.done ?_
            go_wp2_with fail
            refine wp_region_vs [isV (.agg XA), isV (.agg YB), isV (.agg (q4 ((x + y) % O6))), isV (.agg YB), isV (.agg XA), isV (.agg (q4 ((x + y) % O6))), isV (.bool true), isV (.bool true), isV (.agg XA), isV (.agg YB), isV (.agg (q4 (x * y % O6))), isV (.agg YB), isV (.agg XA), isV (.agg (q4 (x * y % O6))), isV (.bool true), isV (.bool true), isV (.bool true), isV (.agg XA), isV (.agg YB), isV (.agg ZC), isV (.agg (q4 ((y + z) % O6))), isV (.agg (q4 (x * ((y + z) % O6) % O6))), isV (.agg XA), isV (.agg YB), isV (.agg (q4 (x * y % O6))), isV (.agg XA), isV (.agg ZC), isV (.agg (q4 (x * z % O6))), isV (.agg (q4 (x * ((y + z) % O6) % O6))), isV (.bool true), isV (.bool true), isV (.bool true), isV (.agg XA), isV (.agg (q4 0)), isV (.agg XA), isV (.agg XA), isV (.bool true), isV (.bool true), isV (.bool true), isV (.agg XA), isV (.agg (q4 1)), isV (.agg XA), isV (.agg XA), isV (.bool true), isV (.bool true), isV (.bool true)]
              (by kernel_rfl) (by kernel_rfl) rfl ?keep ?todo ?rest
            case keep => exact ⟨Keep.isV _, Keep.isV _, Keep.isV _, Keep.isV _, Keep.isV _, Keep.isV _, Keep.isV _, Keep.isV _, Keep.isV _, Keep.isV _, Keep.isV _, Keep.isV _, Keep.isV _, Keep.isV _, Keep.isV _, Keep.isV _, Keep.isV _, Keep.isV _, Keep.isV _, Keep.isV _, Keep.isV _, Keep.isV _, Keep.isV _, Keep.isV _, Keep.isV _, Keep.isV _, Keep.isV _, Keep.isV _, Keep.isV _, Keep.isV _, Keep.isV _, Keep.isV _, Keep.isV _, Keep.isV _, Keep.isV _, Keep.isV _, Keep.isV _, Keep.isV _, Keep.isV _, Keep.isV _, Keep.isV _, Keep.isV _, Keep.isV _, Keep.isV _, Keep.isV _, Keep.isV _, trivial⟩
            case todo =>
              refine ⟨?_, ?_, ?_, ?_, ?_, ?_, ?_, ?_, ?_, ?_, ?_, ?_, ?_, ?_, ?_, ?_, ?_, ?_, ?_, ?_, ?_, ?_, ?_, ?_, ?_, ?_, ?_, ?_, ?_, ?_, ?_, ?_, ?_, ?_, ?_, ?_, ?_, ?_, ?_, ?_, ?_, ?_, ?_, ?_, ?_, ?_, trivial⟩
              · intro ev X hT hb hk hf
                have e0 : ev (.tmp 7) = .pointer (some ⟨g7, 0, Option.none⟩) := hk.1
                exact OpOk.load_row _ _ rfl _ e0 _ XA (0, 0) _ (on_blk_mul ((HX10.out.below hT).right.right.right.right.right)) hun rfl HsX.out ⟨rfl, Stay.refl _⟩
              · intro ev X hT hb hk hf
                have e0 : ev (.tmp 8) = .pointer (some ⟨g8, 0, Option.none⟩) := hk.1
                exact OpOk.load_row _ _ rfl _ e0 _ YB (0, 0) _ (on_blk_mul ((HX10.out.below hT).right.right.right.right)) hun rfl HsY.out ⟨rfl, Stay.refl _⟩
              · intro ev X hT hb hk hf
                have e0 : ev (.tmp 42) = .agg XA := hf.1
                have e1 : ev (.tmp 43) = .agg YB := hf.2.1
                refine OpOk.enters (f := 40) (args := #[.agg XA, .agg YB]) (W' := X) (by simp [execOp, resolve, invoke, e0, e1, hb.1, hb.2.1, go_sem]) ((Hxy.out X (HO.out.below (all_below (HX10.out.below hT).right.right.right.right.right.right (HS10.out.trans (Str.below hT))))).mono ?_)
                rintro e _ ⟨rfl, hB⟩
                exact ⟨_, rfl, rfl, hB⟩
              · intro ev X hT hb hk hf
                have e0 : ev (.tmp 8) = .pointer (some ⟨g8, 0, Option.none⟩) := hk.1
                exact OpOk.load_row _ _ rfl _ e0 _ YB (0, 0) _ (on_blk_mul ((HX10.out.below hT).right.right.right.right)) hun rfl HsY.out ⟨rfl, Stay.refl _⟩
              · intro ev X hT hb hk hf
                have e0 : ev (.tmp 7) = .pointer (some ⟨g7, 0, Option.none⟩) := hk.1
                exact OpOk.load_row _ _ rfl _ e0 _ XA (0, 0) _ (on_blk_mul ((HX10.out.below hT).right.right.right.right.right)) hun rfl HsX.out ⟨rfl, Stay.refl _⟩
              · intro ev X hT hb hk hf
                have e0 : ev (.tmp 45) = .agg YB := hf.1
                have e1 : ev (.tmp 46) = .agg XA := hf.2.1
                refine OpOk.enters (f := 40) (args := #[.agg YB, .agg XA]) (W' := X) (by simp [execOp, resolve, invoke, e0, e1, hb.1, hb.2.1, go_sem]) ((Hyx.out X (HO.out.below (all_below (HX10.out.below hT).right.right.right.right.right.right (HS10.out.trans (Str.below hT))))).mono ?_)
                rintro e _ ⟨rfl, hB⟩
                exact ⟨_, rfl, rfl, hB⟩
              · intro ev X hT hb hk hf
                have e0 : ev (.tmp 44) = .agg (q4 ((x + y) % O6)) := hf.1
                have e1 : ev (.tmp 47) = .agg (q4 ((x + y) % O6)) := hf.2.1
                exact OpOk.run (v := .bool true) (W' := X) (by
                  unfold execOp
                  simp only [e0, e1, Sem.run_bind, run_eqGuard_agg X _ _ _ _ _ _ Hgd.out, run_eql_struct, HE1.out X, Result.andThen_ok]
                  simp) ⟨rfl, Stay.refl _⟩
              · intro ev X hT hb hk hf
                have e0 : ev (.tmp 48) = .bool true := hf.1
                exact OpOk.move rfl e0 ⟨rfl, Stay.refl _⟩
              · intro ev X hT hb hk hf
                refine ⟨true, hf.1, fun _ => ?_, fun h => (h rfl).elim⟩
                have e0 : ev (.tmp 7) = .pointer (some ⟨g7, 0, Option.none⟩) := hk.1
                exact OpOk.load_row _ _ rfl _ e0 _ XA (0, 0) _ (on_blk_mul ((HX10.out.below hT).right.right.right.right.right)) hun rfl HsX.out ⟨rfl, Stay.refl _⟩
              · intro ev X hT hb hk hf
                refine ⟨true, hf.1, fun _ => ?_, fun h => (h rfl).elim⟩
                have e0 : ev (.tmp 8) = .pointer (some ⟨g8, 0, Option.none⟩) := hk.1
                exact OpOk.load_row _ _ rfl _ e0 _ YB (0, 0) _ (on_blk_mul ((HX10.out.below hT).right.right.right.right)) hun rfl HsY.out ⟨rfl, Stay.refl _⟩
              · intro ev X hT hb hk hf
                refine ⟨true, hf.2.2.1, fun _ => ?_, fun h => (h rfl).elim⟩
                have e0 : ev (.tmp 50) = .agg XA := hf.1
                have e1 : ev (.tmp 51) = .agg YB := hf.2.1
                refine OpOk.enters (f := 42) (args := #[.agg XA, .agg YB]) (W' := X) (by simp [execOp, resolve, invoke, e0, e1, hb.1, hb.2.1, go_sem]) ((Pxy.out X (HO.out.below (all_below (HX10.out.below hT).right.right.right.right.right.right (HS10.out.trans (Str.below hT))))).mono ?_)
                rintro e _ ⟨rfl, hB⟩
                exact ⟨_, rfl, rfl, hB⟩
              · intro ev X hT hb hk hf
                refine ⟨true, hf.1, fun _ => ?_, fun h => (h rfl).elim⟩
                have e0 : ev (.tmp 8) = .pointer (some ⟨g8, 0, Option.none⟩) := hk.1
                exact OpOk.load_row _ _ rfl _ e0 _ YB (0, 0) _ (on_blk_mul ((HX10.out.below hT).right.right.right.right)) hun rfl HsY.out ⟨rfl, Stay.refl _⟩
              · intro ev X hT hb hk hf
                refine ⟨true, hf.1, fun _ => ?_, fun h => (h rfl).elim⟩
                have e0 : ev (.tmp 7) = .pointer (some ⟨g7, 0, Option.none⟩) := hk.1
                exact OpOk.load_row _ _ rfl _ e0 _ XA (0, 0) _ (on_blk_mul ((HX10.out.below hT).right.right.right.right.right)) hun rfl HsX.out ⟨rfl, Stay.refl _⟩
              · intro ev X hT hb hk hf
                refine ⟨true, hf.2.2.2.1, fun _ => ?_, fun h => (h rfl).elim⟩
                have e0 : ev (.tmp 53) = .agg YB := hf.1
                have e1 : ev (.tmp 54) = .agg XA := hf.2.1
                refine OpOk.enters (f := 42) (args := #[.agg YB, .agg XA]) (W' := X) (by simp [execOp, resolve, invoke, e0, e1, hb.1, hb.2.1, go_sem]) ((Pyx.out X (HO.out.below (all_below (HX10.out.below hT).right.right.right.right.right.right (HS10.out.trans (Str.below hT))))).mono ?_)
                rintro e _ ⟨rfl, hB⟩
                exact ⟨_, rfl, rfl, hB⟩
              · intro ev X hT hb hk hf
                refine ⟨true, hf.2.2.1, fun _ => ?_, fun h => (h rfl).elim⟩
                have e0 : ev (.tmp 52) = .agg (q4 (x * y % O6)) := hf.1
                have e1 : ev (.tmp 55) = .agg (q4 (x * y % O6)) := hf.2.1
                exact OpOk.run (v := .bool true) (W' := X) (by
                  unfold execOp
                  simp only [e0, e1, Sem.run_bind, run_eqGuard_agg X _ _ _ _ _ _ Hgd.out, run_eql_struct, HE2.out X, Result.andThen_ok]
                  simp) ⟨rfl, Stay.refl _⟩
              · intro ev X hT hb hk hf
                have e0 : ev (.tmp 49) = .bool true := hf.1
                have e1 : ev (.tmp 56) = .bool true := hf.2.1
                exact OpOk.run (v := .bool true) (W' := X) (by simp [execOp, e0, e1, hb, hb.1, hb.2.1, hb.2.2, go_sem]) ⟨rfl, Stay.refl _⟩
              · intro ev X hT hb hk hf
                have e0 : ev (.tmp 57) = .bool true := hf.1
                exact OpOk.move rfl e0 ⟨rfl, Stay.refl _⟩
              · intro ev X hT hb hk hf
                refine ⟨true, hf.1, fun _ => ?_, fun h => (h rfl).elim⟩
                have e0 : ev (.tmp 7) = .pointer (some ⟨g7, 0, Option.none⟩) := hk.1
                exact OpOk.load_row _ _ rfl _ e0 _ XA (0, 0) _ (on_blk_mul ((HX10.out.below hT).right.right.right.right.right)) hun rfl HsX.out ⟨rfl, Stay.refl _⟩
              · intro ev X hT hb hk hf
                refine ⟨true, hf.1, fun _ => ?_, fun h => (h rfl).elim⟩
                have e0 : ev (.tmp 8) = .pointer (some ⟨g8, 0, Option.none⟩) := hk.1
                exact OpOk.load_row _ _ rfl _ e0 _ YB (0, 0) _ (on_blk_mul ((HX10.out.below hT).right.right.right.right)) hun rfl HsY.out ⟨rfl, Stay.refl _⟩
              · intro ev X hT hb hk hf
                refine ⟨true, hf.1, fun _ => ?_, fun h => (h rfl).elim⟩
                have e0 : ev (.tmp 9) = .pointer (some ⟨g9, 0, Option.none⟩) := hk.1
                exact OpOk.load_row _ _ rfl _ e0 _ ZC (0, 0) _ (on_blk_mul ((HX10.out.below hT).right.right.right)) hun rfl HsZ.out ⟨rfl, Stay.refl _⟩
              · intro ev X hT hb hk hf
                refine ⟨true, hf.2.2.1, fun _ => ?_, fun h => (h rfl).elim⟩
                have e0 : ev (.tmp 60) = .agg YB := hf.1
                have e1 : ev (.tmp 61) = .agg ZC := hf.2.1
                refine OpOk.enters (f := 40) (args := #[.agg YB, .agg ZC]) (W' := X) (by simp [execOp, resolve, invoke, e0, e1, hb.1, hb.2.1, go_sem]) ((Hyz.out X (HO.out.below (all_below (HX10.out.below hT).right.right.right.right.right.right (HS10.out.trans (Str.below hT))))).mono ?_)
                rintro e _ ⟨rfl, hB⟩
                exact ⟨_, rfl, rfl, hB⟩
              · intro ev X hT hb hk hf
                refine ⟨true, hf.2.2.2.1, fun _ => ?_, fun h => (h rfl).elim⟩
                have e0 : ev (.tmp 59) = .agg XA := hf.1
                have e1 : ev (.tmp 62) = .agg (q4 ((y + z) % O6)) := hf.2.1
                refine OpOk.enters (f := 42) (args := #[.agg XA, .agg (q4 ((y + z) % O6))]) (W' := X) (by simp [execOp, resolve, invoke, e0, e1, hb.1, hb.2.1, go_sem]) ((Pxs.out X (HO.out.below (all_below (HX10.out.below hT).right.right.right.right.right.right (HS10.out.trans (Str.below hT))))).mono ?_)
                rintro e _ ⟨rfl, hB⟩
                exact ⟨_, rfl, rfl, hB⟩
              · intro ev X hT hb hk hf
                refine ⟨true, hf.1, fun _ => ?_, fun h => (h rfl).elim⟩
                have e0 : ev (.tmp 7) = .pointer (some ⟨g7, 0, Option.none⟩) := hk.1
                exact OpOk.load_row _ _ rfl _ e0 _ XA (0, 0) _ (on_blk_mul ((HX10.out.below hT).right.right.right.right.right)) hun rfl HsX.out ⟨rfl, Stay.refl _⟩
              · intro ev X hT hb hk hf
                refine ⟨true, hf.1, fun _ => ?_, fun h => (h rfl).elim⟩
                have e0 : ev (.tmp 8) = .pointer (some ⟨g8, 0, Option.none⟩) := hk.1
                exact OpOk.load_row _ _ rfl _ e0 _ YB (0, 0) _ (on_blk_mul ((HX10.out.below hT).right.right.right.right)) hun rfl HsY.out ⟨rfl, Stay.refl _⟩
              · intro ev X hT hb hk hf
                refine ⟨true, hf.2.2.2.1, fun _ => ?_, fun h => (h rfl).elim⟩
                have e0 : ev (.tmp 64) = .agg XA := hf.1
                have e1 : ev (.tmp 65) = .agg YB := hf.2.1
                refine OpOk.enters (f := 42) (args := #[.agg XA, .agg YB]) (W' := X) (by simp [execOp, resolve, invoke, e0, e1, hb.1, hb.2.1, go_sem]) ((Pxy.out X (HO.out.below (all_below (HX10.out.below hT).right.right.right.right.right.right (HS10.out.trans (Str.below hT))))).mono ?_)
                rintro e _ ⟨rfl, hB⟩
                exact ⟨_, rfl, rfl, hB⟩
              · intro ev X hT hb hk hf
                refine ⟨true, hf.1, fun _ => ?_, fun h => (h rfl).elim⟩
                have e0 : ev (.tmp 7) = .pointer (some ⟨g7, 0, Option.none⟩) := hk.1
                exact OpOk.load_row _ _ rfl _ e0 _ XA (0, 0) _ (on_blk_mul ((HX10.out.below hT).right.right.right.right.right)) hun rfl HsX.out ⟨rfl, Stay.refl _⟩
              · intro ev X hT hb hk hf
                refine ⟨true, hf.1, fun _ => ?_, fun h => (h rfl).elim⟩
                have e0 : ev (.tmp 9) = .pointer (some ⟨g9, 0, Option.none⟩) := hk.1
                exact OpOk.load_row _ _ rfl _ e0 _ ZC (0, 0) _ (on_blk_mul ((HX10.out.below hT).right.right.right)) hun rfl HsZ.out ⟨rfl, Stay.refl _⟩
              · intro ev X hT hb hk hf
                refine ⟨true, hf.2.2.2.1, fun _ => ?_, fun h => (h rfl).elim⟩
                have e0 : ev (.tmp 67) = .agg XA := hf.1
                have e1 : ev (.tmp 68) = .agg ZC := hf.2.1
                refine OpOk.enters (f := 42) (args := #[.agg XA, .agg ZC]) (W' := X) (by simp [execOp, resolve, invoke, e0, e1, hb.1, hb.2.1, go_sem]) ((Pxz.out X (HO.out.below (all_below (HX10.out.below hT).right.right.right.right.right.right (HS10.out.trans (Str.below hT))))).mono ?_)
                rintro e _ ⟨rfl, hB⟩
                exact ⟨_, rfl, rfl, hB⟩
              · intro ev X hT hb hk hf
                refine ⟨true, hf.2.2.2.1, fun _ => ?_, fun h => (h rfl).elim⟩
                have e0 : ev (.tmp 66) = .agg (q4 (x * y % O6)) := hf.1
                have e1 : ev (.tmp 69) = .agg (q4 (x * z % O6)) := hf.2.1
                refine OpOk.enters (f := 40) (args := #[.agg (q4 (x * y % O6)), .agg (q4 (x * z % O6))]) (W' := X) (by simp [execOp, resolve, invoke, e0, e1, hb.1, hb.2.1, go_sem]) ((Hpp.out X (HO.out.below (all_below (HX10.out.below hT).right.right.right.right.right.right (HS10.out.trans (Str.below hT))))).mono ?_)
                rintro e _ ⟨rfl, hB⟩
                exact ⟨_, rfl, rfl, hB⟩
              · intro ev X hT hb hk hf
                refine ⟨true, hf.2.2.1, fun _ => ?_, fun h => (h rfl).elim⟩
                have e0 : ev (.tmp 63) = .agg (q4 (x * ((y + z) % O6) % O6)) := hf.1
                have e1 : ev (.tmp 70) = .agg (q4 (x * ((y + z) % O6) % O6)) := hf.2.1
                exact OpOk.run (v := .bool true) (W' := X) (by
                  unfold execOp
                  simp only [e0, e1, Sem.run_bind, run_eqGuard_agg X _ _ _ _ _ _ Hgd.out, run_eql_struct, HE3.out X, Result.andThen_ok]
                  simp) ⟨rfl, Stay.refl _⟩
              · intro ev X hT hb hk hf
                have e0 : ev (.tmp 58) = .bool true := hf.1
                have e1 : ev (.tmp 71) = .bool true := hf.2.1
                exact OpOk.run (v := .bool true) (W' := X) (by simp [execOp, e0, e1, hb, hb.1, hb.2.1, hb.2.2, go_sem]) ⟨rfl, Stay.refl _⟩
              · intro ev X hT hb hk hf
                have e0 : ev (.tmp 72) = .bool true := hf.1
                exact OpOk.move rfl e0 ⟨rfl, Stay.refl _⟩
              · intro ev X hT hb hk hf
                refine ⟨true, hf.1, fun _ => ?_, fun h => (h rfl).elim⟩
                have e0 : ev (.tmp 7) = .pointer (some ⟨g7, 0, Option.none⟩) := hk.1
                exact OpOk.load_row _ _ rfl _ e0 _ XA (0, 0) _ (on_blk_mul ((HX10.out.below hT).right.right.right.right.right)) hun rfl HsX.out ⟨rfl, Stay.refl _⟩
              · intro ev X hT hb hk hf
                refine ⟨true, hf.1, fun _ => ?_, fun h => (h rfl).elim⟩
                exact OpOk.run (v := .agg (q4 0)) (W' := X) (by simp [execOp, hb.1, hb0, go_sem]; exact qz4.symm) ⟨rfl, Stay.refl _⟩
              · intro ev X hT hb hk hf
                refine ⟨true, hf.2.2.1, fun _ => ?_, fun h => (h rfl).elim⟩
                have e0 : ev (.tmp 74) = .agg XA := hf.1
                have e1 : ev (.tmp 75) = .agg (q4 0) := hf.2.1
                refine OpOk.enters (f := 40) (args := #[.agg XA, .agg (q4 0)]) (W' := X) (by simp [execOp, resolve, invoke, e0, e1, hb.1, hb.2.1, go_sem]) ((Hx0.out X (HO.out.below (all_below (HX10.out.below hT).right.right.right.right.right.right (HS10.out.trans (Str.below hT))))).mono ?_)
                rintro e _ ⟨rfl, hB⟩
                exact ⟨_, rfl, rfl, hB⟩
              · intro ev X hT hb hk hf
                refine ⟨true, hf.1, fun _ => ?_, fun h => (h rfl).elim⟩
                have e0 : ev (.tmp 7) = .pointer (some ⟨g7, 0, Option.none⟩) := hk.1
                exact OpOk.load_row _ _ rfl _ e0 _ XA (0, 0) _ (on_blk_mul ((HX10.out.below hT).right.right.right.right.right)) hun rfl HsX.out ⟨rfl, Stay.refl _⟩
              · intro ev X hT hb hk hf
                refine ⟨true, hf.2.2.1, fun _ => ?_, fun h => (h rfl).elim⟩
                have e0 : ev (.tmp 76) = .agg XA := hf.1
                have e1 : ev (.tmp 77) = .agg XA := hf.2.1
                exact OpOk.run (v := .bool true) (W' := X) (by
                  unfold execOp
                  simp only [e0, e1, Sem.run_bind, run_eqGuard_agg X _ _ _ _ _ _ Hgd.out, run_eql_struct, HE4.out X, Result.andThen_ok]
                  simp) ⟨rfl, Stay.refl _⟩
              · intro ev X hT hb hk hf
                have e0 : ev (.tmp 73) = .bool true := hf.1
                have e1 : ev (.tmp 78) = .bool true := hf.2.1
                exact OpOk.run (v := .bool true) (W' := X) (by simp [execOp, e0, e1, hb, hb.1, hb.2.1, hb.2.2, go_sem]) ⟨rfl, Stay.refl _⟩
              · intro ev X hT hb hk hf
                have e0 : ev (.tmp 79) = .bool true := hf.1
                exact OpOk.move rfl e0 ⟨rfl, Stay.refl _⟩
              · intro ev X hT hb hk hf
                refine ⟨true, hf.1, fun _ => ?_, fun h => (h rfl).elim⟩
                have e0 : ev (.tmp 7) = .pointer (some ⟨g7, 0, Option.none⟩) := hk.1
                exact OpOk.load_row _ _ rfl _ e0 _ XA (0, 0) _ (on_blk_mul ((HX10.out.below hT).right.right.right.right.right)) hun rfl HsX.out ⟨rfl, Stay.refl _⟩
              · intro ev X hT hb hk hf
                refine ⟨true, hf.1, fun _ => ?_, fun h => (h rfl).elim⟩
                exact OpOk.run (v := .agg (q4 1)) (W' := X) (by simp [execOp, hb.1, hb1, go_sem]; exact qo4.symm) ⟨rfl, Stay.refl _⟩
              · intro ev X hT hb hk hf
                refine ⟨true, hf.2.2.1, fun _ => ?_, fun h => (h rfl).elim⟩
                have e0 : ev (.tmp 81) = .agg XA := hf.1
                have e1 : ev (.tmp 82) = .agg (q4 1) := hf.2.1
                refine OpOk.enters (f := 42) (args := #[.agg XA, .agg (q4 1)]) (W' := X) (by simp [execOp, resolve, invoke, e0, e1, hb.1, hb.2.1, go_sem]) ((Px1.out X (HO.out.below (all_below (HX10.out.below hT).right.right.right.right.right.right (HS10.out.trans (Str.below hT))))).mono ?_)
                rintro e _ ⟨rfl, hB⟩
                exact ⟨_, rfl, rfl, hB⟩
              · intro ev X hT hb hk hf
                refine ⟨true, hf.1, fun _ => ?_, fun h => (h rfl).elim⟩
                have e0 : ev (.tmp 7) = .pointer (some ⟨g7, 0, Option.none⟩) := hk.1
                exact OpOk.load_row _ _ rfl _ e0 _ XA (0, 0) _ (on_blk_mul ((HX10.out.below hT).right.right.right.right.right)) hun rfl HsX.out ⟨rfl, Stay.refl _⟩
              · intro ev X hT hb hk hf
                refine ⟨true, hf.2.2.1, fun _ => ?_, fun h => (h rfl).elim⟩
                have e0 : ev (.tmp 83) = .agg XA := hf.1
                have e1 : ev (.tmp 84) = .agg XA := hf.2.1
                exact OpOk.run (v := .bool true) (W' := X) (by
                  unfold execOp
                  simp only [e0, e1, Sem.run_bind, run_eqGuard_agg X _ _ _ _ _ _ Hgd.out, run_eql_struct, HE4.out X, Result.andThen_ok]
                  simp) ⟨rfl, Stay.refl _⟩
              · intro ev X hT hb hk hf
                have e0 : ev (.tmp 80) = .bool true := hf.1
                have e1 : ev (.tmp 85) = .bool true := hf.2.1
                exact OpOk.run (v := .bool true) (W' := X) (by simp [execOp, e0, e1, hb, hb.1, hb.2.1, hb.2.2, go_sem]) ⟨rfl, Stay.refl _⟩
              · intro ev X hT hb hk hf
                have e0 : ev (.tmp 86) = .bool true := hf.1
                exact OpOk.assign rfl e0 ⟨rfl, Stay.refl _⟩
            case rest =>
              intro X12 hT
              rintro _ - _ - _ - _ - _ - _ - _ - _ - _ - _ - _ - _ - _ - _ - _ - _ - _ - _ - _ - _ - _ - _ - _ - _ - _ - _ - _ - _ - _ - _ - _ - _ - _ - _ - _ - _ - _ - _ - _ - _ - _ - _ - _ - _ - _ - _ rfl
              have HB12 := hide (all_below (HX10.out.below hT).right.right.right.right.right.right (HS10.out.trans (Str.below hT)))
              clear hT
              go_wp2
              refine Rest.done ?_
              go_wp2_with fail
              go_ret
              exact ⟨rfl, HB12.out⟩
namespace lawScalarRules
theorem own : ownKnob Tryd.prog.godebug = Option.none := by kernel_rfl
theorem laidOut : laidOutB Tryd.prog = true := by kernel_rfl

set_option maxRecDepth 100000 in
theorem contract (H : Type) (enc : TypeId × Value → H) (W : World) (base : Nat) (args : Array Value) (ds gs : List (DataW H)) (before : List MemPlace)
    (hval0 : ∀ (j : Nat) t v, Tryd.f10.params[j]? = some t → args[j]? = some v → Value.okWide Tryd.prog W .any base t v)
    (hW : DataW.Whole enc Tryd.prog Tryd.f10.params.toList Rows.scalarRulesSpec.vars false W args.toList ds gs before) (hsz : (DataW.weightsEach Tryd.prog (Tryd.f10.params.toList ++ (OpenSpec.ofChange Rows.scalarRulesSpec).bare.plain.varTypes Tryd.prog) (ds ++ gs)).all (· ≤ reachBytes) = true) (hL : laidMetH Tryd.prog Rows.scalarRulesRow.laid W) :
    Calls Tryd.prog 10 args W fun e W' => ∃ v, e = .returned v ∧ Rows.scalarRulesSpec.post enc Tryd.prog Tryd.f10 false true false false W args v W' := by
  have hval : ∀ (j : Nat) t v, Tryd.f10.params[j]? = some t → args[j]? = some v → Value.okWide Tryd.prog W .any base t v := hval0
  have hW' := hW
  obtain ⟨p, q, hA0, hV, rfl, hfz, hnd⟩ := hW
  have hA : DataW.TrodAll enc Tryd.prog W 0 (fun _ => true) true Tryd.f10.params.toList args.toList ds p := hA0
  rw [Tryd.params10] at hA hval
  obtain ⟨v0, vs0, d0, ds0, p0, q0, hargs, rfl, rfl, h0, r0⟩ := trodAll_cons hA
  obtain ⟨v1, vs1, d1, ds1, p1, q1, rfl, rfl, rfl, h1, r1⟩ := trodAll_cons r0
  obtain ⟨v2, vs2, d2, ds2, p2, q2, rfl, rfl, rfl, h2, r2⟩ := trodAll_cons r1
  obtain ⟨rfl, rfl, rfl⟩ := trodAll_nil r2
  obtain rfl : args = #[v0, v1, v2] := by cases args; simp_all
  obtain ⟨rfl, rfl⟩ := trodVars_none hV
  have k0 := h0
  have lt0 : ∀ x ∈ p0, x.block < W.heap.size := by obtain ⟨m, hm⟩ := k0; exact DataW.trod_lt m _ _ _ hm
  obtain ⟨s0, rfl, b0⟩ := open_limbs (hval 0 23 v0 rfl rfl) h0
  have k1 := h1
  have lt1 : ∀ x ∈ p1, x.block < W.heap.size := by obtain ⟨m, hm⟩ := k1; exact DataW.trod_lt m _ _ _ hm
  obtain ⟨s1, rfl, b1⟩ := open_limbs (hval 1 23 v1 rfl rfl) h1
  have k2 := h2
  have lt2 : ∀ x ∈ p2, x.block < W.heap.size := by obtain ⟨m, hm⟩ := k2; exact DataW.trod_lt m _ _ _ hm
  obtain ⟨s2, rfl, b2⟩ := open_limbs (hval 2 23 v2 rfl rfl) h2
  clear hA0 hval0 hsz
  refine (walk_ScalarRules W hL s0 b0 s1 b1 s2 b2).mono fun e W' ⟨he, bel⟩ => ?_
  subst he
  exact ⟨_, rfl, _, _, _, [], _, [], hW', trodAll_mk1 (shut_bool Tryd.underlying4 _), (trodAll_cons_mk (Below.trod laidOut (by kernel_rfl) (of_decide_eq_true (by kernel_rfl)) k0 bel lt0) (trodAll_cons_mk (Below.trod laidOut (by kernel_rfl) (of_decide_eq_true (by kernel_rfl)) k1 bel lt1) (trodAll_cons_mk (Below.trod laidOut (by kernel_rfl) (of_decide_eq_true (by kernel_rfl)) k2 bel lt2) trodAll_mk0))), rfl, bel.frame _, fun h => by cases h⟩

/-- a world for the witness: the settled one, the listed variables holding what their initialisers lay -/
def litCells (d : DataW Unit) : Array Value := match d with
  | .agg l => (l.filterMap fun x => match x with | .lit (.int k n) => some (Value.int k n) | _ => Option.none).toArray
  | _ => #[]
noncomputable def laidWorld (os : Os) : World :=
  { World.holding Tryd.prog os ⟨#[], #[], []⟩ with heap := ((World.holding Tryd.prog os ⟨#[], #[], []⟩).heap.modify 4 fun
      | .cells _ t frozen => .cells (litCells Rows.laid_bosun_scalar_order) t frozen
      | o => o) }
theorem laid_met (os : Os) : laidMet Tryd.prog Rows.scalarRulesRow.laid ((laidWorld os).forCall (fun _ _ => 0) ⟨#[], #[.agg #[.int .u64 0, .int .u64 0, .int .u64 0, .int .u64 0], .agg #[.int .u64 0, .int .u64 0, .int .u64 0, .int .u64 0], .agg #[.int .u64 0, .int .u64 0, .int .u64 0, .int .u64 0]], []⟩).memory :=
  laidMet_of_run' 8 (by kernel_rfl) (by kernel_rfl)
theorem reads (os : Os) {H : Type} (enc : TypeId × Value → H) : ∃ places, DataW.whole enc Tryd.prog ((laidWorld os).forCall (fun _ _ => 0) ⟨#[], #[.agg #[.int .u64 0, .int .u64 0, .int .u64 0, .int .u64 0], .agg #[.int .u64 0, .int .u64 0, .int .u64 0, .int .u64 0], .agg #[.int .u64 0, .int .u64 0, .int .u64 0, .int .u64 0]], []⟩).memory Tryd.f10.params.toList Rows.scalarRulesSpec.vars false (#[.agg #[.int .u64 0, .int .u64 0, .int .u64 0, .int .u64 0], .agg #[.int .u64 0, .int .u64 0, .int .u64 0, .int .u64 0], .agg #[.int .u64 0, .int .u64 0, .int .u64 0, .int .u64 0]] : Array Value).toList 8 = some ([.agg (List.replicate 4 (.lit (.int .u64 0))), .agg (List.replicate 4 (.lit (.int .u64 0))), .agg (List.replicate 4 (.lit (.int .u64 0)))], [], places) :=
  ⟨[], by kernel_rfl⟩

set_option maxRecDepth 100000 in
theorem lifted (os : Os) (started : os.Started) (H : Type) (enc : TypeId × Value → H) (F : Stop.Interp) :
    ReturnsInHanded {} Tryd.checked os 10 .any ((OpenSpec.ofChange Rows.scalarRulesSpec).preRow enc Tryd.prog Tryd.f10 Rows.scalarRulesRow.domain false Rows.scalarRulesRow.laid) (((OpenSpec.ofChange Rows.scalarRulesSpec).at F).post enc Tryd.prog Tryd.f10 false true false false) := by
  obtain ⟨places, hx⟩ := reads os enc
  refine returnsInHanded_of_row (C := Tryd.checked) (s := OpenSpec.ofChange Rows.scalarRulesSpec) own started (by kernel_rfl) Tryd.func10
    (witness_row_at (enc := enc) (C := Tryd.checked) false (laidWorld os) #[.agg #[.int .u64 0, .int .u64 0, .int .u64 0, .int .u64 0], .agg #[.int .u64 0, .int .u64 0, .int .u64 0, .int .u64 0], .agg #[.int .u64 0, .int .u64 0, .int .u64 0, .int .u64 0]] rfl (by kernel_rfl) (by kernel_rfl) (by kernel_rfl)
      (OpenSpec.preRow_of_cond 8 hx (by kernel_rfl) (fun k hk => by cases hk) (by kernel_rfl) (laid_met os))) ?_
  intro W base args ds gs before hval hW _ _ hsz hL _ _
  exact contract H enc W base args ds gs before hval hW hsz hL

theorem said : Rows.ScalarRulesSaid :=
  OpenClaim.holds_of_cond 10 Tryd.f10 rfl rfl rfl rfl rfl rfl rfl ⟨rfl, rfl, rfl, rfl, rfl⟩ rfl rfl rfl rfl rfl (by kernel_rfl) Tryd.func10 (by kernel_rfl)
    (of_decide_eq_true (by kernel_rfl)) (by unfold Func.isWrapper; first | (rw [if_pos (by decide +kernel)]; kernel_rfl) | (rw [if_neg (by decide +kernel)]; exact ⟨rfl, rfl⟩))
    (fun os started H enc _ F => by rw [OpenClaim.pre_eq_preRow]; exact lifted os started H enc F)

theorem plain (f : FuncId) (fn : Func) (hf : Tryd.pinned.checked.prog.funcNamed "bosun/bosunlaw06.ScalarRules" = some f) (hfn : Tryd.pinned.checked.prog.funcs[f]? = some fn) :
    false = Tryd.pinned.checked.prog.looks [] ∧ ∀ (j : Nat) t, fn.params[j]? = some t → Tryd.pinned.checked.prog.wantsStandIn t = false := by
  obtain rfl : f = 10 := Option.some.inj ((show Tryd.prog.funcNamed "bosun/bosunlaw06.ScalarRules" = some 10 by kernel_rfl).symm.trans hf) |>.symm
  obtain rfl : fn = Tryd.f10 := (Option.some.inj (Tryd.func10.symm.trans hfn)).symm
  refine ⟨by kernel_rfl, fun j t ht => ?_⟩
  rw [Tryd.params10] at ht
  have hm : t ∈ [23, 23, 23] := by simpa using Array.mem_of_getElem? ht
  have hall : ∀ t ∈ [23, 23, 23], Tryd.prog.wantsStandIn t = false := by
    intro t ht
    simp only [List.mem_cons, List.not_mem_nil, or_false] at ht
    rcases ht with rfl | rfl | rfl <;> kernel_rfl
  exact hall t hm

theorem proved : Rows.ScalarRulesCardSaid :=
  Claim7.holds_tied_plain_at .later [] _ _ _ _ said (fun _ h => by cases h) (by kernel_rfl) (fun _ h => by cases h) scalarRules_row_tie rfl ⟨rfl, rfl⟩ (by kernel_rfl) rfl plain (by kernel_rfl)
end lawScalarRules
end Go.Proofs.YtgkofpfjbjnhfaaDoor
