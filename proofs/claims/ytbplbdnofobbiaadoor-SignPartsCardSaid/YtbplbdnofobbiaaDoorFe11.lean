/- MERGED. the document's numbers of seventeen digits: the prime; comparing; differences. the document's numbers: settled digits; sums, the other sides, differences. the document's numbers: small ones, sums, the other sides, differences. -/
import Derived.Test.YtbplbdnofobbiaaDoorFe8
set_option linter.unusedVariables false
set_option linter.unusedSimpArgs false
set_option maxRecDepth 100000
set_option maxHeartbeats 8000000
namespace Go.Proofs.YtbplbdnofobbiaaDoor
namespace Fe
open Go.ChangeShapes Go.WideShapes Go.ChangeAt Go.RowKit
abbrev nv (x : Nat) : Value := .int .i64 (x : Int)
def dvs (l : List Nat) : Array Value := (l.map nv).toArray
theorem dvs_size (l : List Nat) : (dvs l).size = l.length := by simp [dvs]
theorem dvs_one (l : List Nat) : (dvs l).all (·.oneCell') = true := by
 rw [Array.all_eq_true_iff_forall_mem]
 intro x hx
 simp only [dvs, List.mem_toArray, List.mem_map] at hx
 obtain ⟨y, _, rfl⟩ := hx
 rfl
theorem dvs_get (l : List Nat) (k x : Nat) (h : l[k]? = some x) : (dvs l)[k]? = some (nv x) := by simp [dvs, h]
theorem dvs_set (l : List Nat) (k x : Nat) : (dvs l).setIfInBounds k (nv x) = dvs (l.set k x) := by
 unfold dvs
 rw [List.setIfInBounds_toArray, ← List.map_set]
abbrev n17 (n : Nat) : Array Value := dvs (ds 17 n)
theorem n17_size (n : Nat) : (n17 n).size = 17 := by rw [dvs_size, ds_len]
theorem nz_lit : n17 0 = dvs (List.replicate 17 0) := by
 refine congrArg dvs ?_
 decide
theorem nInfo (n : Nat) : (Tryd.prog.info? 29).map (·.size) = some (n17 n).size := by rw [n17_size]; kernel_rfl
theorem nInfoL (l : List Nat) (h : l.length = 17) : (Tryd.prog.info? 29).map (·.size) = some (dvs l).size := by rw [dvs_size, h]; kernel_rfl
theorem nZero (w : World) : (zeroValue 29).run Tryd.prog w = .ok (.agg (n17 0)) w := by rw [nz_lit]; kernel_rfl
theorem nSize (m n : Nat) : (n17 m).size = (n17 n).size := by rw [n17_size, n17_size]
theorem nOne (n : Nat) : (n17 n).all (·.oneCell') = true := dvs_one _
theorem rowCell {F : SP} {b : Nat} {l : List Nat} {t : TypeId} {w : World} (h : (blk b (.cells (dvs l) t (0, 0)) * F).on w) (k x : Nat) (hx : l[k]? = some x) : w.cell? ⟨b, k, .none⟩ = some (nv x) :=
 (cell_of_row w b k _ _ _ (on_blk_mul h)).trans (dvs_get l k x hx)
theorem rowSet {F : SP} {b : Nat} {l : List Nat} {t : TypeId} {w : World} (h : (blk b (.cells (dvs l) t (0, 0)) * F).on w) (k x : Nat) : (blk b (.cells (dvs (l.set k x)) t (0, 0)) * F).on (w.setCell ⟨b, k, .none⟩ (nv x)) := by
 have := SP.on.setCell (i := k) h (nv x)
 rwa [dvs_set] at this
theorem ds_P5 : (List.replicate 17 32767).set 0 32749 = ds 17 P5 := by decide +kernel
theorem rp_any (w : World) : Calls Tryd.prog 56 #[] w fun e w' => e = .returned (.agg (n17 P5)) ∧ Below w.heap.size w w' := by
 have hun := Tryd.underlying29
 have hzn := nZero
 have h0 := ((on_all w).alloc (.cells (n17 0) 29)).alloc (.cells (n17 0) 29)
 have s0 := ((Str.refl w).alloc (.cells (n17 0) 29)).alloc (.cells (n17 0) 29)
 try simp only [World.size_alloc] at h0
 have H1 := hide h0
 have S1 := hide s0
 clear h0 s0
 obtain ⟨HsP4, HoP4, HzP4⟩ := b3 (nInfo (P5)) (nOne (P5)) (nSize 0 (P5))
 generalize hP4 : n17 (P5) = P4 at *
 have HP4 := hide hP4
 clear hP4
 generalize hZn : n17 0 = Zn at *
 have HZn := hide hZn
 clear hZn
 go_enter Tryd.func56, Tryd.ntmps56
 go_wp2_with fail
 generalize (w.alloc (.cells Zn 29)).alloc (.cells Zn 29) = w1 at *
 go_loopw [2] (fun i wr => ∃ k : Nat, k ≤ 17 ∧ i = .int .i64 k ∧ (blk (w.heap.size + 1) (.cells (dvs ((List.replicate 17 32767).take k ++ (List.replicate 17 0).drop k)) 29 (0, 0)) * (blk w.heap.size (.cells Zn 29 (0, 0)) * all w)).on wr ∧ Str w wr) (fun i _ => 17 - (intOf i).toNat)
 case atStart =>
  refine ⟨0, by omega, rfl, ?_, S1.out⟩
  rw [List.take_zero, List.drop_zero, List.nil_append, ← nz_lit, HZn.out]
  exact H1.out
 case round =>
  obtain ⟨k, hk, rfl, hX, hS2⟩ := hrel
  have HXk := hide hX
  have HSk := hide hS2
  clear hX hS2 H1 S1
  by_cases hlt : k < 17
  ·have hst := rowSet HXk.out k 32767
   rw [set_takeN (List.replicate 17 32767) (List.replicate 17 0) k 32767 (by rw [List.getElem?_replicate, if_pos hlt]) (by simp; omega)] at hst
   have HN := hide hst
   obtain ⟨old, hold⟩ : ∃ v, wr.cell? ⟨w.heap.size + 1, k, .none⟩ = some v := by
    have hl : k < ((List.replicate 17 32767).take k ++ (List.replicate 17 0).drop k).length := by rw [List.length_append, List.length_take, List.length_drop]; simp; omega
    exact ⟨_, rowCell HXk.out k _ (List.getElem?_eq_getElem hl)⟩
   have hfr := frozen_of_row wr (w.heap.size + 1) k _ _ (on_blk_mul HXk.out)
   have hk17 : (k : Int) < 17 := by omega
   clear hst HXk
   go_wp2_with fail
   exact ⟨⟨k + 1, by omega, by simp, HN.out, HSk.out.setCell _ _⟩, by simp [intOf]; omega⟩
  ·obtain rfl : k = 17 := by omega
   have e4 : (List.replicate 17 32767).take 17 ++ (List.replicate 17 0).drop 17 = List.replicate 17 32767 := by decide
   rw [e4] at HXk
   have hst := rowSet HXk.out 0 32749
   rw [ds_P5, show dvs (ds 17 P5) = n17 P5 from rfl, HP4.out] at hst
   have HN := hide hst
   have HS2 := hide (HSk.out.setCell ⟨w.heap.size + 1, 0, .none⟩ (nv 32749))
   have hold := rowCell HXk.out 0 32767 (by decide)
   have hfr := frozen_of_row wr (w.heap.size + 1) 0 _ _ (on_blk_mul HXk.out)
   have gA := on_blk_mul hst
   have gR := on_blk_mul hst.right
   have HB := hide (all_below hst.right.right HS2.out)
   clear hst e4 HXk
   go_wp2_with (first
    | (refine wS gR HsP4 HzP4 HoP4 ?_)
    | (refine wL gA hun HsP4 ?_))
   exact retR Tryd.results56 gR hun HsP4.out rfl HB.out (by omega)
theorem rless_any (a b : Nat) (ha : a < 2 ^ 255) (hb : b < 2 ^ 255) (w : World) :
  Calls Tryd.prog 55 #[.agg (n17 a), .agg (n17 b)] w fun e w' => e = .returned (.bool (decide (a < b))) ∧ Below w.heap.size w w' := by
 have hu := Tryd.underlying29
 have hu6 := Tryd.underlying3
 have h0 := ((on_all w).alloc (.cells (n17 a) 29)).alloc (.cells (n17 b) 29)
 have hs0 := ((Str.refl w).alloc (.cells (n17 a) 29)).alloc (.cells (n17 b) 29)
 simp only [World.size_alloc] at h0
 have H0 := hide h0
 have HS0 := hide hs0
 have Hend := hide (show a / 32768 ^ 17 = b / 32768 ^ 17 by rw [D17, Nat.div_eq_of_lt ha, Nat.div_eq_of_lt hb])
 clear h0 hs0 ha hb
 generalize hA : n17 a = A4 at *
 generalize hB : n17 b = B4 at *
 have HA := hide hA
 have HB := hide hB
 clear hA hB
 go_enter Tryd.func55, Tryd.ntmps55
 go_wp2_with fail
 generalize (w.alloc (.cells A4 29)).alloc (.cells B4 29) = w1 at *
 go_loopw [5] (fun i wr => ∃ k : Nat, k ≤ 17 ∧ i = .int .i64 ((k : Int) - 1) ∧ a / 32768 ^ k = b / 32768 ^ k ∧ (blk (w.heap.size + 1) (.cells B4 29 (0, 0)) * (blk w.heap.size (.cells A4 29 (0, 0)) * all w)).on wr ∧ Str w wr) (fun i _ => (intOf i + 1).toNat)
 case atStart => exact ⟨17, by omega, rfl, Hend.out, H0.out, HS0.out⟩
 case round =>
  obtain ⟨k, hk, rfl, heq, hX, hS2⟩ := hrel
  have HXk := hide hX
  have HSk := hide hS2
  have Heq := hide heq
  clear hX hS2 H0 HS0 heq Hend
  cases k with
  | zero =>
   have HN := hide (show decide (a < b) = false by
    have := Heq.out
    rw [Nat.pow_zero, Nat.div_one, Nat.div_one] at this
    rw [this]; simp)
   have HBw := hide (all_below HXk.out.right.right HSk.out)
   go_wp2_with fail
   go_ret
   exact ⟨by rw [HN.out]; rfl, HBw.out⟩
  | succ k =>
   have hk4 : k < 17 := by omega
   have HcA : Hid (∀ X, (blk w.heap.size (.cells A4 29 (0, 0)) * all w).on X → X.cell? ⟨w.heap.size, k, .none⟩ = some (nv (dg a k))) := hide fun X hX => by rw [cell_of_row X w.heap.size k A4 _ _ (on_blk_mul hX), ← HA.out]; exact dvs_get _ k (dg a k) (ds_get 17 a k hk4)
   have HcB : Hid (∀ X, (blk (w.heap.size + 1) (.cells B4 29 (0, 0)) * (blk w.heap.size (.cells A4 29 (0, 0)) * all w)).on X → X.cell? ⟨w.heap.size + 1, k, .none⟩ = some (nv (dg b k))) := hide fun X hX => by rw [cell_of_row X (w.heap.size + 1) k B4 _ _ (on_blk_mul hX), ← HB.out]; exact dvs_get _ k (dg b k) (ds_get 17 b k hk4)
   have HL := hide (lt_dg a b k Heq.out)
   have l1 := dg_lt a k
   have l2 := dg_lt b k
   have s1 : (((k + 1 : Nat) : Int) - 1) = (k : Int) := by omega
   rw [s1]
   clear s1
   generalize dg a k = x at *
   generalize dg b k = y at *
   have hk4' : (k : Int) < 17 := by omega
   by_cases hxy : x = y
   ·have he := HL.out.2 hxy
    have He := hide he
    have Hxy := hide hxy
    clear he hxy
    go_wp2_with fail
    refine wp_region_vs [isV (.int .i64 (k : Int)), isV (.pointer (some ⟨w.heap.size, k, .none⟩)), isV (nv x), isV (.int .i64 (k : Int)), isV (.pointer (some ⟨w.heap.size + 1, k, .none⟩)), isV (nv y), isV (.bool false)]
     (by kernel_rfl) (by kernel_rfl) rfl ?keep ?todo ?r43
    case keep => repeat (first | exact trivial | refine ⟨Keep.isV _, ?_⟩)
    case todo =>
     refine ⟨?_, ?_, ?_, ?_, ?_, ?_, ?_, trivial⟩
     ·exact fun _ _ _ _ hk hf => OpOk.m rfl hk.1
     ·intro ev X hT hb hk hf
      have e0 : ev (.tmp 2) = .pointer (some ⟨w.heap.size, 0, .none⟩) := hk.1
      have e1 : ev (.tmp 10) = _ := hf.1
      exact OpOk.r (by simp [execOp, e0, e1, hb.1, hk4', go_sem]; try (intro h; omega))
     ·intro ev X hT hb hk hf
      have e0 : ev (.tmp 11) = _ := hf.1
      have cW := HcA.out X (HXk.out.below hT).right
      exact OpOk.r (by simp [execOp, e0, cW, go_sem])
     ·exact fun _ _ _ _ hk hf => OpOk.m rfl hk.1
     ·intro ev X hT hb hk hf
      have e0 : ev (.tmp 3) = .pointer (some ⟨w.heap.size + 1, 0, .none⟩) := hk.1
      have e1 : ev (.tmp 13) = _ := hf.1
      exact OpOk.r (by simp [execOp, e0, e1, hb.1, hk4', go_sem]; try (intro h; omega))
     ·intro ev X hT hb hk hf
      have e0 : ev (.tmp 14) = _ := hf.1
      have cW := HcB.out X (HXk.out.below hT)
      exact OpOk.r (by simp [execOp, e0, cW, go_sem])
     ·intro ev X hT hb hk hf
      have e0 : ev (.tmp 12) = _ := hf.1
      have e1 : ev (.tmp 15) = _ := hf.2.1
      exact OpOk.run (v := .bool false) (W' := X) (by have h9 := Hxy.out; have h8 : ((x : Int) = (y : Int)) := (by omega); simp [execOp, e0, e1, h8, go_sem]) ⟨rfl, Stay.refl _⟩
    intro X hT
    rintro _ - _ - _ - _ - _ - _ - _ rfl
    have HX2 := hide (HXk.out.below hT)
    have HS2 := hide (HSk.out.trans (Str.below hT))
    clear hT
    go_wp2
    refine Rest.done ?_
    go_wp2_with fail
    exact ⟨⟨k, by omega, rfl, He.out, HX2.out, HS2.out⟩, by simp [intOf]⟩
   ·have Hd := hide (HL.out.1 hxy)
    have Hxy := hide hxy
    clear hxy
    go_wp2_with fail
    refine wp_region_vs [isV (.int .i64 (k : Int)), isV (.pointer (some ⟨w.heap.size, k, .none⟩)), isV (nv x), isV (.int .i64 (k : Int)), isV (.pointer (some ⟨w.heap.size + 1, k, .none⟩)), isV (nv y), isV (.bool true)]
     (by kernel_rfl) (by kernel_rfl) rfl ?keep ?todo ?r44
    case keep => repeat (first | exact trivial | refine ⟨Keep.isV _, ?_⟩)
    case todo =>
     refine ⟨?_, ?_, ?_, ?_, ?_, ?_, ?_, trivial⟩
     ·exact fun _ _ _ _ hk hf => OpOk.m rfl hk.1
     ·intro ev X hT hb hk hf
      have e0 : ev (.tmp 2) = .pointer (some ⟨w.heap.size, 0, .none⟩) := hk.1
      have e1 : ev (.tmp 10) = _ := hf.1
      exact OpOk.r (by simp [execOp, e0, e1, hb.1, hk4', go_sem]; try (intro h; omega))
     ·intro ev X hT hb hk hf
      have e0 : ev (.tmp 11) = _ := hf.1
      have cW := HcA.out X (HXk.out.below hT).right
      exact OpOk.r (by simp [execOp, e0, cW, go_sem])
     ·exact fun _ _ _ _ hk hf => OpOk.m rfl hk.1
     ·intro ev X hT hb hk hf
      have e0 : ev (.tmp 3) = .pointer (some ⟨w.heap.size + 1, 0, .none⟩) := hk.1
      have e1 : ev (.tmp 13) = _ := hf.1
      exact OpOk.r (by simp [execOp, e0, e1, hb.1, hk4', go_sem]; try (intro h; omega))
     ·intro ev X hT hb hk hf
      have e0 : ev (.tmp 14) = _ := hf.1
      have cW := HcB.out X (HXk.out.below hT)
      exact OpOk.r (by simp [execOp, e0, cW, go_sem])
     ·intro ev X hT hb hk hf
      have e0 : ev (.tmp 12) = _ := hf.1
      have e1 : ev (.tmp 15) = _ := hf.2.1
      exact OpOk.run (v := .bool true) (W' := X) (by have h9 := Hxy.out; have h8 : ¬((x : Int) = (y : Int)) := (by omega); simp [execOp, e0, e1, h8, go_sem]) ⟨rfl, Stay.refl _⟩
    intro X hT
    rintro _ - _ - _ - _ - _ - _ - _ rfl
    have HX2 := hide (HXk.out.below hT)
    have HS2 := hide (HSk.out.trans (Str.below hT))
    clear hT
    go_wp2
    refine Rest.done ?_
    go_wp2_with fail
    refine wp_region_vs [isV (.int .i64 (k : Int)), isV (.pointer (some ⟨w.heap.size, k, .none⟩)), isV (nv x), isV (.int .i64 (k : Int)), isV (.pointer (some ⟨w.heap.size + 1, k, .none⟩)), isV (nv y), isV (.bool (decide (x < y))), isV (.bool (decide (x < y)))]
     (by kernel_rfl) (by kernel_rfl) rfl ?keep ?todo ?r45
    case keep => repeat (first | exact trivial | refine ⟨Keep.isV _, ?_⟩)
    case todo =>
     refine ⟨?_, ?_, ?_, ?_, ?_, ?_, ?_, ?_, trivial⟩
     ·exact fun _ _ _ _ hk hf => OpOk.m rfl hk.1
     ·intro ev X hT hb hk hf
      have e0 : ev (.tmp 2) = .pointer (some ⟨w.heap.size, 0, .none⟩) := hk.1
      have e1 : ev (.tmp 17) = _ := hf.1
      exact OpOk.r (by simp [execOp, e0, e1, hb.1, hk4', go_sem]; try (intro h; omega))
     ·intro ev X hT hb hk hf
      have e0 : ev (.tmp 18) = _ := hf.1
      have cW := HcA.out X (HX2.out.below hT).right
      exact OpOk.r (by simp [execOp, e0, cW, go_sem])
     ·exact fun _ _ _ _ hk hf => OpOk.m rfl hk.1
     ·intro ev X hT hb hk hf
      have e0 : ev (.tmp 3) = .pointer (some ⟨w.heap.size + 1, 0, .none⟩) := hk.1
      have e1 : ev (.tmp 20) = _ := hf.1
      exact OpOk.r (by simp [execOp, e0, e1, hb.1, hk4', go_sem]; try (intro h; omega))
     ·intro ev X hT hb hk hf
      have e0 : ev (.tmp 21) = _ := hf.1
      have cW := HcB.out X (HX2.out.below hT)
      exact OpOk.r (by simp [execOp, e0, cW, go_sem])
     ·intro ev X hT hb hk hf
      have e0 : ev (.tmp 19) = _ := hf.1
      have e1 : ev (.tmp 22) = _ := hf.2.1
      exact OpOk.r (by simp [execOp, e0, e1, go_sem])
     ·intro ev X hT hb hk hf
      have e0 : ev (.tmp 23) = _ := hf.1
      exact OpOk.assign rfl e0 ⟨rfl, Stay.refl _⟩
    intro X5 hT5
    rintro _ - _ - _ - _ - _ - _ - _ rfl _ rfl
    have HX5 := hide (HX2.out.below hT5)
    have HS5 := hide (HS2.out.trans (Str.below hT5))
    clear hT5
    go_wp2
    refine Rest.done ?_
    go_wp2_with fail
    go_ret
    exact ⟨by rw [← Hd.out]; rfl, all_below HX5.out.right.right HS5.out⟩
theorem under_any (a b : Nat) (ha : a < 2 ^ 255) (hb : b ≤ a) (w : World) :
  Calls Tryd.prog 78 #[.agg (n17 a), .agg (n17 b)] w fun e w' => e = .returned (.agg (n17 (a - b))) ∧ Below w.heap.size w w' := by
 have hun := Tryd.underlying29
 have hzn := nZero
 have h0 := (((on_all w).alloc (.cells (n17 (a)) 29)).alloc (.cells (n17 (b)) 29)).alloc (.cells (n17 0) 29)
 have s0 := (((Str.refl w).alloc (.cells (n17 (a)) 29)).alloc (.cells (n17 (b)) 29)).alloc (.cells (n17 0) 29)
 try simp only [World.size_alloc] at h0
 have H1 := hide h0
 have S1 := hide s0
 clear h0 s0
 have Hab := hide (fun k => sub_dg a b hb k)
 have hlen : ∀ k, k ≤ 17 → ((ds 17 (a - b)).take k ++ (ds 17 a).drop k).length = 17 := fun k hk => by rw [List.length_append, List.length_take, List.length_drop, ds_len, ds_len]; omega
 have Hlen := hide hlen
 clear hlen ha hb
 obtain ⟨HsAn, HoAn, HzAn⟩ := b3 (nInfo (a)) (nOne (a)) (nSize 0 (a))
 obtain ⟨HsBn, HoBn, HzBn⟩ := b3 (nInfo (b)) (nOne (b)) (nSize 0 (b))
 obtain ⟨HsRn, HoRn, HzRn⟩ := b3 (nInfo (a - b)) (nOne (a - b)) (nSize 0 (a - b))
 generalize hAn : n17 (a) = An at *
 have HAn := hide hAn
 clear hAn
 generalize hBn : n17 (b) = Bn at *
 have HBn := hide hBn
 clear hBn
 generalize hRn : n17 (a - b) = Rn at *
 have HRn := hide hRn
 clear hRn
 generalize hZn : n17 0 = Zn at *
 have HZn := hide hZn
 clear hZn
 go_enter Tryd.func78, Tryd.ntmps78
 go_wp2_with fail
 generalize ((w.alloc (.cells An 29)).alloc (.cells Bn 29)).alloc (.cells Zn 29) = w1 at *
 go_loopw [5, 6] (fun bv i wr => ∃ k : Nat, k ≤ 17 ∧ i = .int .i64 k ∧ bv = nv (ub a b k) ∧ (blk w.heap.size (.cells (dvs ((ds 17 (a - b)).take k ++ (ds 17 a).drop k)) 29 (0, 0)) * (blk (w.heap.size + 1) (.cells Bn 29 (0, 0)) * (blk (w.heap.size + 1 + 1) (.cells Zn 29 (0, 0)) * all w))).on wr ∧ Str w wr) (fun _ i _ => 17 - (intOf i).toNat)
 case atStart =>
  refine ⟨0, by omega, rfl, by rw [ub_0]; rfl, ?_, S1.out⟩
  rw [List.take_zero, List.drop_zero, List.nil_append, show dvs (ds 17 a) = n17 a from rfl, HAn.out]
  have := H1.out
  have e : ∀ P Q R T : SP, P * (Q * (R * T)) = R * (Q * (P * T)) := fun P Q R T => by ac_rfl
  rw [e] at this
  exact this
 case round =>
  obtain ⟨k, hk, rfl, rfl, hX, hS2⟩ := hrel
  have HXk := hide hX
  have HSk := hide hS2
  clear hX hS2 H1 S1
  by_cases hlt : k < 17
  ·have hstep := ub_step a b k
   have hsub := Hab.out k
   have Hset := hide (set_takeN (ds 17 (a - b)) (ds 17 a) k (dg (a - b) k) (ds_get 17 _ k hlt) (by rw [ds_len]; exact hlt))
   have hget := mid_get (ds 17 (a - b)) (ds 17 a) k (by rw [ds_len]; exact hk)
   rw [ds_get 17 a k hlt] at hget
   have HcB : Hid (∀ X, (blk (w.heap.size + 1) (.cells Bn 29 (0, 0)) * (blk (w.heap.size + 1 + 1) (.cells Zn 29 (0, 0)) * all w)).on X → X.cell? ⟨w.heap.size + 1, k, .none⟩ = some (nv (dg b k))) := hide fun X hX => by rw [cell_of_row X (w.heap.size + 1) k Bn _ _ (on_blk_mul hX), ← HBn.out]; exact dvs_get _ k (dg b k) (ds_get 17 b k hlt)
   obtain ⟨pl, hpl2⟩ : ∃ pl, pl = (ds 17 (a - b)).take k ++ (ds 17 a).drop k := ⟨_, rfl⟩
   rw [← hpl2] at HXk Hset hget
   have HcA : Hid (∀ X, (blk w.heap.size (.cells (dvs pl) 29 (0, 0)) * (blk (w.heap.size + 1) (.cells Bn 29 (0, 0)) * (blk (w.heap.size + 1 + 1) (.cells Zn 29 (0, 0)) * all w))).on X → X.cell? ⟨w.heap.size, k, .none⟩ = some (nv (dg a k))) := hide fun X hX => rowCell hX k _ hget
   have l1 := dg_lt a k
   have l2 := dg_lt b k
   have l3 := dg_lt (a - b) k
   have l4 := ub_le a b k
   have Hstep := hide hstep
   have Hsub := hide hsub
   clear hstep hsub hpl2 hget
   generalize dg a k = x at *
   generalize dg b k = y at *
   generalize ub a b k = bb at *
   generalize hbb2 : ub a b (k + 1) = bb2 at *
   have Hbb2 := hide hbb2
   clear hbb2
   generalize dg (a - b) k = dk at *
   obtain ⟨d1, hd1⟩ : ∃ d1 : Int, d1 = (x : Int) - (y : Int) := ⟨_, rfl⟩
   obtain ⟨d2, hd2⟩ : ∃ d2 : Int, d2 = d1 - (bb : Int) := ⟨_, rfl⟩
   have q1 : IntKind.i64.wrap ((x : Int) - (y : Int)) = d1 := by rw [IntWalk.i64_in _ (by omega)]; omega
   have q2 : IntKind.i64.wrap (d1 - (bb : Int)) = d2 := by rw [IntWalk.i64_in _ (by omega)]; omega
   have Q1 := hide q1
   have Q2 := hide q2
   have Hd := hide (show d2 = (x : Int) - (y : Int) - (bb : Int) by omega)
   have b1 : -40000 < d2 := by omega
   have b2 : d2 < 40000 := by omega
   clear q1 q2 hd1 hd2
   have hk4 : (k : Int) < 17 := by omega
   go_wp2_with fail
   refine wp_region_vs [isV (.int .i64 (k : Int)), isV (.pointer (some ⟨w.heap.size, k, .none⟩)), isV (nv x), isV (.int .i64 (k : Int)), isV (.pointer (some ⟨w.heap.size + 1, k, .none⟩)), isV (nv y), isV (.int .i64 d1), isV (nv bb), isV (.int .i64 d2), isV (.int .i64 d2)]
    (by kernel_rfl) (by kernel_rfl) rfl ?keep ?todo ?r46
   case keep => repeat (first | exact trivial | refine ⟨Keep.isV _, ?_⟩)
   case todo =>
    refine ⟨?_, ?_, ?_, ?_, ?_, ?_, ?_, ?_, ?_, ?_, trivial⟩
    ·exact fun _ _ _ _ hk hf => OpOk.m rfl hk.1
    ·intro ev X hT hb hk hf
     have e0 : ev (.tmp 2) = .pointer (some ⟨w.heap.size, 0, .none⟩) := hk.1
     have e1 : ev (.tmp 12) = _ := hf.1
     exact OpOk.r (by simp [execOp, e0, e1, hb.1, hk4, go_sem]; try (intro h; omega))
    ·intro ev X hT hb hk hf
     have e0 : ev (.tmp 13) = _ := hf.1
     have cW := HcA.out X (HXk.out.below hT)
     exact OpOk.r (by simp [execOp, e0, cW, go_sem])
    ·exact fun _ _ _ _ hk hf => OpOk.m rfl hk.1
    ·intro ev X hT hb hk hf
     have e0 : ev (.tmp 3) = .pointer (some ⟨w.heap.size + 1, 0, .none⟩) := hk.1
     have e1 : ev (.tmp 15) = _ := hf.1
     exact OpOk.r (by simp [execOp, e0, e1, hb.1, hk4, go_sem]; try (intro h; omega))
    ·intro ev X hT hb hk hf
     have e0 : ev (.tmp 16) = _ := hf.1
     have cW := HcB.out X (HXk.out.below hT).right
     exact OpOk.r (by simp [execOp, e0, cW, go_sem])
    ·intro ev X hT hb hk hf
     have e0 : ev (.tmp 14) = _ := hf.1
     have e1 : ev (.tmp 17) = _ := hf.2.1
     exact OpOk.r (by have h9 := Q1.out; simp [execOp, e0, e1, h9, go_sem])
    ·exact fun _ _ _ _ hk hf => OpOk.m rfl hk.1
    ·intro ev X hT hb hk hf
     have e0 : ev (.tmp 18) = _ := hf.1
     have e1 : ev (.tmp 19) = _ := hf.2.1
     exact OpOk.r (by have h9 := Q2.out; simp [execOp, e0, e1, h9, go_sem])
    ·intro ev X hT hb hk hf
     have e0 : ev (.tmp 20) = _ := hf.1
     exact OpOk.assign rfl e0 ⟨rfl, Stay.refl _⟩
   intro X hT
   rintro _ - _ - _ - _ - _ - _ - _ - _ - _ - _ rfl
   have HX2 := hide (HXk.out.below hT)
   have HS2 := hide (HSk.out.trans (Str.below hT))
   clear hT HXk HSk
   go_wp2
   refine Rest.done ?_
   have hold := HcA.out X HX2.out
   have hfr := frozen_of_row X w.heap.size k _ _ (on_blk_mul HX2.out)
   have hfin := rowSet HX2.out k dk
   rw [Hset.out] at hfin
   have HF := hide hfin
   clear hfin
   by_cases c1 : d2 < 0
   ·have hN := show bb2 = 1 by have := Hstep.out; have := Hd.out; rw [if_pos (by omega)] at *; omega
    have s1 : IntKind.i64.wrap (d2 + 32768) = (dk : Int) := by rw [IntWalk.i64_in _ (by omega)]; have := Hsub.out; have := Hd.out; omega
    have HN := hide hN
    clear hN
    go_wp2_with fail
    exact ⟨⟨k + 1, by omega, by simp, by rw [Hbb2.out, HN.out]; rfl, HF.out, HS2.out.setCell _ _⟩, by simp [intOf]; omega⟩
   ·have hN := show bb2 = 0 by have := Hstep.out; have := Hd.out; rw [if_neg (by omega)] at *; omega
    have s1 : d2 = (dk : Int) := by have := Hsub.out; have := Hd.out; omega
    have HN := hide hN
    have Hs1 := hide s1
    clear hN s1
    go_wp2_with fail
    exact ⟨⟨k + 1, by omega, by simp, by rw [Hbb2.out, HN.out]; rfl, by rw [Hs1.out]; exact HF.out, HS2.out.setCell _ _⟩, by simp [intOf]; omega⟩
  ·obtain rfl : k = 17 := by omega
   have e4 : (ds 17 (a - b)).take 17 ++ (ds 17 a).drop 17 = ds 17 (a - b) := by rw [List.take_of_length_le (by rw [ds_len]; omega), List.drop_of_length_le (by rw [ds_len]; omega), List.append_nil]
   rw [e4, show dvs (ds 17 (a - b)) = n17 (a - b) from rfl, HRn.out] at HXk
   have gA := on_blk_mul HXk.out
   have gR := on_blk_mul HXk.out.right.right
   have HB := hide (all_below HXk.out.right.right.right HSk.out)
   clear e4 HXk
   go_wp2_with (first
    | (refine wS gR HsRn HzRn HoRn ?_)
    | (refine wL gA hun HsRn ?_))
   exact retR Tryd.results78 gR hun HsRn.out rfl HB.out (by omega)
end Fe
end Go.Proofs.YtbplbdnofobbiaaDoor
namespace Go.Proofs.YtbplbdnofobbiaaDoor
namespace Fe
open Go.ChangeShapes Go.WideShapes Go.ChangeAt Go.RowKit
theorem St.start (l : List Nat) (hl : l.length = 17) (hM : ∀ x ∈ l, x ≤ 1152921504606846976) : St (dval l) 0 l :=
 ⟨hl, hM, rfl, fun h => by omega, fun h => by omega, fun h => by omega⟩
theorem cy_le60 (l : List Nat) (h : ∀ x ∈ l, x ≤ 1152921504606846976) (k : Nat) (hk : k ≤ l.length) : cy l k ≤ 70368744177664 := by
 have := cy_le l _ h k hk
 omega
theorem settle_any (l0 : List Nat) (hl : l0.length = 17) (hM : ∀ x ∈ l0, x ≤ 1152921504606846976) (w : World) :
  Calls Tryd.prog 77 #[.agg (dvs l0)] w fun e w' => e = .returned (.agg (n17 (dval l0 % P5))) ∧ Below w.heap.size w w' := by
 have hst := St.start l0 hl hM
 have hin : (dvs l0).size = 17 := by rw [dvs_size, hl]
 generalize dval l0 = V at *
 have h0 := ((on_all w).alloc (.cells (dvs l0) 29)).alloc (.cells (n17 0) 29)
 have s0 := ((Str.refl w).alloc (.cells (dvs l0) 29)).alloc (.cells (n17 0) 29)
 simp only [World.size_alloc] at h0
 rw [SP.mul_left_comm] at h0
 have H1 := hide h0
 have S1 := hide s0
 have Hst := hide hst
 have hun := Tryd.underlying29
 have hzn := nZero
 clear h0 s0 hl hM hst
 have HsP4 := hide (nInfo P5)
 obtain ⟨HsR, HoR, HzR⟩ := b3 (nInfo (V % P5)) (nOne (V % P5)) (nSize 0 (V % P5))
 have HI := hide nInfo
 have HS := hide nSize
 have HP := hide (fun X => rp_any X)
 have HPlt : Hid (P5 < 2 ^ 255) := hide (by decide +kernel)
 generalize hP4 : n17 P5 = P4 at *
 generalize hZn : n17 0 = Zn at *
 generalize hR : n17 (V % P5) = Rn at *
 have HP4 := hide hP4
 have HZn := hide hZn
 have HR := hide hR
 clear hP4 hZn hR
 generalize hL0 : dvs l0 = L0 at *
 have HL0 := hide hL0
 clear hL0
 go_enter Tryd.func77, Tryd.ntmps77
 go_wp2_with fail
 generalize (w.alloc (.cells L0 29)).alloc (.cells Zn 29) = w1 at *
 go_loopw [3] (fun i wr => ∃ r : Nat, r ≤ 4 ∧ i = .int .i64 r ∧ ∃ l, St V r l ∧ (blk w.heap.size (.cells (dvs l) 29 (0, 0)) * (blk (w.heap.size + 1) (.cells Zn 29 (0, 0)) * all w)).on wr ∧ Str w wr) (fun i _ => 4 - (intOf i).toNat)
 case atStart => exact ⟨0, by omega, rfl, l0, Hst.out, by rw [HL0.out]; exact H1.out, S1.out⟩
 case round =>
  obtain ⟨r, hr, rfl, l, hst, hX, hS2⟩ := hrel
  have HXr := hide hX
  have HSr := hide hS2
  have Hl := hide hst
  clear hX hS2 hst H1 S1 Hst
  by_cases hlt : r < 4
  ·have hr4 : (r : Int) < 4 := by omega
   go_wp2_with fail
   go_loopw [4, 5] (fun cv i wr => ∃ k : Nat, k ≤ 17 ∧ i = .int .i64 k ∧ cv = nv (cy l k) ∧ (blk w.heap.size (.cells (dvs ((ds 17 (dval l)).take k ++ l.drop k)) 29 (0, 0)) * (blk (w.heap.size + 1) (.cells Zn 29 (0, 0)) * all w)).on wr ∧ Str w wr) (fun _ i _ => 17 - (intOf i).toNat)
   case atStart => exact ⟨0, by omega, rfl, by rw [cy_0]; rfl, by rw [List.take_zero, List.drop_zero, List.nil_append]; exact HXr.out, HSr.out⟩
   case round =>
    obtain ⟨k, hk, rfl, rfl, hX, hS2⟩ := hrel
    have HXk := hide hX
    have HSk := hide hS2
    clear hX hS2 HXr HSr
    by_cases hlt2 : k < 17
    ·have hlk : k < l.length := by rw [Hl.out.len]; exact hlt2
     obtain ⟨q1, q2⟩ := cy_step l k l[k] (List.getElem?_eq_getElem hlk)
     have hcb := cy_le60 l Hl.out.le k (by omega)
     have hxb := Hl.out.le l[k] (List.getElem_mem hlk)
     have hget := mid_get (ds 17 (dval l)) l k (by rw [ds_len]; exact hk)
     rw [List.getElem?_eq_getElem hlk] at hget
     have hold := rowCell HXk.out k _ hget
     have hfr := frozen_of_row wr w.heap.size k _ _ (on_blk_mul HXk.out)
     have hset := rowSet HXk.out k (dg (dval l) k)
     rw [set_takeN (ds 17 (dval l)) l k (dg (dval l) k) (ds_get 17 _ k hlt2) hlk, q2] at hset
     have HN := hide hset
     have Hq1 := hide q1
     clear hset hget q1 q2 HXk
     generalize l[k] = x at *
     generalize cy l k = c at *
     have s1 : IntKind.i64.wrap ((x : Int) + (c : Int)) = ((x + c : Nat) : Int) := by rw [IntWalk.i64_in _ (by omega)]; omega
     have hyb : x + c ≤ 1153000000000000000 := by omega
     generalize x + c = y at *
     have c1 : IntKind.i64.wrap ((y : Int) / 32768) = ((y / 32768 : Nat) : Int) := by rw [IntWalk.i64_in _ (by omega)]; omega
     have c2 : ((y : Int)).tmod 32768 = ((y % 32768 : Nat) : Int) := by rw [Int.tmod_eq_emod_of_nonneg (by omega)]; omega
     have hk17 : (k : Int) < 17 := by omega
     go_wp2_with fail
     exact ⟨⟨k + 1, by omega, by simp, by rw [Hq1.out]; exact congrArg (Value.int .i64) (by omega), HN.out, HSk.out.setCell _ _⟩, by simp [intOf]; omega⟩
    ·obtain rfl : k = 17 := by omega
     have e4 : (ds 17 (dval l)).take 17 ++ l.drop 17 = ds 17 (dval l) := by rw [List.take_of_length_le (by rw [ds_len]; omega), List.drop_of_length_le (by rw [Hl.out.len]; omega), List.append_nil]
     rw [e4] at HXk
     have hcb := cy_le60 l Hl.out.le 17 (by rw [Hl.out.len]; omega)
     have hold := rowCell HXk.out 0 (dg (dval l) 0) (ds_get 17 _ 0 (by decide))
     have hfr := frozen_of_row wr w.heap.size 0 _ _ (on_blk_mul HXk.out)
     have hset := rowSet HXk.out 0 (dg (dval l) 0 + 19 * cy l 17)
     have Hnx := hide (show (ds 17 (dval l)).set 0 (dg (dval l) 0 + 19 * cy l 17) = nextS l from rfl)
     rw [Hnx.out] at hset
     have HN := hide hset
     have hdb := dg_lt (dval l) 0
     have HNx := hide Hl.out.next
     clear hset e4 HXk Hnx
     generalize dg (dval l) 0 = d at *
     generalize cy l 17 = c at *
     have s1 : IntKind.i64.wrap (19 * (c : Int)) = ((19 * c : Nat) : Int) := by rw [IntWalk.i64_in _ (by omega)]; omega
     have s2 : IntKind.i64.wrap ((d : Int) + ((19 * c : Nat) : Int)) = ((d + 19 * c : Nat) : Int) := by rw [IntWalk.i64_in _ (by omega)]; omega
     generalize hcc : 19 * c = cc at *
     have Hcc := hide hcc
     clear hcc
     go_wp2_with fail
     exact ⟨⟨r + 1, by omega, by simp, nextS l, HNx.out, HN.out, HSk.out.setCell _ _⟩, by simp [intOf]; omega⟩
  ·obtain rfl : r = 4 := by omega
   obtain ⟨v, rfl, hv1, hv2⟩ := Hl.out.done
   have H2 := HXr
   have S2 := HSr
   have HsVn := hide (HI.out v)
   have HoVn := hide (nOne v)
   obtain ⟨HsUn, HoUn, HzUn⟩ := b3 (HI.out (v - P5)) (nOne (v - P5)) (HS.out v (v - P5))
   have HzVn := hide (HS.out 0 v)
   have HzUn2 := hide (HS.out 0 (v - P5))
   rw [HZn.out] at HzVn HzUn2
   have HL := hide (fun X => rless_any v P5 hv1 HPlt.out X)
   have HU := hide (fun h X => under_any v P5 hv1 h X)
   clear Hl HXr HSr hv1
   by_cases hvp : v < P5
   ·rw [if_pos hvp] at hv2
    have HV : Hid (n17 v = Rn) := hide (by rw [hv2, HR.out])
    simp only [hvp, decide_true] at HL
    clear hvp hv2 HU HzUn HzUn2 HoUn HsUn
    rw [show dvs (ds 17 v) = n17 v from rfl] at H2
    generalize n17 v = Vn at *
    rw [HP4.out] at HL
    go_wp2_with fail
    refine wp_region_vs [isV (.agg Vn), isV (.agg P4), isV (.bool true), isV (.bool false)]
     (by kernel_rfl) (by kernel_rfl) rfl ?keep ?todo ?r47
    case keep => exact ⟨Keep.isV _, Keep.isV _, Keep.isV _, Keep.isV _, trivial⟩
    case todo =>
     refine ⟨?_, ?_, ?_, ?_, trivial⟩
     ·exact fun ev X hT hb hk hf => OpOk.l (x := .tmp 1) hk.1 (on_blk_mul (H2.out.below hT)) hun HsVn.out
     ·intro ev X hT hb hk hf
      exact OpOk.c (by simp [execOp, resolve, invoke, hb.1, hb.2.1, go_sem]) (HP.out X)
     ·intro ev X hT hb hk hf
      have e0 : ev (.tmp 32) = _ := hf.1
      have e1 : ev (.tmp 33) = _ := hf.2.1
      exact OpOk.c (by simp [execOp, resolve, invoke, e0, e1, hb.1, hb.2.1, go_sem]) (HL.out X)
     ·intro ev X hT hb hk hf
      have e0 : ev (.tmp 34) = _ := hf.1
      exact OpOk.r (by simp [execOp, e0, hb.1, go_sem])
    intro w3 hX
    rintro _ - _ - _ - _ rfl
    obtain ⟨H3, S3⟩ := nx H2.out S2.out hX
    clear hX H2 S2
    go_wp2
    refine Rest.done ?_
    have g0 := on_blk_mul H3.out
    have gR := on_blk_mul H3.out.right
    have HB := hide (all_below H3.out.right.right S3.out)
    go_wp2_with (first
     | (refine wS gR HsVn HzVn HoVn ?_)
     | (refine wL g0 hun HsVn ?_))
    exact retE Tryd.results77 gR hun HsVn.out rfl (by rw [HV.out]) HB.out (by omega)
   ·rw [if_neg hvp] at hv2
    have HV : Hid (n17 (v - P5) = Rn) := hide (by rw [hv2, HR.out])
    have HL2 : Hid (∀ X, Calls Tryd.prog 55 #[.agg (n17 v), .agg P4] X fun e w' => e = .returned (.bool false) ∧ Below X.heap.size X w') := hide fun X => by
     have := HL.out X
     rwa [decide_eq_false hvp, HP4.out] at this
    have HU2 : Hid (∀ X, Calls Tryd.prog 78 #[.agg (n17 v), .agg P4] X fun e w' => e = .returned (.agg (n17 (v - P5))) ∧ Below X.heap.size X w') := hide fun X => by
     have := HU.out (by omega) X
     rwa [HP4.out] at this
    clear hvp hv2 HL HU
    have HL := HL2
    clear HL2
    rw [show dvs (ds 17 v) = n17 v from rfl] at H2
    generalize n17 v = Vn at *
    generalize n17 (v - P5) = Un at *
    go_wp2_with fail
    refine wp_region_vs [isV (.agg Vn), isV (.agg P4), isV (.bool false), isV (.bool true)]
     (by kernel_rfl) (by kernel_rfl) rfl ?keep ?todo ?r48
    case keep => exact ⟨Keep.isV _, Keep.isV _, Keep.isV _, Keep.isV _, trivial⟩
    case todo =>
     refine ⟨?_, ?_, ?_, ?_, trivial⟩
     ·exact fun ev X hT hb hk hf => OpOk.l (x := .tmp 1) hk.1 (on_blk_mul (H2.out.below hT)) hun HsVn.out
     ·intro ev X hT hb hk hf
      exact OpOk.c (by simp [execOp, resolve, invoke, hb.1, hb.2.1, go_sem]) (HP.out X)
     ·intro ev X hT hb hk hf
      have e0 : ev (.tmp 32) = _ := hf.1
      have e1 : ev (.tmp 33) = _ := hf.2.1
      exact OpOk.c (by simp [execOp, resolve, invoke, e0, e1, hb.1, hb.2.1, go_sem]) (HL.out X)
     ·intro ev X hT hb hk hf
      have e0 : ev (.tmp 34) = _ := hf.1
      exact OpOk.r (by simp [execOp, e0, hb.1, go_sem])
    intro w3 hX
    rintro _ - _ - _ - _ rfl
    obtain ⟨H3, S3⟩ := nx H2.out S2.out hX
    clear hX H2 S2
    go_wp2
    refine Rest.done ?_
    go_wp2_with fail
    refine wp_tail 3 [isV (.agg Vn), isV (.agg P4), isV (.agg Un)] ?keep ?todo ?r49
    case keep => exact ⟨Keep.isV _, Keep.isV _, Keep.isV _, trivial⟩
    case todo =>
     refine ⟨?_, ?_, ?_, trivial⟩
     ·exact fun ev X hT hb hk hf => OpOk.l (x := .tmp 1) hk.1 (on_blk_mul (H3.out.below hT)) hun HsVn.out
     ·intro ev X hT hb hk hf
      exact OpOk.c (by simp [execOp, resolve, invoke, hb.1, hb.2.1, go_sem]) (HP.out X)
     ·intro ev X hT hb hk hf
      have e0 : ev (.tmp 36) = _ := hf.1
      have e1 : ev (.tmp 37) = _ := hf.2.1
      exact OpOk.c (by simp [execOp, resolve, invoke, e0, e1, hb.1, hb.2.1, go_sem]) (HU2.out X)
    intro w4 hX
    rintro _ - _ - _ rfl
    obtain ⟨H4, S4⟩ := nx H3.out S3.out hX
    clear hX H3 S3
    refine Rest.done ?_
    have H5 := hide (st0 H4.out (cs := Un))
    have S5 := hide (S4.out.setRow (w.heap.size) Un)
    have gW := on_blk_mul H4.out
    have g0 := on_blk_mul H5.out
    have gR := on_blk_mul H5.out.right
    have HB := hide (all_below H5.out.right.right S5.out)
    go_wp2_with (first
     | (refine wS gW HsUn HzUn HoUn ?_)
     | (refine wS gR HsUn HzUn2 HoUn ?_)
     | (refine wL g0 hun HsUn ?_))
    exact retE Tryd.results77 gR hun HsUn.out rfl (by rw [HV.out]) HB.out (by omega)
end Fe
end Go.Proofs.YtbplbdnofobbiaaDoor
namespace Go.Proofs.YtbplbdnofobbiaaDoor
namespace Fe
open Go.ChangeShapes Go.WideShapes Go.ChangeAt Go.RowKit
theorem dval_zip : ∀ (a b : List Nat), a.length = b.length → dval (List.zipWith (· + ·) a b) = dval a + dval b
 | [], [], _ => rfl
 | x :: a, y :: b, h => by
  have := dval_zip a b (by simpa using h)
  simp only [List.zipWith_cons_cons, dval, this]; omega
theorem dval_sub (a b : Nat) (ha : a < 2 ^ 255) (hb : b < 2 ^ 255) : dval (List.zipWith (· + ·) (ds 17 a) (ds 17 b)) = a + b := by
 rw [dval_zip _ _ (by rw [ds_len, ds_len]), dval_ds, dval_ds, D17, Nat.mod_eq_of_lt ha, Nat.mod_eq_of_lt hb]
theorem zip_le (a b : Nat) : ∀ x ∈ List.zipWith (· + ·) (ds 17 a) (ds 17 b), x ≤ 1152921504606846976 := by
 intro x hx
 obtain ⟨i, hi, rfl⟩ := List.mem_iff_getElem.1 hx
 rw [List.getElem_zipWith]
 have h1 := ds_lt 17 a _ (List.getElem_mem (l := ds 17 a) (n := i) (by simp at hi; omega))
 have h2 := ds_lt 17 b _ (List.getElem_mem (l := ds 17 b) (n := i) (by simp at hi; omega))
 omega
theorem zip_len (a b : Nat) : (List.zipWith (· + ·) (ds 17 a) (ds 17 b)).length = 17 := by simp [ds_len]
theorem zip_get (a b k : Nat) (h : k < 17) : (List.zipWith (· + ·) (ds 17 a) (ds 17 b))[k]? = some (dg a k + dg b k) := by
 rw [List.getElem?_zipWith, ds_get 17 a k h, ds_get 17 b k h]
theorem P5_255lt : P5 < 2 ^ 255 := by decide +kernel
theorem rsmall_any (n : Nat) (hn : n ≤ 1152921504606846976) (w : World) : Calls Tryd.prog 46 #[nv n] w fun e w' => e = .returned (.agg (n17 (n % P5))) ∧ Below w.heap.size w w' := by
 have hun := Tryd.underlying29
 have hzn := nZero
 have h0 := ((on_all w).alloc (.cells (n17 0) 29)).alloc (.cells (n17 0) 29)
 have s0 := ((Str.refl w).alloc (.cells (n17 0) 29)).alloc (.cells (n17 0) 29)
 try simp only [World.size_alloc] at h0
 have H1 := hide h0
 have S1 := hide s0
 clear h0 s0
 have Hc : Hid (∀ X, Calls Tryd.prog 77 #[.agg (dvs ((List.replicate 17 0).set 0 n))] X fun e w' => e = .returned (.agg (n17 (n % P5))) ∧ Below X.heap.size X w') := hide fun X => by
  have := settle_any ((List.replicate 17 0).set 0 n) (by simp) (by
   intro x hx
   rcases List.mem_or_eq_of_mem_set hx with h | rfl
   ·have := List.eq_of_mem_replicate h; omega
   ·exact hn) X
  rwa [show dval ((List.replicate 17 0).set 0 n) = n by simp [List.replicate, List.set, dval]] at this
 have HsL := hide (nInfoL ((List.replicate 17 0).set 0 n) (by simp))
 have Hz9 := hide nz_lit
 clear hn
 obtain ⟨HsRn, HoRn, HzRn⟩ := b3 (nInfo (n % P5)) (nOne (n % P5)) (nSize 0 (n % P5))
 generalize hRn : n17 (n % P5) = Rn at *
 have HRn := hide hRn
 clear hRn
 generalize hZn : n17 0 = Zn at *
 have HZn := hide hZn
 clear hZn
 go_enter Tryd.func46, Tryd.ntmps46
 have e9 : Zn = dvs (List.replicate 17 0) := Hz9.out
 have h2 := ((on_all w).alloc (.cells Zn 29)).alloc (.cells (Zn.setIfInBounds 0 (nv n)) 29)
 simp only [World.size_alloc] at h2
 have e8 : Zn.setIfInBounds 0 (nv n) = dvs ((List.replicate 17 0).set 0 n) := by rw [e9, dvs_set]
 have H2 : Hid ((blk (w.heap.size + 1) (.cells (dvs ((List.replicate 17 0).set 0 n)) 29 (0, 0)) * (blk w.heap.size (.cells Zn 29 (0, 0)) * all w)).on ((w.alloc (.cells Zn 29)).alloc (.cells (Zn.setIfInBounds 0 (nv n)) 29))) := hide (by rw [← e8]; exact h2)
 have S2 := hide (((Str.refl w).alloc (.cells Zn 29)).alloc (.cells (Zn.setIfInBounds 0 (nv n)) 29))
 have hcell := rowCell (show (blk (w.heap.size + 1) (.cells (dvs (List.replicate 17 0)) 29 (0, 0)) * (blk w.heap.size (.cells Zn 29 (0, 0)) * all w)).on _ by rw [← e9]; exact H1.out) 0 0 (by decide)
 have hfr := frozen_of_row _ (w.heap.size + 1) 0 _ _ (on_blk_mul H1.out)
 clear h2 e8 e9
 generalize dvs ((List.replicate 17 0).set 0 n) = Ln at *
 have g0 := on_blk_mul H2.out
 go_wp2_with (first
  | (refine wL g0 hun HsL ?_))
 generalize (w.alloc (.cells Zn 29)).alloc (.cells (Zn.setIfInBounds 0 (nv n)) 29) = w2 at *
 clear g0 hcell hfr
 refine (Hc.out _).mono ?_
 rintro e w3 ⟨rfl, hB⟩
 obtain ⟨H3, S3⟩ := nx H2.out S2.out hB
 clear hB H2 S2
 have gR := on_blk_mul H3.out.right
 have HB := hide (all_below H3.out.right.right S3.out)
 go_wp2_with (first
  | (refine wS gR HsRn HzRn HoRn ?_))
 exact retR Tryd.results46 gR hun HsRn.out rfl HB.out (by omega)
theorem radd_any (a b : Nat) (ha : a < 2 ^ 255) (hb : b < 2 ^ 255) (w : World) :
  Calls Tryd.prog 44 #[.agg (n17 a), .agg (n17 b)] w fun e w' => e = .returned (.agg (n17 ((a + b) % P5))) ∧ Below w.heap.size w w' := by
 have hun := Tryd.underlying29
 have hzn := nZero
 have h0 := (((on_all w).alloc (.cells (n17 (a)) 29)).alloc (.cells (n17 (b)) 29)).alloc (.cells (n17 0) 29)
 have s0 := (((Str.refl w).alloc (.cells (n17 (a)) 29)).alloc (.cells (n17 (b)) 29)).alloc (.cells (n17 0) 29)
 try simp only [World.size_alloc] at h0
 have H1 := hide h0
 have S1 := hide s0
 clear h0 s0
 obtain ⟨L, hL⟩ : ∃ L, L = List.zipWith (· + ·) (ds 17 a) (ds 17 b) := ⟨_, rfl⟩
 have hll : L.length = 17 := by rw [hL, zip_len]
 have Hc : Hid (∀ X, Calls Tryd.prog 77 #[.agg (dvs L)] X fun e w' => e = .returned (.agg (n17 ((a + b) % P5))) ∧ Below X.heap.size X w') := hide fun X => by
  have := settle_any L hll (by rw [hL]; exact zip_le a b) X
  rwa [show dval L = a + b by rw [hL]; exact dval_sub a b ha hb] at this
 have HsL := hide (nInfoL L hll)
 have Hg := hide (show ∀ k, k < 17 → L[k]? = some (dg a k + dg b k) from fun k hk => by rw [hL]; exact zip_get a b k hk)
 have Hll := hide hll
 clear hL hll ha hb
 obtain ⟨HsAn, HoAn, HzAn⟩ := b3 (nInfo (a)) (nOne (a)) (nSize 0 (a))
 obtain ⟨HsBn, HoBn, HzBn⟩ := b3 (nInfo (b)) (nOne (b)) (nSize 0 (b))
 obtain ⟨HsRn, HoRn, HzRn⟩ := b3 (nInfo ((a + b) % P5)) (nOne ((a + b) % P5)) (nSize 0 ((a + b) % P5))
 generalize hAn : n17 (a) = An at *
 have HAn := hide hAn
 clear hAn
 generalize hBn : n17 (b) = Bn at *
 have HBn := hide hBn
 clear hBn
 generalize hRn : n17 ((a + b) % P5) = Rn at *
 have HRn := hide hRn
 clear hRn
 generalize hZn : n17 0 = Zn at *
 have HZn := hide hZn
 clear hZn
 go_enter Tryd.func44, Tryd.ntmps44
 go_wp2_with fail
 generalize ((w.alloc (.cells An 29)).alloc (.cells Bn 29)).alloc (.cells Zn 29) = w1 at *
 go_loopw [5] (fun i wr => ∃ k : Nat, k ≤ 17 ∧ i = .int .i64 k ∧ (blk w.heap.size (.cells (dvs (L.take k ++ (ds 17 a).drop k)) 29 (0, 0)) * (blk (w.heap.size + 1) (.cells Bn 29 (0, 0)) * (blk (w.heap.size + 1 + 1) (.cells Zn 29 (0, 0)) * all w))).on wr ∧ Str w wr) (fun i _ => 17 - (intOf i).toNat)
 case atStart =>
  refine ⟨0, by omega, rfl, ?_, S1.out⟩
  rw [List.take_zero, List.drop_zero, List.nil_append, show dvs (ds 17 a) = n17 a from rfl, HAn.out]
  have := H1.out
  have e : ∀ P Q R T : SP, P * (Q * (R * T)) = R * (Q * (P * T)) := fun P Q R T => by ac_rfl
  rw [e] at this
  exact this
 case round =>
  obtain ⟨k, hk, rfl, hX, hS2⟩ := hrel
  have HXk := hide hX
  have HSk := hide hS2
  clear hX hS2 H1 S1
  by_cases hlt : k < 17
  ·have Hset := hide (set_takeN L (ds 17 a) k _ (Hg.out k hlt) (by rw [ds_len]; exact hlt))
   have hget := mid_get L (ds 17 a) k (by rw [Hll.out]; exact hk)
   rw [ds_get 17 a k hlt] at hget
   have HcB : Hid (∀ X, (blk (w.heap.size + 1) (.cells Bn 29 (0, 0)) * (blk (w.heap.size + 1 + 1) (.cells Zn 29 (0, 0)) * all w)).on X → X.cell? ⟨w.heap.size + 1, k, .none⟩ = some (nv (dg b k))) := hide fun X hX => by rw [cell_of_row X (w.heap.size + 1) k Bn _ _ (on_blk_mul hX), ← HBn.out]; exact dvs_get _ k (dg b k) (ds_get 17 b k hlt)
   have hpl : (L.take k ++ (ds 17 a).drop k).length = 17 := by rw [List.length_append, List.length_take, List.length_drop, Hll.out, ds_len]; omega
   obtain ⟨pl, hpl2⟩ : ∃ pl, pl = L.take k ++ (ds 17 a).drop k := ⟨_, rfl⟩
   rw [← hpl2] at HXk Hset hget hpl
   have l1 := dg_lt a k
   have l2 := dg_lt b k
   generalize dg a k = x at *
   generalize dg b k = y at *
   have s1 : IntKind.i64.wrap ((x : Int) + (y : Int)) = ((x + y : Nat) : Int) := by rw [IntWalk.i64_in _ (by omega)]; omega
   generalize x + y = z at *
   obtain ⟨P1, hP1⟩ : ∃ P1, P1 = dvs pl := ⟨_, rfl⟩
   obtain ⟨P2, hP2⟩ : ∃ P2, P2 = dvs (pl.set k z) := ⟨_, rfl⟩
   have Hp2 := hide (show P1.setIfInBounds k (nv z) = P2 by rw [hP1, hP2, dvs_set])
   have HP2 := hide (show P2 = dvs (L.take (k + 1) ++ (ds 17 a).drop (k + 1)) by rw [hP2, Hset.out])
   have Hps := hide (show k < P1.size by rw [hP1, dvs_size, hpl]; exact hlt)
   have HcA : Hid (∀ X, (blk w.heap.size (.cells P1 29 (0, 0)) * (blk (w.heap.size + 1) (.cells Bn 29 (0, 0)) * (blk (w.heap.size + 1 + 1) (.cells Zn 29 (0, 0)) * all w))).on X → X.cell? ⟨w.heap.size, k, .none⟩ = some (nv x)) := hide fun X hX => by rw [hP1] at hX; exact rowCell hX k _ hget
   have hs8 : (Tryd.prog.info? 3).map (·.size) = some 1 := by kernel_rfl
   rw [← hP1] at HXk
   have Q1 := hide s1
   clear hP1 hP2 hpl hpl2 hget Hset s1
   have hk17 : (k : Int) < 17 := by omega
   go_wp2_with fail
   refine AppK.wp_region_set 8 [isV (.int .i64 (k : Int)), isV (.pointer (some ⟨w.heap.size, k, .none⟩)), isV (nv x), isV (.int .i64 (k : Int)), isV (.pointer (some ⟨w.heap.size + 1, k, .none⟩)), isV (nv y), isV (nv z), isV (.pointer (some ⟨w.heap.size, k, .none⟩)), (fun _ _ => True)]
    [isV (.int .i64 (k : Int)), isV (.pointer (some ⟨w.heap.size, k, .none⟩)), isV (nv x), isV (.int .i64 (k : Int)), isV (.pointer (some ⟨w.heap.size + 1, k, .none⟩)), isV (nv y), isV (nv z), isV (.pointer (some ⟨w.heap.size, k, .none⟩)), (fun _ _ => True)] _ rfl (by kernel_rfl) (by kernel_rfl) rfl (by decide) (.inr rfl) (fun ph X => (blk w.heap.size (.cells (if ph = true then P2 else P1) 29 (0, 0)) * (blk (w.heap.size + 1) (.cells Bn 29 (0, 0)) * (blk (w.heap.size + 1 + 1) (.cells Zn 29 (0, 0)) * all w))).on X ∧ Str w X) ⟨SP.on.drew HXk.out, Str.drew HSk.out⟩ (fun ph a b h st => ⟨h.1.below st, h.2.trans (Str.below st)⟩) ?keep ?keep2 ?store ?todo ?r50
   case keep => exact ⟨Keep.isV _, Keep.isV _, Keep.isV _, Keep.isV _, Keep.isV _, Keep.isV _, Keep.isV _, Keep.isV _, fun _ _ _ h _ => h, trivial⟩
   case keep2 => exact ⟨Keep.isV _, Keep.isV _, Keep.isV _, Keep.isV _, Keep.isV _, Keep.isV _, Keep.isV _, Keep.isV _, fun _ _ _ h _ => h, trivial⟩
   case store =>
    intro ev X hT hb hk hf
    have e0 : ev (.tmp 17) = _ := hf.1
    have e1 : ev (.tmp 16) = _ := hf.2.1
    have hX : (blk w.heap.size (.cells P1 29 (0, 0)) * (blk (w.heap.size + 1) (.cells Bn 29 (0, 0)) * (blk (w.heap.size + 1 + 1) (.cells Zn 29 (0, 0)) * all w))).on X := hT.1
    exact OpOk.store_one _ _ _ rfl w.heap.size k (nv z) e0 e1 rfl _ P1 hX hs8 Hps.out rfl P2 Hp2.out (fun h3 => ⟨⟨h3, hT.2.setRow _ _⟩, trivial, fun i _ hv => vList_free (by
     intro P hP
     simp only [List.mem_cons, List.not_mem_nil, or_false] at hP
     rcases hP with rfl | rfl | rfl | rfl | rfl | rfl | rfl | rfl | rfl <;> exact fun _ _ _ h => h) i _ _ _ hv⟩)
   case todo =>
    refine ⟨?_, ?_, ?_, ?_, ?_, ?_, ?_, ?_, ?_, trivial⟩
    ·rintro _ ph - h2 ev X hT hb hk hf
     obtain rfl := h2 (by kernel_rfl)
     have e0 : ev (.tmp 5) = .int .i64 (k : Int) := hk.1
     exact OpOk.m rfl e0
    ·rintro _ ph - h2 ev X hT hb hk hf
     obtain rfl := h2 (by kernel_rfl)
     have e0 : ev (.tmp 2) = .pointer (some ⟨w.heap.size, 0, .none⟩) := hk.1
     have e1 : ev (.tmp 10) = _ := hf.1
     exact OpOk.r (by simp [execOp, e0, e1, hb.1, hk17, go_sem]; try (intro h; omega))
    ·rintro _ ph - h2 ev X hT hb hk hf
     obtain rfl := h2 (by kernel_rfl)
     have e0 : ev (.tmp 11) = _ := hf.1
     have cW := HcA.out X hT.1
     exact OpOk.r (by simp [execOp, e0, cW, go_sem])
    ·rintro _ ph - h2 ev X hT hb hk hf
     obtain rfl := h2 (by kernel_rfl)
     have e0 : ev (.tmp 5) = .int .i64 (k : Int) := hk.1
     exact OpOk.m rfl e0
    ·rintro _ ph - h2 ev X hT hb hk hf
     obtain rfl := h2 (by kernel_rfl)
     have e0 : ev (.tmp 3) = .pointer (some ⟨w.heap.size + 1, 0, .none⟩) := hk.1
     have e1 : ev (.tmp 13) = _ := hf.1
     exact OpOk.r (by simp [execOp, e0, e1, hb.1, hk17, go_sem]; try (intro h; omega))
    ·rintro _ ph - h2 ev X hT hb hk hf
     obtain rfl := h2 (by kernel_rfl)
     have e0 : ev (.tmp 14) = _ := hf.1
     have cW := HcB.out X hT.1.right
     exact OpOk.r (by simp [execOp, e0, cW, go_sem])
    ·rintro _ ph - h2 ev X hT hb hk hf
     obtain rfl := h2 (by kernel_rfl)
     have e0 : ev (.tmp 12) = _ := hf.1
     have e1 : ev (.tmp 15) = _ := hf.2.1
     exact OpOk.r (by have h9 := Q1.out; simp [execOp, e0, e1, h9, go_sem])
    ·rintro _ ph - h2 ev X hT hb hk hf
     obtain rfl := h2 (by kernel_rfl)
     have e0 : ev (.tmp 2) = .pointer (some ⟨w.heap.size, 0, .none⟩) := hk.1
     have e1 : ev (.tmp 10) = _ := hf.1
     exact OpOk.r (by simp [execOp, e0, e1, hb.1, hk17, go_sem]; try (intro h; omega))
    ·exact fun h => absurd rfl h
   intro X hT
   rintro _ - _ - _ - _ - _ - _ - _ - _ - _ -
   have hX2 : (blk w.heap.size (.cells P2 29 (0, 0)) * (blk (w.heap.size + 1) (.cells Bn 29 (0, 0)) * (blk (w.heap.size + 1 + 1) (.cells Zn 29 (0, 0)) * all w))).on X := hT.1
   have HX2 := hide hX2
   have HST := hide hT.2
   clear hT hX2
   go_wp2
   refine Rest.done ?_
   go_wp2_with fail
   refine ⟨⟨k + 1, by omega, by simp, by rw [← HP2.out]; exact HX2.out, HST.out⟩, by simp [intOf]; omega⟩
  ·obtain rfl : k = 17 := by omega
   have e4 : L.take 17 ++ (ds 17 a).drop 17 = L := by rw [List.take_of_length_le (by rw [Hll.out]; omega), List.drop_of_length_le (by rw [ds_len]; omega), List.append_nil]
   rw [e4] at HXk
   have H2 := HXk
   have S2 := HSk
   have g0 := on_blk_mul H2.out
   clear e4 HXk HSk
   generalize dvs L = Ln at *
   go_wp2_with (refine wL g0 hun HsL ?_)
   clear g0
   refine (Hc.out _).mono ?_
   rintro e w3 ⟨rfl, hB⟩
   obtain ⟨H3, S3⟩ := nx H2.out S2.out hB
   clear hB H2 S2
   have gR := on_blk_mul H3.out.right.right
   have HB := hide (all_below H3.out.right.right.right S3.out)
   go_wp2_with (first
    | (refine wS gR HsRn HzRn HoRn ?_))
   exact retR Tryd.results44 gR hun HsRn.out rfl HB.out (by omega)
theorem rneg_any (a : Nat) (ha : a < P5) (w : World) :
  Calls Tryd.prog 45 #[.agg (n17 a)] w fun e w' => e = .returned (.agg (n17 ((P5 - a) % P5))) ∧ Below w.heap.size w w' := by
 have hun := Tryd.underlying29
 have hzn := nZero
 have h0 := ((on_all w).alloc (.cells (n17 (a)) 29)).alloc (.cells (n17 0) 29)
 have s0 := ((Str.refl w).alloc (.cells (n17 (a)) 29)).alloc (.cells (n17 0) 29)
 try simp only [World.size_alloc] at h0
 have H1 := hide h0
 have S1 := hide s0
 clear h0 s0
 have HP := hide (fun X => rp_any X)
 have HU := hide (fun X => under_any P5 a P5_255lt (by omega) X)
 have HT : Hid (∀ X, Calls Tryd.prog 77 #[.agg (n17 (P5 - a))] X fun e w' => e = .returned (.agg (n17 ((P5 - a) % P5))) ∧ Below X.heap.size X w') := hide fun X => by
  have := settle_any (ds 17 (P5 - a)) (ds_len _ _) (fun x hx => by have := ds_lt _ _ x hx; omega) X
  rwa [dval_ds, D17, Nat.mod_eq_of_lt (a := P5 - a) (b := 2 ^ 255) (by have := P5_255lt; omega)] at this
 clear ha
 obtain ⟨HsAn, HoAn, HzAn⟩ := b3 (nInfo (a)) (nOne (a)) (nSize 0 (a))
 obtain ⟨HsPn, HoPn, HzPn⟩ := b3 (nInfo (P5)) (nOne (P5)) (nSize 0 (P5))
 obtain ⟨HsUn, HoUn, HzUn⟩ := b3 (nInfo (P5 - a)) (nOne (P5 - a)) (nSize 0 (P5 - a))
 obtain ⟨HsRn, HoRn, HzRn⟩ := b3 (nInfo ((P5 - a) % P5)) (nOne ((P5 - a) % P5)) (nSize 0 ((P5 - a) % P5))
 generalize hAn : n17 (a) = An at *
 have HAn := hide hAn
 clear hAn
 generalize hPn : n17 (P5) = Pn at *
 have HPn := hide hPn
 clear hPn
 generalize hUn : n17 (P5 - a) = Un at *
 have HUn := hide hUn
 clear hUn
 generalize hRn : n17 ((P5 - a) % P5) = Rn at *
 have HRn := hide hRn
 clear hRn
 generalize hZn : n17 0 = Zn at *
 have HZn := hide hZn
 clear hZn
 go_enter Tryd.func45, Tryd.ntmps45
 go_wp2_with fail
 generalize (w.alloc (.cells An 29)).alloc (.cells Zn 29) = w1 at *
 refine wp_tail 4 [isV (.agg Pn), isV (.agg An), isV (.agg Un), isV (.agg Rn)] ?keep ?todo ?r51
 case keep => exact ⟨Keep.isV _, Keep.isV _, Keep.isV _, Keep.isV _, trivial⟩
 case todo =>
  refine ⟨?_, ?_, ?_, ?_, trivial⟩
  ·intro ev X hT hb hk hf
   exact OpOk.c (by simp [execOp, resolve, invoke, hb.1, hb.2.1, go_sem]) (HP.out X)
  ·exact fun ev X hT hb hk hf => OpOk.l (x := .tmp 1) hk.1 (on_blk_mul (H1.out.below hT).right) hun HsAn.out
  ·intro ev X hT hb hk hf
   have e0 : ev (.tmp 3) = _ := hf.1
   have e1 : ev (.tmp 4) = _ := hf.2.1
   exact OpOk.c (by simp [execOp, resolve, invoke, e0, e1, hb.1, hb.2.1, go_sem]) (HU.out X)
  ·intro ev X hT hb hk hf
   have e0 : ev (.tmp 5) = _ := hf.1
   exact OpOk.c (by simp [execOp, resolve, invoke, e0, hb.1, hb.2.1, go_sem]) (HT.out X)
 intro w2 hX
 rintro _ - _ - _ - _ rfl
 obtain ⟨H2, S2⟩ := nx H1.out S1.out hX
 clear hX H1 S1
 refine Rest.done ?_
 have gR := on_blk_mul H2.out
 have HB := hide (all_below H2.out.right.right S2.out)
 go_wp2_with (first
  | (refine wS gR HsRn HzRn HoRn ?_))
 exact retR Tryd.results45 gR hun HsRn.out rfl HB.out (by omega)
theorem rsub_any (a b : Nat) (ha : a < P5) (hb : b < P5) (w : World) :
  Calls Tryd.prog 43 #[.agg (n17 a), .agg (n17 b)] w fun e w' => e = .returned (.agg (n17 ((a + (P5 - b)) % P5))) ∧ Below w.heap.size w w' := by
 have hun := Tryd.underlying29
 have hzn := nZero
 have h0 := (((on_all w).alloc (.cells (n17 (a)) 29)).alloc (.cells (n17 (b)) 29)).alloc (.cells (n17 0) 29)
 have s0 := (((Str.refl w).alloc (.cells (n17 (a)) 29)).alloc (.cells (n17 (b)) 29)).alloc (.cells (n17 0) 29)
 try simp only [World.size_alloc] at h0
 have H1 := hide h0
 have S1 := hide s0
 clear h0 s0
 have hp := P5_255lt
 have hm : (P5 - b) % P5 < P5 := Nat.mod_lt _ P5_pos
 have HU := hide (fun X => rneg_any b hb X)
 have HT : Hid (∀ X, Calls Tryd.prog 44 #[.agg (n17 a), .agg (n17 ((P5 - b) % P5))] X fun e w' => e = .returned (.agg (n17 ((a + (P5 - b)) % P5))) ∧ Below X.heap.size X w') := hide fun X => by
  have := radd_any a ((P5 - b) % P5) (by omega) (by omega) X
  rwa [Nat.add_mod_mod] at this
 clear ha hb hp hm
 obtain ⟨HsAn, HoAn, HzAn⟩ := b3 (nInfo (a)) (nOne (a)) (nSize 0 (a))
 obtain ⟨HsBn, HoBn, HzBn⟩ := b3 (nInfo (b)) (nOne (b)) (nSize 0 (b))
 obtain ⟨HsUn, HoUn, HzUn⟩ := b3 (nInfo ((P5 - b) % P5)) (nOne ((P5 - b) % P5)) (nSize 0 ((P5 - b) % P5))
 obtain ⟨HsRn, HoRn, HzRn⟩ := b3 (nInfo ((a + (P5 - b)) % P5)) (nOne ((a + (P5 - b)) % P5)) (nSize 0 ((a + (P5 - b)) % P5))
 generalize hAn : n17 (a) = An at *
 have HAn := hide hAn
 clear hAn
 generalize hBn : n17 (b) = Bn at *
 have HBn := hide hBn
 clear hBn
 generalize hUn : n17 ((P5 - b) % P5) = Un at *
 have HUn := hide hUn
 clear hUn
 generalize hRn : n17 ((a + (P5 - b)) % P5) = Rn at *
 have HRn := hide hRn
 clear hRn
 generalize hZn : n17 0 = Zn at *
 have HZn := hide hZn
 clear hZn
 go_enter Tryd.func43, Tryd.ntmps43
 go_wp2_with fail
 generalize ((w.alloc (.cells An 29)).alloc (.cells Bn 29)).alloc (.cells Zn 29) = w1 at *
 refine wp_tail 4 [isV (.agg An), isV (.agg Bn), isV (.agg Un), isV (.agg Rn)] ?keep ?todo ?r52
 case keep => exact ⟨Keep.isV _, Keep.isV _, Keep.isV _, Keep.isV _, trivial⟩
 case todo =>
  refine ⟨?_, ?_, ?_, ?_, trivial⟩
  ·exact fun ev X hT hb hk hf => OpOk.l (x := .tmp 2) hk.1 (on_blk_mul (H1.out.below hT).right.right) hun HsAn.out
  ·exact fun ev X hT hb hk hf => OpOk.l (x := .tmp 3) hk.1 (on_blk_mul (H1.out.below hT).right) hun HsBn.out
  ·intro ev X hT hb hk hf
   have e0 : ev (.tmp 6) = _ := hf.1
   exact OpOk.c (by simp [execOp, resolve, invoke, e0, hb.1, hb.2.1, go_sem]) (HU.out X)
  ·intro ev X hT hb hk hf
   have e0 : ev (.tmp 5) = _ := hf.1
   have e1 : ev (.tmp 7) = _ := hf.2.1
   exact OpOk.c (by simp [execOp, resolve, invoke, e0, e1, hb.1, hb.2.1, go_sem]) (HT.out X)
 intro w2 hX
 rintro _ - _ - _ - _ rfl
 obtain ⟨H2, S2⟩ := nx H1.out S1.out hX
 clear hX H1 S1
 refine Rest.done ?_
 have gR := on_blk_mul H2.out
 have HB := hide (all_below H2.out.right.right.right S2.out)
 go_wp2_with (first
  | (refine wS gR HsRn HzRn HoRn ?_))
 exact retR Tryd.results43 gR hun HsRn.out rfl HB.out (by omega)
theorem nF (n : Nat) : Hid ((Tryd.prog.info? 29).map (·.size) = some (n17 n).size) ∧ Hid ((n17 n).all (·.oneCell') = true) ∧ Hid ((n17 0).size = (n17 n).size) := b3 (nInfo n) (nOne n) (nSize 0 n)
end Fe
end Go.Proofs.YtbplbdnofobbiaaDoor
