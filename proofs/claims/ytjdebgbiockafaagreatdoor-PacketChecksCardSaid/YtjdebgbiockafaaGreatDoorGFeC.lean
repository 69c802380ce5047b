/- A part. -/
import Derived.Test.YtjdebgbiockafaaGreatDoorGFeB
set_option linter.unusedVariables false
set_option linter.unusedSimpArgs false
set_option maxRecDepth 100000
set_option maxHeartbeats 8000000
namespace Go.Proofs.YtjdebgbiockafaaGreatDoor
namespace Fe
open Go.ChangeShapes Go.WideShapes Go.ChangeAt Go.RowKit
abbrev nv (x : Nat) : Value := .int .i64 (x : Int)
def dvs (l : List Nat) : Array Value := (l.map nv).toArray
theorem dvs_size (l : List Nat) : (dvs l).size = l.length := by simp [dvs]
theorem dvs_one (l : List Nat) : (dvs l).all (·.oneCell') = true := by
 rw [Array.all_eq_true_iff_forall_mem]
 intro x hx
 simp only [dvs, List.mem_toArray, List.mem_map] at hx
 obtain ⟨y, _, rfl⟩ := hx
 rfl
theorem dvs_get (l : List Nat) (k x : Nat) (h : l[k]? = some x) : (dvs l)[k]? = some (nv x) := by simp [dvs, h]
theorem dvs_set (l : List Nat) (k x : Nat) : (dvs l).setIfInBounds k (nv x) = dvs (l.set k x) := by
 unfold dvs
 rw [List.setIfInBounds_toArray, ← List.map_set]
abbrev n17 (n : Nat) : Array Value := dvs (ds 17 n)
theorem n17_size (n : Nat) : (n17 n).size = 17 := by rw [dvs_size, ds_len]
theorem nz_lit : n17 0 = dvs (List.replicate 17 0) := by
 refine congrArg dvs ?_
 decide
theorem nInfo (n : Nat) : (Tryz.prog.info? 56).map (·.size) = some (n17 n).size := by rw [n17_size]; kernel_rfl
theorem nInfoL (l : List Nat) (h : l.length = 17) : (Tryz.prog.info? 56).map (·.size) = some (dvs l).size := by rw [dvs_size, h]; kernel_rfl
theorem nZero (w : World) : (zeroValue 56).run Tryz.prog w = .ok (.agg (n17 0)) w := by rw [nz_lit]; kernel_rfl
theorem nSize (m n : Nat) : (n17 m).size = (n17 n).size := by rw [n17_size, n17_size]
theorem nOne (n : Nat) : (n17 n).all (·.oneCell') = true := dvs_one _
theorem nF (n : Nat) : Hid ((Tryz.prog.info? 56).map (·.size) = some (n17 n).size) ∧ Hid ((n17 n).all (·.oneCell') = true) ∧ Hid ((n17 0).size = (n17 n).size) := b3 (nInfo n) (nOne n) (nSize 0 n)
theorem rowCell {F : SP} {b : Nat} {l : List Nat} {t : TypeId} {w : World} (h : (blk b (.cells (dvs l) t (0, 0)) * F).on w) (k x : Nat) (hx : l[k]? = some x) : w.cell? ⟨b, k, .none⟩ = some (nv x) :=
 (cell_of_row w b k _ _ _ (on_blk_mul h)).trans (dvs_get l k x hx)
theorem rowSet {F : SP} {b : Nat} {l : List Nat} {t : TypeId} {w : World} (h : (blk b (.cells (dvs l) t (0, 0)) * F).on w) (k x : Nat) : (blk b (.cells (dvs (l.set k x)) t (0, 0)) * F).on (w.setCell ⟨b, k, .none⟩ (nv x)) := by
 have := SP.on.setCell (i := k) h (nv x)
 rwa [dvs_set] at this
theorem ds_P5 : (List.replicate 17 32767).set 0 32749 = ds 17 P5 := by decide +kernel
theorem rp_any (w : World) : Calls Tryz.prog 71 #[] w fun e w' => e = .returned (.agg (n17 P5)) ∧ Below w.heap.size w w' := by
 have hun := Tryz.underlying56
 have hzn := nZero
 have h0 := ((on_all w).alloc (.cells (n17 0) 56)).alloc (.cells (n17 0) 56)
 have s0 := ((Str.refl w).alloc (.cells (n17 0) 56)).alloc (.cells (n17 0) 56)
 try simp only [World.size_alloc] at h0
 have H1 := hide h0
 have S1 := hide s0
 clear h0 s0
 obtain ⟨HsP4, HoP4, HzP4⟩ := nF (P5)
 generalize hP4 : n17 (P5) = P4 at *
 have HP4 := hide hP4
 clear hP4
 generalize hZn : n17 0 = Zn at *
 have HZn := hide hZn
 clear hZn
 go_enter Tryz.func71, Tryz.ntmps71
 go_wp2_with fail
 generalize (w.alloc (.cells Zn 56)).alloc (.cells Zn 56) = w1 at *
 go_loopw [2] (fun i wr => ∃ k : Nat, k ≤ 17 ∧ i = .int .i64 k ∧ (blk (w.heap.size + 1) (.cells (dvs ((List.replicate 17 32767).take k ++ (List.replicate 17 0).drop k)) 56 (0, 0)) * (blk w.heap.size (.cells Zn 56 (0, 0)) * all w)).on wr ∧ Str w wr) (fun i _ => 17 - (intOf i).toNat)
 case atStart =>
  refine ⟨0, by omega, rfl, ?_, S1.out⟩
  rw [List.take_zero, List.drop_zero, List.nil_append, ← nz_lit, HZn.out]
  exact H1.out
 obtain ⟨k, hk, rfl, hX, hS2⟩ := hrel
 have HXk := hide hX
 have HSk := hide hS2
 clear hX hS2 H1 S1
 by_cases hlt : k < 17
 ·have hst := rowSet HXk.out k 32767
  rw [set_takeN (List.replicate 17 32767) (List.replicate 17 0) k 32767 (by rw [List.getElem?_replicate, if_pos hlt]) (by simp; omega)] at hst
  have HN := hide hst
  obtain ⟨old, hold⟩ : ∃ v, wr.cell? ⟨w.heap.size + 1, k, .none⟩ = some v := by
   have hl : k < ((List.replicate 17 32767).take k ++ (List.replicate 17 0).drop k).length := by rw [List.length_append, List.length_take, List.length_drop]; simp; omega
   exact ⟨_, rowCell HXk.out k _ (List.getElem?_eq_getElem hl)⟩
  have hfr := frozen_of_row wr (w.heap.size + 1) k _ _ (on_blk_mul HXk.out)
  have hk17 : (k : Int) < 17 := by omega
  clear hst HXk
  go_wp2
  exact ⟨⟨k + 1, by omega, by simp, HN.out, HSk.out.setCell _ _⟩, by simp [intOf]; omega⟩
 obtain rfl : k = 17 := by omega
 have e4 : (List.replicate 17 32767).take 17 ++ (List.replicate 17 0).drop 17 = List.replicate 17 32767 := by decide
 rw [e4] at HXk
 have hst := rowSet HXk.out 0 32749
 rw [ds_P5, show dvs (ds 17 P5) = n17 P5 from rfl, HP4.out] at hst
 have HN := hide hst
 have HS2 := hide (HSk.out.setCell ⟨w.heap.size + 1, 0, .none⟩ (nv 32749))
 have hold := rowCell HXk.out 0 32767 (by decide)
 have hfr := frozen_of_row wr (w.heap.size + 1) 0 _ _ (on_blk_mul HXk.out)
 have gA := on_blk_mul hst
 have gR := on_blk_mul hst.right
 have HB := hide (all_below hst.right.right HS2.out)
 clear hst e4 HXk
 go_wp2_with (first
  | (refine wS gR HsP4 HzP4 HoP4 ?_)
  | (refine wL gA hun HsP4 ?_))
 exact retR Tryz.results71 gR hun HsP4.out rfl HB.out (by omega)
theorem rless_any (a b : Nat) (ha : a < 2 ^ 255) (hb : b < 2 ^ 255) (w : World) :
  Calls Tryz.prog 75 #[.agg (n17 a), .agg (n17 b)] w fun e w' => e = .returned (.bool (decide (a < b))) ∧ Below w.heap.size w w' := by
 have hu := Tryz.underlying56
 have hu6 := Tryz.underlying3
 have h0 := ((on_all w).alloc (.cells (n17 a) 56)).alloc (.cells (n17 b) 56)
 have hs0 := ((Str.refl w).alloc (.cells (n17 a) 56)).alloc (.cells (n17 b) 56)
 simp only [World.size_alloc] at h0
 have H0 := hide h0
 have HS0 := hide hs0
 have Hend := hide (show a / 32768 ^ 17 = b / 32768 ^ 17 by rw [D17, Nat.div_eq_of_lt ha, Nat.div_eq_of_lt hb])
 clear h0 hs0 ha hb
 generalize hA : n17 a = A4 at *
 generalize hB : n17 b = B4 at *
 have HA := hide hA
 have HB := hide hB
 clear hA hB
 go_enter Tryz.func75, Tryz.ntmps75
 go_wp2_with fail
 generalize (w.alloc (.cells A4 56)).alloc (.cells B4 56) = w1 at *
 go_loopw [5] (fun i wr => ∃ k : Nat, k ≤ 17 ∧ i = .int .i64 ((k : Int) - 1) ∧ a / 32768 ^ k = b / 32768 ^ k ∧ (blk (w.heap.size + 1) (.cells B4 56 (0, 0)) * (blk w.heap.size (.cells A4 56 (0, 0)) * all w)).on wr ∧ Str w wr) (fun i _ => (intOf i + 1).toNat)
 case atStart => exact ⟨17, by omega, rfl, Hend.out, H0.out, HS0.out⟩
 obtain ⟨k, hk, rfl, heq, hX, hS2⟩ := hrel
 have HXk := hide hX
 have HSk := hide hS2
 have Heq := hide heq
 clear hX hS2 H0 HS0 heq Hend
 cases k with
 | zero =>
  have HN := hide (show decide (a < b) = false by
   have := Heq.out
   rw [Nat.pow_zero, Nat.div_one, Nat.div_one] at this
   rw [this]; simp)
  have HBw := hide (all_below HXk.out.right.right HSk.out)
  go_wp2
  go_ret
  exact ⟨by rw [HN.out]; rfl, HBw.out⟩
 | succ k =>
  have hk4 : k < 17 := by omega
  have HcA : Hid (∀ X, (blk w.heap.size (.cells A4 56 (0, 0)) * all w).on X → X.cell? ⟨w.heap.size, k, .none⟩ = some (nv (dg a k))) := hide fun X hX => by rw [cell_of_row X w.heap.size k A4 _ _ (on_blk_mul hX), ← HA.out]; exact dvs_get _ k (dg a k) (ds_get 17 a k hk4)
  have HcB : Hid (∀ X, (blk (w.heap.size + 1) (.cells B4 56 (0, 0)) * (blk w.heap.size (.cells A4 56 (0, 0)) * all w)).on X → X.cell? ⟨w.heap.size + 1, k, .none⟩ = some (nv (dg b k))) := hide fun X hX => by rw [cell_of_row X (w.heap.size + 1) k B4 _ _ (on_blk_mul hX), ← HB.out]; exact dvs_get _ k (dg b k) (ds_get 17 b k hk4)
  have HL := hide (lt_dg a b k Heq.out)
  have l1 := dg_lt a k
  have l2 := dg_lt b k
  have s1 : (((k + 1 : Nat) : Int) - 1) = (k : Int) := by omega
  rw [s1]
  clear s1
  generalize dg a k = x at *
  generalize dg b k = y at *
  have hk4' : (k : Int) < 17 := by omega
  by_cases hxy : x = y
  ·have he := HL.out.2 hxy
   have He := hide he
   have Hxy := hide hxy
   clear he hxy
   go_wp2_with fail
   refine rV (iv [.int .i64 (k : Int), .pointer (some ⟨w.heap.size, k, .none⟩), nv x, .int .i64 (k : Int), .pointer (some ⟨w.heap.size + 1, k, .none⟩), nv y, .bool false]) ?t43 ?r44
   case' t43 => refine ⟨?_, ?_, ?_, ?_, ?_, ?_, ?_, trivial⟩ <;> intro ev X hT hb hk hf
   ·exact OpOk.m rfl hk.1
   ·exact OpOk.r (by simp [execOp, fV ev 2 (.pointer (some ⟨w.heap.size, 0, .none⟩)) hk.1, fX ev 10 hf.1, hb.1, hk4', go_sem]; try (intro h; omega))
   ·have cW := HcA.out X (HXk.out.below hT).right
    exact OpOk.sc (fX ev 11 hf.1) cW
   ·exact OpOk.m rfl hk.1
   ·exact OpOk.r (by simp [execOp, fV ev 3 (.pointer (some ⟨w.heap.size + 1, 0, .none⟩)) hk.1, fX ev 13 hf.1, hb.1, hk4', go_sem]; try (intro h; omega))
   ·have cW := HcB.out X (HXk.out.below hT)
    exact OpOk.sc (fX ev 14 hf.1) cW
   ·exact OpOk.run (v := .bool false) (W' := X) (by have h9 := Hxy.out; have h8 : ((x : Int) = (y : Int)) := (by omega); simp [execOp, fX ev 12 hf.1, fX ev 15 hf.2.1, h8, go_sem]) ⟨rfl, Stay.refl _⟩
   intro X hT
   rintro _ - _ - _ - _ - _ - _ - _ rfl
   have HX2 := hide (HXk.out.below hT)
   have HS2 := hide (HSk.out.trans (Str.below hT))
   clear hT
   go_wp2
   refine Rest.done ?_
   go_wp2_with fail
   exact ⟨⟨k, by omega, rfl, He.out, HX2.out, HS2.out⟩, by simp [intOf]⟩
  have Hd := hide (HL.out.1 hxy)
  have Hxy := hide hxy
  clear hxy
  go_wp2_with fail
  refine rV (iv [.int .i64 (k : Int), .pointer (some ⟨w.heap.size, k, .none⟩), nv x, .int .i64 (k : Int), .pointer (some ⟨w.heap.size + 1, k, .none⟩), nv y, .bool true]) ?t44 ?r45
  case' t44 => refine ⟨?_, ?_, ?_, ?_, ?_, ?_, ?_, trivial⟩ <;> intro ev X hT hb hk hf
  ·exact OpOk.m rfl hk.1
  ·exact OpOk.r (by simp [execOp, fV ev 2 (.pointer (some ⟨w.heap.size, 0, .none⟩)) hk.1, fX ev 10 hf.1, hb.1, hk4', go_sem]; try (intro h; omega))
  ·have cW := HcA.out X (HXk.out.below hT).right
   exact OpOk.sc (fX ev 11 hf.1) cW
  ·exact OpOk.m rfl hk.1
  ·exact OpOk.r (by simp [execOp, fV ev 3 (.pointer (some ⟨w.heap.size + 1, 0, .none⟩)) hk.1, fX ev 13 hf.1, hb.1, hk4', go_sem]; try (intro h; omega))
  ·have cW := HcB.out X (HXk.out.below hT)
   exact OpOk.sc (fX ev 14 hf.1) cW
  ·exact OpOk.run (v := .bool true) (W' := X) (by have h9 := Hxy.out; have h8 : ¬((x : Int) = (y : Int)) := (by omega); simp [execOp, fX ev 12 hf.1, fX ev 15 hf.2.1, h8, go_sem]) ⟨rfl, Stay.refl _⟩
  intro X hT
  rintro _ - _ - _ - _ - _ - _ - _ rfl
  have HX2 := hide (HXk.out.below hT)
  have HS2 := hide (HSk.out.trans (Str.below hT))
  clear hT
  go_wp2
  refine Rest.done ?_
  go_wp2_with fail
  refine rV (iv [.int .i64 (k : Int), .pointer (some ⟨w.heap.size, k, .none⟩), nv x, .int .i64 (k : Int), .pointer (some ⟨w.heap.size + 1, k, .none⟩), nv y, .bool (decide (x < y)), .bool (decide (x < y))]) ?t45 ?r46
  case' t45 => refine ⟨?_, ?_, ?_, ?_, ?_, ?_, ?_, ?_, trivial⟩ <;> intro ev X hT hb hk hf
  ·exact OpOk.m rfl hk.1
  ·exact OpOk.r (by simp [execOp, fV ev 2 (.pointer (some ⟨w.heap.size, 0, .none⟩)) hk.1, fX ev 17 hf.1, hb.1, hk4', go_sem]; try (intro h; omega))
  ·have cW := HcA.out X (HX2.out.below hT).right
   exact OpOk.sc (fX ev 18 hf.1) cW
  ·exact OpOk.m rfl hk.1
  ·exact OpOk.r (by simp [execOp, fV ev 3 (.pointer (some ⟨w.heap.size + 1, 0, .none⟩)) hk.1, fX ev 20 hf.1, hb.1, hk4', go_sem]; try (intro h; omega))
  ·have cW := HcB.out X (HX2.out.below hT)
   exact OpOk.sc (fX ev 21 hf.1) cW
  ·exact OpOk.r (by simp [execOp, fX ev 19 hf.1, fX ev 22 hf.2.1, go_sem])
  ·exact OpOk.assign rfl (fX ev 23 hf.1) ⟨rfl, Stay.refl _⟩
  intro X5 hT5
  rintro _ - _ - _ - _ - _ - _ - _ rfl _ rfl
  have HX5 := hide (HX2.out.below hT5)
  have HS5 := hide (HS2.out.trans (Str.below hT5))
  clear hT5
  go_wp2
  refine Rest.done ?_
  go_wp2
  go_ret
  exact ⟨by rw [← Hd.out]; rfl, all_below HX5.out.right.right HS5.out⟩
theorem under_any (a b : Nat) (ha : a < 2 ^ 255) (hb : b ≤ a) (w : World) :
  Calls Tryz.prog 70 #[.agg (n17 a), .agg (n17 b)] w fun e w' => e = .returned (.agg (n17 (a - b))) ∧ Below w.heap.size w w' := by
 have hun := Tryz.underlying56
 have hzn := nZero
 have h0 := (((on_all w).alloc (.cells (n17 (a)) 56)).alloc (.cells (n17 (b)) 56)).alloc (.cells (n17 0) 56)
 have s0 := (((Str.refl w).alloc (.cells (n17 (a)) 56)).alloc (.cells (n17 (b)) 56)).alloc (.cells (n17 0) 56)
 try simp only [World.size_alloc] at h0
 have H1 := hide h0
 have S1 := hide s0
 clear h0 s0
 have Hab := hide (fun k => sub_dg a b hb k)
 have hlen : ∀ k, k ≤ 17 → ((ds 17 (a - b)).take k ++ (ds 17 a).drop k).length = 17 := fun k hk => by rw [List.length_append, List.length_take, List.length_drop, ds_len, ds_len]; omega
 have Hlen := hide hlen
 clear hlen ha hb
 obtain ⟨HsAn, HoAn, HzAn⟩ := nF (a)
 obtain ⟨HsBn, HoBn, HzBn⟩ := nF (b)
 obtain ⟨HsRn, HoRn, HzRn⟩ := nF (a - b)
 generalize hAn : n17 (a) = An at *
 have HAn := hide hAn
 clear hAn
 generalize hBn : n17 (b) = Bn at *
 have HBn := hide hBn
 clear hBn
 generalize hRn : n17 (a - b) = Rn at *
 have HRn := hide hRn
 clear hRn
 generalize hZn : n17 0 = Zn at *
 have HZn := hide hZn
 clear hZn
 go_enter Tryz.func70, Tryz.ntmps70
 go_wp2_with fail
 generalize ((w.alloc (.cells An 56)).alloc (.cells Bn 56)).alloc (.cells Zn 56) = w1 at *
 go_loopw [5, 6] (fun bv i wr => ∃ k : Nat, k ≤ 17 ∧ i = .int .i64 k ∧ bv = nv (ub a b k) ∧ (blk w.heap.size (.cells (dvs ((ds 17 (a - b)).take k ++ (ds 17 a).drop k)) 56 (0, 0)) * (blk (w.heap.size + 1) (.cells Bn 56 (0, 0)) * (blk (w.heap.size + 1 + 1) (.cells Zn 56 (0, 0)) * all w))).on wr ∧ Str w wr) (fun _ i _ => 17 - (intOf i).toNat)
 case atStart =>
  refine ⟨0, by omega, rfl, by rw [ub_0]; rfl, ?_, S1.out⟩
  rw [List.take_zero, List.drop_zero, List.nil_append, show dvs (ds 17 a) = n17 a from rfl, HAn.out]
  have := H1.out
  have e : ∀ P Q R T : SP, P * (Q * (R * T)) = R * (Q * (P * T)) := fun P Q R T => by ac_rfl
  rw [e] at this
  exact this
 obtain ⟨k, hk, rfl, rfl, hX, hS2⟩ := hrel
 have HXk := hide hX
 have HSk := hide hS2
 clear hX hS2 H1 S1
 by_cases hlt : k < 17
 ·have hstep := ub_step a b k
  have hsub := Hab.out k
  have Hset := hide (set_takeN (ds 17 (a - b)) (ds 17 a) k (dg (a - b) k) (ds_get 17 _ k hlt) (by rw [ds_len]; exact hlt))
  have hget := mid_get (ds 17 (a - b)) (ds 17 a) k (by rw [ds_len]; exact hk)
  rw [ds_get 17 a k hlt] at hget
  have HcB : Hid (∀ X, (blk (w.heap.size + 1) (.cells Bn 56 (0, 0)) * (blk (w.heap.size + 1 + 1) (.cells Zn 56 (0, 0)) * all w)).on X → X.cell? ⟨w.heap.size + 1, k, .none⟩ = some (nv (dg b k))) := hide fun X hX => by rw [cell_of_row X (w.heap.size + 1) k Bn _ _ (on_blk_mul hX), ← HBn.out]; exact dvs_get _ k (dg b k) (ds_get 17 b k hlt)
  obtain ⟨pl, hpl2⟩ : ∃ pl, pl = (ds 17 (a - b)).take k ++ (ds 17 a).drop k := ⟨_, rfl⟩
  rw [← hpl2] at HXk Hset hget
  have HcA : Hid (∀ X, (blk w.heap.size (.cells (dvs pl) 56 (0, 0)) * (blk (w.heap.size + 1) (.cells Bn 56 (0, 0)) * (blk (w.heap.size + 1 + 1) (.cells Zn 56 (0, 0)) * all w))).on X → X.cell? ⟨w.heap.size, k, .none⟩ = some (nv (dg a k))) := hide fun X hX => rowCell hX k _ hget
  have l1 := dg_lt a k
  have l2 := dg_lt b k
  have l3 := dg_lt (a - b) k
  have l4 := ub_le a b k
  have Hstep := hide hstep
  have Hsub := hide hsub
  clear hstep hsub hpl2 hget
  generalize dg a k = x at *
  generalize dg b k = y at *
  generalize ub a b k = bb at *
  generalize hbb2 : ub a b (k + 1) = bb2 at *
  have Hbb2 := hide hbb2
  clear hbb2
  generalize dg (a - b) k = dk at *
  obtain ⟨d1, hd1⟩ : ∃ d1 : Int, d1 = (x : Int) - (y : Int) := ⟨_, rfl⟩
  obtain ⟨d2, hd2⟩ : ∃ d2 : Int, d2 = d1 - (bb : Int) := ⟨_, rfl⟩
  have q1 : IntKind.i64.wrap ((x : Int) - (y : Int)) = d1 := by rw [IntWalk.i64_in _ (by omega)]; omega
  have q2 : IntKind.i64.wrap (d1 - (bb : Int)) = d2 := by rw [IntWalk.i64_in _ (by omega)]; omega
  have Q1 := hide q1
  have Q2 := hide q2
  have Hd := hide (show d2 = (x : Int) - (y : Int) - (bb : Int) by omega)
  have b1 : -40000 < d2 := by omega
  have b2 : d2 < 40000 := by omega
  clear q1 q2 hd1 hd2
  have hk4 : (k : Int) < 17 := by omega
  go_wp2_with fail
  refine rV (iv [.int .i64 (k : Int), .pointer (some ⟨w.heap.size, k, .none⟩), nv x, .int .i64 (k : Int), .pointer (some ⟨w.heap.size + 1, k, .none⟩), nv y, .int .i64 d1, nv bb, .int .i64 d2, .int .i64 d2]) ?t46 ?r47
  case' t46 => refine ⟨?_, ?_, ?_, ?_, ?_, ?_, ?_, ?_, ?_, ?_, trivial⟩ <;> intro ev X hT hb hk hf
  ·exact OpOk.m rfl hk.1
  ·exact OpOk.r (by simp [execOp, fV ev 2 (.pointer (some ⟨w.heap.size, 0, .none⟩)) hk.1, fX ev 12 hf.1, hb.1, hk4, go_sem]; try (intro h; omega))
  ·have cW := HcA.out X (HXk.out.below hT)
   exact OpOk.sc (fX ev 13 hf.1) cW
  ·exact OpOk.m rfl hk.1
  ·exact OpOk.r (by simp [execOp, fV ev 3 (.pointer (some ⟨w.heap.size + 1, 0, .none⟩)) hk.1, fX ev 15 hf.1, hb.1, hk4, go_sem]; try (intro h; omega))
  ·have cW := HcB.out X (HXk.out.below hT).right
   exact OpOk.sc (fX ev 16 hf.1) cW
  ·exact OpOk.r (by have h9 := Q1.out; simp [execOp, fX ev 14 hf.1, fX ev 17 hf.2.1, h9, go_sem])
  ·exact OpOk.m rfl hk.1
  ·exact OpOk.r (by have h9 := Q2.out; simp [execOp, fX ev 18 hf.1, fX ev 19 hf.2.1, h9, go_sem])
  ·exact OpOk.assign rfl (fX ev 20 hf.1) ⟨rfl, Stay.refl _⟩
  intro X hT
  rintro _ - _ - _ - _ - _ - _ - _ - _ - _ - _ rfl
  have HX2 := hide (HXk.out.below hT)
  have HS2 := hide (HSk.out.trans (Str.below hT))
  clear hT HXk HSk
  go_wp2
  refine Rest.done ?_
  have hold := HcA.out X HX2.out
  have hfr := frozen_of_row X w.heap.size k _ _ (on_blk_mul HX2.out)
  have hfin := rowSet HX2.out k dk
  rw [Hset.out] at hfin
  have HF := hide hfin
  clear hfin
  by_cases c1 : d2 < 0
  ·have hN := show bb2 = 1 by have := Hstep.out; have := Hd.out; rw [if_pos (by omega)] at *; omega
   have s1 : IntKind.i64.wrap (d2 + 32768) = (dk : Int) := by rw [IntWalk.i64_in _ (by omega)]; have := Hsub.out; have := Hd.out; omega
   have HN := hide hN
   clear hN
   go_wp2
   exact ⟨⟨k + 1, by omega, by simp, by rw [Hbb2.out, HN.out]; rfl, HF.out, HS2.out.setCell _ _⟩, by simp [intOf]; omega⟩
  have hN := show bb2 = 0 by have := Hstep.out; have := Hd.out; rw [if_neg (by omega)] at *; omega
  have s1 : d2 = (dk : Int) := by have := Hsub.out; have := Hd.out; omega
  have HN := hide hN
  have Hs1 := hide s1
  clear hN s1
  go_wp2
  exact ⟨⟨k + 1, by omega, by simp, by rw [Hbb2.out, HN.out]; rfl, by rw [Hs1.out]; exact HF.out, HS2.out.setCell _ _⟩, by simp [intOf]; omega⟩
 obtain rfl : k = 17 := by omega
 have e4 : (ds 17 (a - b)).take 17 ++ (ds 17 a).drop 17 = ds 17 (a - b) := by rw [List.take_of_length_le (by rw [ds_len]; omega), List.drop_of_length_le (by rw [ds_len]; omega), List.append_nil]
 rw [e4, show dvs (ds 17 (a - b)) = n17 (a - b) from rfl, HRn.out] at HXk
 have gA := on_blk_mul HXk.out
 have gR := on_blk_mul HXk.out.right.right
 have HB := hide (all_below HXk.out.right.right.right HSk.out)
 clear e4 HXk
 go_wp2_with (first
  | (refine wS gR HsRn HzRn HoRn ?_)
  | (refine wL gA hun HsRn ?_))
 exact retR Tryz.results70 gR hun HsRn.out rfl HB.out (by omega)
theorem St.start (l : List Nat) (hl : l.length = 17) (hM : ∀ x ∈ l, x ≤ 1152921504606846976) : St (dval l) 0 l :=
 ⟨hl, hM, rfl, fun h => by omega, fun h => by omega, fun h => by omega⟩
theorem cy_le60 (l : List Nat) (h : ∀ x ∈ l, x ≤ 1152921504606846976) (k : Nat) (hk : k ≤ l.length) : cy l k ≤ 70368744177664 := by
 have := cy_le l _ h k hk
 omega
theorem settle_any (l0 : List Nat) (hl : l0.length = 17) (hM : ∀ x ∈ l0, x ≤ 1152921504606846976) (w : World) :
  Calls Tryz.prog 72 #[.agg (dvs l0)] w fun e w' => e = .returned (.agg (n17 (dval l0 % P5))) ∧ Below w.heap.size w w' := by
 have hst := St.start l0 hl hM
 have hin : (dvs l0).size = 17 := by rw [dvs_size, hl]
 generalize dval l0 = V at *
 have h0 := ((on_all w).alloc (.cells (dvs l0) 56)).alloc (.cells (n17 0) 56)
 have s0 := ((Str.refl w).alloc (.cells (dvs l0) 56)).alloc (.cells (n17 0) 56)
 simp only [World.size_alloc] at h0
 rw [SP.mul_left_comm] at h0
 have H1 := hide h0
 have S1 := hide s0
 have Hst := hide hst
 have hun := Tryz.underlying56
 have hzn := nZero
 clear h0 s0 hl hM hst
 have HsP4 := hide (nInfo P5)
 obtain ⟨HsR, HoR, HzR⟩ := nF (V % P5)
 have HI := hide nInfo
 have HS := hide nSize
 have HP := hide (fun X => rp_any X)
 have HPlt : Hid (P5 < 2 ^ 255) := hide (by decide +kernel)
 generalize hP4 : n17 P5 = P4 at *
 generalize hZn : n17 0 = Zn at *
 generalize hR : n17 (V % P5) = Rn at *
 have HP4 := hide hP4
 have HZn := hide hZn
 have HR := hide hR
 clear hP4 hZn hR
 generalize hL0 : dvs l0 = L0 at *
 have HL0 := hide hL0
 clear hL0
 go_enter Tryz.func72, Tryz.ntmps72
 go_wp2_with fail
 generalize (w.alloc (.cells L0 56)).alloc (.cells Zn 56) = w1 at *
 go_loopw [3] (fun i wr => ∃ r : Nat, r ≤ 4 ∧ i = .int .i64 r ∧ ∃ l, St V r l ∧ (blk w.heap.size (.cells (dvs l) 56 (0, 0)) * (blk (w.heap.size + 1) (.cells Zn 56 (0, 0)) * all w)).on wr ∧ Str w wr) (fun i _ => 4 - (intOf i).toNat)
 case atStart => exact ⟨0, by omega, rfl, l0, Hst.out, by rw [HL0.out]; exact H1.out, S1.out⟩
 obtain ⟨r, hr, rfl, l, hst, hX, hS2⟩ := hrel
 have HXr := hide hX
 have HSr := hide hS2
 have Hl := hide hst
 clear hX hS2 hst H1 S1 Hst
 by_cases hlt : r < 4
 ·have hr4 : (r : Int) < 4 := by omega
  go_wp2_with fail
  go_loopw [4, 5] (fun cv i wr => ∃ k : Nat, k ≤ 17 ∧ i = .int .i64 k ∧ cv = nv (cy l k) ∧ (blk w.heap.size (.cells (dvs ((ds 17 (dval l)).take k ++ l.drop k)) 56 (0, 0)) * (blk (w.heap.size + 1) (.cells Zn 56 (0, 0)) * all w)).on wr ∧ Str w wr) (fun _ i _ => 17 - (intOf i).toNat)
  case atStart => exact ⟨0, by omega, rfl, by rw [cy_0]; rfl, by rw [List.take_zero, List.drop_zero, List.nil_append]; exact HXr.out, HSr.out⟩
  obtain ⟨k, hk, rfl, rfl, hX, hS2⟩ := hrel
  have HXk := hide hX
  have HSk := hide hS2
  clear hX hS2 HXr HSr
  by_cases hlt2 : k < 17
  ·have hlk : k < l.length := by rw [Hl.out.len]; exact hlt2
   obtain ⟨q1, q2⟩ := cy_step l k l[k] (List.getElem?_eq_getElem hlk)
   have hcb := cy_le60 l Hl.out.le k (by omega)
   have hxb := Hl.out.le l[k] (List.getElem_mem hlk)
   have hget := mid_get (ds 17 (dval l)) l k (by rw [ds_len]; exact hk)
   rw [List.getElem?_eq_getElem hlk] at hget
   have hold := rowCell HXk.out k _ hget
   have hfr := frozen_of_row wr w.heap.size k _ _ (on_blk_mul HXk.out)
   have hset := rowSet HXk.out k (dg (dval l) k)
   rw [set_takeN (ds 17 (dval l)) l k (dg (dval l) k) (ds_get 17 _ k hlt2) hlk, q2] at hset
   have HN := hide hset
   have Hq1 := hide q1
   clear hset hget q1 q2 HXk
   generalize l[k] = x at *
   generalize cy l k = c at *
   have s1 : IntKind.i64.wrap ((x : Int) + (c : Int)) = ((x + c : Nat) : Int) := by rw [IntWalk.i64_in _ (by omega)]; omega
   have hyb : x + c ≤ 1153000000000000000 := by omega
   generalize x + c = y at *
   have c1 : IntKind.i64.wrap ((y : Int) / 32768) = ((y / 32768 : Nat) : Int) := by rw [IntWalk.i64_in _ (by omega)]; omega
   have c2 : ((y : Int)).tmod 32768 = ((y % 32768 : Nat) : Int) := by rw [Int.tmod_eq_emod_of_nonneg (by omega)]; omega
   have hk17 : (k : Int) < 17 := by omega
   go_wp2
   exact ⟨⟨k + 1, by omega, by simp, by rw [Hq1.out]; exact congrArg (Value.int .i64) (by omega), HN.out, HSk.out.setCell _ _⟩, by simp [intOf]; omega⟩
  obtain rfl : k = 17 := by omega
  have e4 : (ds 17 (dval l)).take 17 ++ l.drop 17 = ds 17 (dval l) := by rw [List.take_of_length_le (by rw [ds_len]; omega), List.drop_of_length_le (by rw [Hl.out.len]; omega), List.append_nil]
  rw [e4] at HXk
  have hcb := cy_le60 l Hl.out.le 17 (by rw [Hl.out.len]; omega)
  have hold := rowCell HXk.out 0 (dg (dval l) 0) (ds_get 17 _ 0 (by decide))
  have hfr := frozen_of_row wr w.heap.size 0 _ _ (on_blk_mul HXk.out)
  have hset := rowSet HXk.out 0 (dg (dval l) 0 + 19 * cy l 17)
  have Hnx := hide (show (ds 17 (dval l)).set 0 (dg (dval l) 0 + 19 * cy l 17) = nextS l from rfl)
  rw [Hnx.out] at hset
  have HN := hide hset
  have hdb := dg_lt (dval l) 0
  have HNx := hide Hl.out.next
  clear hset e4 HXk Hnx
  generalize dg (dval l) 0 = d at *
  generalize cy l 17 = c at *
  have s1 : IntKind.i64.wrap (19 * (c : Int)) = ((19 * c : Nat) : Int) := by rw [IntWalk.i64_in _ (by omega)]; omega
  have s2 : IntKind.i64.wrap ((d : Int) + ((19 * c : Nat) : Int)) = ((d + 19 * c : Nat) : Int) := by rw [IntWalk.i64_in _ (by omega)]; omega
  generalize hcc : 19 * c = cc at *
  have Hcc := hide hcc
  clear hcc
  go_wp2_with fail
  exact ⟨⟨r + 1, by omega, by simp, nextS l, HNx.out, HN.out, HSk.out.setCell _ _⟩, by simp [intOf]; omega⟩
 obtain rfl : r = 4 := by omega
 obtain ⟨v, rfl, hv1, hv2⟩ := Hl.out.done
 have H2 := HXr
 have S2 := HSr
 have HsVn := hide (HI.out v)
 have HoVn := hide (nOne v)
 obtain ⟨HsUn, HoUn, HzUn⟩ := b3 (HI.out (v - P5)) (nOne (v - P5)) (HS.out v (v - P5))
 have HzVn := hide (HS.out 0 v)
 have HzUn2 := hide (HS.out 0 (v - P5))
 rw [HZn.out] at HzVn HzUn2
 have HL := hide (fun X => rless_any v P5 hv1 HPlt.out X)
 have HU := hide (fun h X => under_any v P5 hv1 h X)
 clear Hl HXr HSr hv1
 by_cases hvp : v < P5
 ·rw [if_pos hvp] at hv2
  have HV : Hid (n17 v = Rn) := hide (by rw [hv2, HR.out])
  simp only [hvp, decide_true] at HL
  clear hvp hv2 HU HzUn HzUn2 HoUn HsUn
  rw [show dvs (ds 17 v) = n17 v from rfl] at H2
  generalize n17 v = Vn at *
  rw [HP4.out] at HL
  go_wp2_with fail
  refine rV (iv [.agg Vn, .agg P4, .bool true, .bool false]) ?t47 ?r48
  case' t47 => refine ⟨?_, ?_, ?_, ?_, trivial⟩ <;> intro ev X hT hb hk hf
  ·exact OpOk.l (x := .tmp 1) hk.1 (on_blk_mul (H2.out.below hT)) hun HsVn.out
  ·exact OpOk.c0 hb (HP.out X)
  ·exact OpOk.c2 (fX ev 32 hf.1) (fX ev 33 hf.2.1) hb (HL.out X)
  ·exact OpOk.s (fX ev 34 hf.1) hb
  intro w3 hX
  rintro _ - _ - _ - _ rfl
  obtain ⟨H3, S3⟩ := nx H2.out S2.out hX
  clear hX H2 S2
  go_wp2
  refine Rest.done ?_
  have g0 := on_blk_mul H3.out
  have gR := on_blk_mul H3.out.right
  have HB := hide (all_below H3.out.right.right S3.out)
  go_wp2_with (first
   | (refine wS gR HsVn HzVn HoVn ?_)
   | (refine wL g0 hun HsVn ?_))
  exact retE Tryz.results72 gR hun HsVn.out rfl (by rw [HV.out]) HB.out (by omega)
 rw [if_neg hvp] at hv2
 have HV : Hid (n17 (v - P5) = Rn) := hide (by rw [hv2, HR.out])
 have HL2 : Hid (∀ X, Calls Tryz.prog 75 #[.agg (n17 v), .agg P4] X fun e w' => e = .returned (.bool false) ∧ Below X.heap.size X w') := hide fun X => by
  have := HL.out X
  rwa [decide_eq_false hvp, HP4.out] at this
 have HU2 : Hid (∀ X, Calls Tryz.prog 70 #[.agg (n17 v), .agg P4] X fun e w' => e = .returned (.agg (n17 (v - P5))) ∧ Below X.heap.size X w') := hide fun X => by
  have := HU.out (by omega) X
  rwa [HP4.out] at this
 clear hvp hv2 HL HU
 have HL := HL2
 clear HL2
 rw [show dvs (ds 17 v) = n17 v from rfl] at H2
 generalize n17 v = Vn at *
 generalize n17 (v - P5) = Un at *
 go_wp2_with fail
 refine rV (iv [.agg Vn, .agg P4, .bool false, .bool true]) ?t48 ?r49
 case' t48 => refine ⟨?_, ?_, ?_, ?_, trivial⟩ <;> intro ev X hT hb hk hf
 ·exact OpOk.l (x := .tmp 1) hk.1 (on_blk_mul (H2.out.below hT)) hun HsVn.out
 ·exact OpOk.c0 hb (HP.out X)
 ·exact OpOk.c2 (fX ev 32 hf.1) (fX ev 33 hf.2.1) hb (HL.out X)
 ·exact OpOk.s (fX ev 34 hf.1) hb
 intro w3 hX
 rintro _ - _ - _ - _ rfl
 obtain ⟨H3, S3⟩ := nx H2.out S2.out hX
 clear hX H2 S2
 go_wp2
 refine Rest.done ?_
 go_wp2_with fail
 refine wp_tail 3 (iv [.agg Vn, .agg P4, .agg Un]) ?t49 ?r50
 case' t49 => refine ⟨?_, ?_, ?_, trivial⟩ <;> intro ev X hT hb hk hf
 ·exact OpOk.l (x := .tmp 1) hk.1 (on_blk_mul (H3.out.below hT)) hun HsVn.out
 ·exact OpOk.c0 hb (HP.out X)
 ·exact OpOk.c2 (fX ev 36 hf.1) (fX ev 37 hf.2.1) hb (HU2.out X)
 intro w4 hX
 rintro _ - _ - _ rfl
 obtain ⟨H4, S4⟩ := nx H3.out S3.out hX
 clear hX H3 S3
 refine Rest.done ?_
 have H5 := hide (st0 H4.out (cs := Un))
 have S5 := hide (S4.out.setRow (w.heap.size) Un)
 have gW := on_blk_mul H4.out
 have g0 := on_blk_mul H5.out
 have gR := on_blk_mul H5.out.right
 have HB := hide (all_below H5.out.right.right S5.out)
 go_wp2_with (first
  | (refine wS gW HsUn HzUn HoUn ?_)
  | (refine wS gR HsUn HzUn2 HoUn ?_)
  | (refine wL g0 hun HsUn ?_))
 exact retE Tryz.results72 gR hun HsUn.out rfl (by rw [HV.out]) HB.out (by omega)
theorem dval_zip : ∀ (a b : List Nat), a.length = b.length → dval (List.zipWith (· + ·) a b) = dval a + dval b
 | [], [], _ => rfl
 | x :: a, y :: b, h => by
  have := dval_zip a b (by simpa using h)
  simp only [List.zipWith_cons_cons, dval, this]; omega
theorem dval_sub (a b : Nat) (ha : a < 2 ^ 255) (hb : b < 2 ^ 255) : dval (List.zipWith (· + ·) (ds 17 a) (ds 17 b)) = a + b := by
 rw [dval_zip _ _ (by rw [ds_len, ds_len]), dval_ds, dval_ds, D17, Nat.mod_eq_of_lt ha, Nat.mod_eq_of_lt hb]
theorem zip_le (a b : Nat) : ∀ x ∈ List.zipWith (· + ·) (ds 17 a) (ds 17 b), x ≤ 1152921504606846976 := by
 intro x hx
 obtain ⟨i, hi, rfl⟩ := List.mem_iff_getElem.1 hx
 rw [List.getElem_zipWith]
 have h1 := ds_lt 17 a _ (List.getElem_mem (l := ds 17 a) (n := i) (by simp at hi; omega))
 have h2 := ds_lt 17 b _ (List.getElem_mem (l := ds 17 b) (n := i) (by simp at hi; omega))
 omega
theorem zip_len (a b : Nat) : (List.zipWith (· + ·) (ds 17 a) (ds 17 b)).length = 17 := by simp [ds_len]
theorem zip_get (a b k : Nat) (h : k < 17) : (List.zipWith (· + ·) (ds 17 a) (ds 17 b))[k]? = some (dg a k + dg b k) := by
 rw [List.getElem?_zipWith, ds_get 17 a k h, ds_get 17 b k h]
theorem P5_255lt : P5 < 2 ^ 255 := by decide +kernel
theorem rsmall_any (n : Nat) (hn : n ≤ 1152921504606846976) (w : World) : Calls Tryz.prog 44 #[nv n] w fun e w' => e = .returned (.agg (n17 (n % P5))) ∧ Below w.heap.size w w' := by
 have hun := Tryz.underlying56
 have hzn := nZero
 have h0 := ((on_all w).alloc (.cells (n17 0) 56)).alloc (.cells (n17 0) 56)
 have s0 := ((Str.refl w).alloc (.cells (n17 0) 56)).alloc (.cells (n17 0) 56)
 try simp only [World.size_alloc] at h0
 have H1 := hide h0
 have S1 := hide s0
 clear h0 s0
 have Hc : Hid (∀ X, Calls Tryz.prog 72 #[.agg (dvs ((List.replicate 17 0).set 0 n))] X fun e w' => e = .returned (.agg (n17 (n % P5))) ∧ Below X.heap.size X w') := hide fun X => by
  have := settle_any ((List.replicate 17 0).set 0 n) (by simp) (by
   intro x hx
   rcases List.mem_or_eq_of_mem_set hx with h | rfl
   ·have := List.eq_of_mem_replicate h; omega
   exact hn) X
  rwa [show dval ((List.replicate 17 0).set 0 n) = n by simp [List.replicate, List.set, dval]] at this
 have HsL := hide (nInfoL ((List.replicate 17 0).set 0 n) (by simp))
 have Hz9 := hide nz_lit
 clear hn
 obtain ⟨HsRn, HoRn, HzRn⟩ := nF (n % P5)
 generalize hRn : n17 (n % P5) = Rn at *
 have HRn := hide hRn
 clear hRn
 generalize hZn : n17 0 = Zn at *
 have HZn := hide hZn
 clear hZn
 go_enter Tryz.func44, Tryz.ntmps44
 have e9 : Zn = dvs (List.replicate 17 0) := Hz9.out
 have h2 := ((on_all w).alloc (.cells Zn 56)).alloc (.cells (Zn.setIfInBounds 0 (nv n)) 56)
 simp only [World.size_alloc] at h2
 have e8 : Zn.setIfInBounds 0 (nv n) = dvs ((List.replicate 17 0).set 0 n) := by rw [e9, dvs_set]
 have H2 : Hid ((blk (w.heap.size + 1) (.cells (dvs ((List.replicate 17 0).set 0 n)) 56 (0, 0)) * (blk w.heap.size (.cells Zn 56 (0, 0)) * all w)).on ((w.alloc (.cells Zn 56)).alloc (.cells (Zn.setIfInBounds 0 (nv n)) 56))) := hide (by rw [← e8]; exact h2)
 have S2 := hide (((Str.refl w).alloc (.cells Zn 56)).alloc (.cells (Zn.setIfInBounds 0 (nv n)) 56))
 have hcell := rowCell (show (blk (w.heap.size + 1) (.cells (dvs (List.replicate 17 0)) 56 (0, 0)) * (blk w.heap.size (.cells Zn 56 (0, 0)) * all w)).on _ by rw [← e9]; exact H1.out) 0 0 (by decide)
 have hfr := frozen_of_row _ (w.heap.size + 1) 0 _ _ (on_blk_mul H1.out)
 clear h2 e8 e9
 generalize dvs ((List.replicate 17 0).set 0 n) = Ln at *
 have g0 := on_blk_mul H2.out
 go_wp2_with (first
  | (refine wL g0 hun HsL ?_))
 generalize (w.alloc (.cells Zn 56)).alloc (.cells (Zn.setIfInBounds 0 (nv n)) 56) = w2 at *
 clear g0 hcell hfr
 refine (Hc.out _).mono ?_
 rintro e w3 ⟨rfl, hB⟩
 obtain ⟨H3, S3⟩ := nx H2.out S2.out hB
 clear hB H2 S2
 have gR := on_blk_mul H3.out.right
 have HB := hide (all_below H3.out.right.right S3.out)
 go_wp2_with (first
  | (refine wS gR HsRn HzRn HoRn ?_))
 exact retR Tryz.results44 gR hun HsRn.out rfl HB.out (by omega)
theorem radd_any (a b : Nat) (ha : a < 2 ^ 255) (hb : b < 2 ^ 255) (w : World) :
  Calls Tryz.prog 45 #[.agg (n17 a), .agg (n17 b)] w fun e w' => e = .returned (.agg (n17 ((a + b) % P5))) ∧ Below w.heap.size w w' := by
 have hun := Tryz.underlying56
 have hzn := nZero
 have h0 := (((on_all w).alloc (.cells (n17 (a)) 56)).alloc (.cells (n17 (b)) 56)).alloc (.cells (n17 0) 56)
 have s0 := (((Str.refl w).alloc (.cells (n17 (a)) 56)).alloc (.cells (n17 (b)) 56)).alloc (.cells (n17 0) 56)
 try simp only [World.size_alloc] at h0
 have H1 := hide h0
 have S1 := hide s0
 clear h0 s0
 obtain ⟨L, hL⟩ : ∃ L, L = List.zipWith (· + ·) (ds 17 a) (ds 17 b) := ⟨_, rfl⟩
 have hll : L.length = 17 := by rw [hL, zip_len]
 have Hc : Hid (∀ X, Calls Tryz.prog 72 #[.agg (dvs L)] X fun e w' => e = .returned (.agg (n17 ((a + b) % P5))) ∧ Below X.heap.size X w') := hide fun X => by
  have := settle_any L hll (by rw [hL]; exact zip_le a b) X
  rwa [show dval L = a + b by rw [hL]; exact dval_sub a b ha hb] at this
 have HsL := hide (nInfoL L hll)
 have Hg := hide (show ∀ k, k < 17 → L[k]? = some (dg a k + dg b k) from fun k hk => by rw [hL]; exact zip_get a b k hk)
 have Hll := hide hll
 clear hL hll ha hb
 obtain ⟨HsAn, HoAn, HzAn⟩ := nF (a)
 obtain ⟨HsBn, HoBn, HzBn⟩ := nF (b)
 obtain ⟨HsRn, HoRn, HzRn⟩ := b3 (nInfo ((a + b) % P5)) (nOne ((a + b) % P5)) (nSize 0 ((a + b) % P5))
 generalize hAn : n17 (a) = An at *
 have HAn := hide hAn
 clear hAn
 generalize hBn : n17 (b) = Bn at *
 have HBn := hide hBn
 clear hBn
 generalize hRn : n17 ((a + b) % P5) = Rn at *
 have HRn := hide hRn
 clear hRn
 generalize hZn : n17 0 = Zn at *
 have HZn := hide hZn
 clear hZn
 go_enter Tryz.func45, Tryz.ntmps45
 go_wp2_with fail
 generalize ((w.alloc (.cells An 56)).alloc (.cells Bn 56)).alloc (.cells Zn 56) = w1 at *
 go_loopw [5] (fun i wr => ∃ k : Nat, k ≤ 17 ∧ i = .int .i64 k ∧ (blk w.heap.size (.cells (dvs (L.take k ++ (ds 17 a).drop k)) 56 (0, 0)) * (blk (w.heap.size + 1) (.cells Bn 56 (0, 0)) * (blk (w.heap.size + 1 + 1) (.cells Zn 56 (0, 0)) * all w))).on wr ∧ Str w wr) (fun i _ => 17 - (intOf i).toNat)
 case atStart =>
  refine ⟨0, by omega, rfl, ?_, S1.out⟩
  rw [List.take_zero, List.drop_zero, List.nil_append, show dvs (ds 17 a) = n17 a from rfl, HAn.out]
  have := H1.out
  have e : ∀ P Q R T : SP, P * (Q * (R * T)) = R * (Q * (P * T)) := fun P Q R T => by ac_rfl
  rw [e] at this
  exact this
 obtain ⟨k, hk, rfl, hX, hS2⟩ := hrel
 have HXk := hide hX
 have HSk := hide hS2
 clear hX hS2 H1 S1
 by_cases hlt : k < 17
 ·have Hset := hide (set_takeN L (ds 17 a) k _ (Hg.out k hlt) (by rw [ds_len]; exact hlt))
  have hget := mid_get L (ds 17 a) k (by rw [Hll.out]; exact hk)
  rw [ds_get 17 a k hlt] at hget
  have HcB : Hid (∀ X, (blk (w.heap.size + 1) (.cells Bn 56 (0, 0)) * (blk (w.heap.size + 1 + 1) (.cells Zn 56 (0, 0)) * all w)).on X → X.cell? ⟨w.heap.size + 1, k, .none⟩ = some (nv (dg b k))) := hide fun X hX => by rw [cell_of_row X (w.heap.size + 1) k Bn _ _ (on_blk_mul hX), ← HBn.out]; exact dvs_get _ k (dg b k) (ds_get 17 b k hlt)
  have hpl : (L.take k ++ (ds 17 a).drop k).length = 17 := by rw [List.length_append, List.length_take, List.length_drop, Hll.out, ds_len]; omega
  obtain ⟨pl, hpl2⟩ : ∃ pl, pl = L.take k ++ (ds 17 a).drop k := ⟨_, rfl⟩
  rw [← hpl2] at HXk Hset hget hpl
  have l1 := dg_lt a k
  have l2 := dg_lt b k
  generalize dg a k = x at *
  generalize dg b k = y at *
  have s1 : IntKind.i64.wrap ((x : Int) + (y : Int)) = ((x + y : Nat) : Int) := by rw [IntWalk.i64_in _ (by omega)]; omega
  generalize x + y = z at *
  obtain ⟨P1, hP1⟩ : ∃ P1, P1 = dvs pl := ⟨_, rfl⟩
  obtain ⟨P2, hP2⟩ : ∃ P2, P2 = dvs (pl.set k z) := ⟨_, rfl⟩
  have Hp2 := hide (show P1.setIfInBounds k (nv z) = P2 by rw [hP1, hP2, dvs_set])
  have HP2 := hide (show P2 = dvs (L.take (k + 1) ++ (ds 17 a).drop (k + 1)) by rw [hP2, Hset.out])
  have Hps := hide (show k < P1.size by rw [hP1, dvs_size, hpl]; exact hlt)
  have HcA : Hid (∀ X, (blk w.heap.size (.cells P1 56 (0, 0)) * (blk (w.heap.size + 1) (.cells Bn 56 (0, 0)) * (blk (w.heap.size + 1 + 1) (.cells Zn 56 (0, 0)) * all w))).on X → X.cell? ⟨w.heap.size, k, .none⟩ = some (nv x)) := hide fun X hX => by rw [hP1] at hX; exact rowCell hX k _ hget
  have hs8 : (Tryz.prog.info? 3).map (·.size) = some 1 := by kernel_rfl
  rw [← hP1] at HXk
  have Q1 := hide s1
  clear hP1 hP2 hpl hpl2 hget Hset s1
  have hk17 : (k : Int) < 17 := by omega
  go_wp2_with fail
  refine AppK.wp_region_set 8 [isV (.int .i64 (k : Int)), isV (.pointer (some ⟨w.heap.size, k, .none⟩)), isV (nv x), isV (.int .i64 (k : Int)), isV (.pointer (some ⟨w.heap.size + 1, k, .none⟩)), isV (nv y), isV (nv z), isV (.pointer (some ⟨w.heap.size, k, .none⟩)), (fun _ _ => True)]
   [isV (.int .i64 (k : Int)), isV (.pointer (some ⟨w.heap.size, k, .none⟩)), isV (nv x), isV (.int .i64 (k : Int)), isV (.pointer (some ⟨w.heap.size + 1, k, .none⟩)), isV (nv y), isV (nv z), isV (.pointer (some ⟨w.heap.size, k, .none⟩)), (fun _ _ => True)] _ rfl (by kernel_rfl) (by kernel_rfl) rfl (by decide) (.inr rfl) (fun ph X => (blk w.heap.size (.cells (if ph = true then P2 else P1) 56 (0, 0)) * (blk (w.heap.size + 1) (.cells Bn 56 (0, 0)) * (blk (w.heap.size + 1 + 1) (.cells Zn 56 (0, 0)) * all w))).on X ∧ Str w X) ⟨SP.on.drew HXk.out, Str.drew HSk.out⟩ (fun ph a b h st => ⟨h.1.below st, h.2.trans (Str.below st)⟩) kP kP ?store ?todo ?r51
  case store =>
   intro ev X hT hb hk hf
   have hX : (blk w.heap.size (.cells P1 56 (0, 0)) * (blk (w.heap.size + 1) (.cells Bn 56 (0, 0)) * (blk (w.heap.size + 1 + 1) (.cells Zn 56 (0, 0)) * all w))).on X := hT.1
   exact OpOk.store_one _ _ _ rfl w.heap.size k (nv z) (fX ev 17 hf.1) (fX ev 16 hf.2.1) rfl _ P1 hX hs8 Hps.out rfl P2 Hp2.out (fun h3 => ⟨⟨h3, hT.2.setRow _ _⟩, trivial, fun i _ hv => vList_free fR i _ _ _ hv⟩)
  case todo =>
   refine ⟨?_, ?_, ?_, ?_, ?_, ?_, ?_, ?_, ?_, trivial⟩
   ·refine pK fun ev X hT hb hk hf => ?_
    exact OpOk.m rfl (fV ev 5 (.int .i64 (k : Int)) hk.1)
   ·refine pK fun ev X hT hb hk hf => ?_
    exact OpOk.r (by simp [execOp, fV ev 2 (.pointer (some ⟨w.heap.size, 0, .none⟩)) hk.1, fX ev 10 hf.1, hb.1, hk17, go_sem]; try (intro h; omega))
   ·refine pK fun ev X hT hb hk hf => ?_
    have cW := HcA.out X hT.1
    exact OpOk.sc (fX ev 11 hf.1) cW
   ·refine pK fun ev X hT hb hk hf => ?_
    exact OpOk.m rfl (fV ev 5 (.int .i64 (k : Int)) hk.1)
   ·refine pK fun ev X hT hb hk hf => ?_
    exact OpOk.r (by simp [execOp, fV ev 3 (.pointer (some ⟨w.heap.size + 1, 0, .none⟩)) hk.1, fX ev 13 hf.1, hb.1, hk17, go_sem]; try (intro h; omega))
   ·refine pK fun ev X hT hb hk hf => ?_
    have cW := HcB.out X hT.1.right
    exact OpOk.sc (fX ev 14 hf.1) cW
   ·refine pK fun ev X hT hb hk hf => ?_
    exact OpOk.r (by have h9 := Q1.out; simp [execOp, fX ev 12 hf.1, fX ev 15 hf.2.1, h9, go_sem])
   ·refine pK fun ev X hT hb hk hf => ?_
    exact OpOk.r (by simp [execOp, fV ev 2 (.pointer (some ⟨w.heap.size, 0, .none⟩)) hk.1, fX ev 10 hf.1, hb.1, hk17, go_sem]; try (intro h; omega))
   exact fun h => absurd rfl h
  intro X hT
  rintro _ - _ - _ - _ - _ - _ - _ - _ - _ -
  have hX2 : (blk w.heap.size (.cells P2 56 (0, 0)) * (blk (w.heap.size + 1) (.cells Bn 56 (0, 0)) * (blk (w.heap.size + 1 + 1) (.cells Zn 56 (0, 0)) * all w))).on X := hT.1
  have HX2 := hide hX2
  have HST := hide hT.2
  clear hT hX2
  go_wp2
  refine Rest.done ?_
  go_wp2
  refine ⟨⟨k + 1, by omega, by simp, by rw [← HP2.out]; exact HX2.out, HST.out⟩, by simp [intOf]; omega⟩
 obtain rfl : k = 17 := by omega
 have e4 : L.take 17 ++ (ds 17 a).drop 17 = L := by rw [List.take_of_length_le (by rw [Hll.out]; omega), List.drop_of_length_le (by rw [ds_len]; omega), List.append_nil]
 rw [e4] at HXk
 have H2 := HXk
 have S2 := HSk
 have g0 := on_blk_mul H2.out
 clear e4 HXk HSk
 generalize dvs L = Ln at *
 go_wp2_with (refine wL g0 hun HsL ?_)
 clear g0
 refine (Hc.out _).mono ?_
 rintro e w3 ⟨rfl, hB⟩
 obtain ⟨H3, S3⟩ := nx H2.out S2.out hB
 clear hB H2 S2
 have gR := on_blk_mul H3.out.right.right
 have HB := hide (all_below H3.out.right.right.right S3.out)
 go_wp2_with (first
  | (refine wS gR HsRn HzRn HoRn ?_))
 exact retR Tryz.results45 gR hun HsRn.out rfl HB.out (by omega)
theorem rneg_any (a : Nat) (ha : a < P5) (w : World) :
  Calls Tryz.prog 43 #[.agg (n17 a)] w fun e w' => e = .returned (.agg (n17 ((P5 - a) % P5))) ∧ Below w.heap.size w w' := by
 have hun := Tryz.underlying56
 have hzn := nZero
 have h0 := ((on_all w).alloc (.cells (n17 (a)) 56)).alloc (.cells (n17 0) 56)
 have s0 := ((Str.refl w).alloc (.cells (n17 (a)) 56)).alloc (.cells (n17 0) 56)
 try simp only [World.size_alloc] at h0
 have H1 := hide h0
 have S1 := hide s0
 clear h0 s0
 have HP := hide (fun X => rp_any X)
 have HU := hide (fun X => under_any P5 a P5_255lt (by omega) X)
 have HT : Hid (∀ X, Calls Tryz.prog 72 #[.agg (n17 (P5 - a))] X fun e w' => e = .returned (.agg (n17 ((P5 - a) % P5))) ∧ Below X.heap.size X w') := hide fun X => by
  have := settle_any (ds 17 (P5 - a)) (ds_len _ _) (fun x hx => by have := ds_lt _ _ x hx; omega) X
  rwa [dval_ds, D17, Nat.mod_eq_of_lt (a := P5 - a) (b := 2 ^ 255) (by have := P5_255lt; omega)] at this
 clear ha
 obtain ⟨HsAn, HoAn, HzAn⟩ := nF (a)
 obtain ⟨HsPn, HoPn, HzPn⟩ := nF (P5)
 obtain ⟨HsUn, HoUn, HzUn⟩ := nF (P5 - a)
 obtain ⟨HsRn, HoRn, HzRn⟩ := b3 (nInfo ((P5 - a) % P5)) (nOne ((P5 - a) % P5)) (nSize 0 ((P5 - a) % P5))
 generalize hAn : n17 (a) = An at *
 have HAn := hide hAn
 clear hAn
 generalize hPn : n17 (P5) = Pn at *
 have HPn := hide hPn
 clear hPn
 generalize hUn : n17 (P5 - a) = Un at *
 have HUn := hide hUn
 clear hUn
 generalize hRn : n17 ((P5 - a) % P5) = Rn at *
 have HRn := hide hRn
 clear hRn
 generalize hZn : n17 0 = Zn at *
 have HZn := hide hZn
 clear hZn
 go_enter Tryz.func43, Tryz.ntmps43
 go_wp2_with fail
 generalize (w.alloc (.cells An 56)).alloc (.cells Zn 56) = w1 at *
 refine wp_tail 4 (iv [.agg Pn, .agg An, .agg Un, .agg Rn]) ?t50 ?r52
 case' t50 => refine ⟨?_, ?_, ?_, ?_, trivial⟩ <;> intro ev X hT hb hk hf
 ·exact OpOk.c0 hb (HP.out X)
 ·exact OpOk.l (x := .tmp 1) hk.1 (on_blk_mul (H1.out.below hT).right) hun HsAn.out
 ·exact OpOk.c2 (fX ev 3 hf.1) (fX ev 4 hf.2.1) hb (HU.out X)
 ·exact OpOk.c1 (fX ev 5 hf.1) hb (HT.out X)
 intro w2 hX
 rintro _ - _ - _ - _ rfl
 obtain ⟨H2, S2⟩ := nx H1.out S1.out hX
 clear hX H1 S1
 refine Rest.done ?_
 have gR := on_blk_mul H2.out
 have HB := hide (all_below H2.out.right.right S2.out)
 go_wp2_with (first
  | (refine wS gR HsRn HzRn HoRn ?_))
 exact retR Tryz.results43 gR hun HsRn.out rfl HB.out (by omega)
theorem rsub_any (a b : Nat) (ha : a < P5) (hb : b < P5) (w : World) :
  Calls Tryz.prog 73 #[.agg (n17 a), .agg (n17 b)] w fun e w' => e = .returned (.agg (n17 ((a + (P5 - b)) % P5))) ∧ Below w.heap.size w w' := by
 have hun := Tryz.underlying56
 have hzn := nZero
 have h0 := (((on_all w).alloc (.cells (n17 (a)) 56)).alloc (.cells (n17 (b)) 56)).alloc (.cells (n17 0) 56)
 have s0 := (((Str.refl w).alloc (.cells (n17 (a)) 56)).alloc (.cells (n17 (b)) 56)).alloc (.cells (n17 0) 56)
 try simp only [World.size_alloc] at h0
 have H1 := hide h0
 have S1 := hide s0
 clear h0 s0
 have hp := P5_255lt
 have hm : (P5 - b) % P5 < P5 := Nat.mod_lt _ P5_pos
 have HU := hide (fun X => rneg_any b hb X)
 have HT : Hid (∀ X, Calls Tryz.prog 45 #[.agg (n17 a), .agg (n17 ((P5 - b) % P5))] X fun e w' => e = .returned (.agg (n17 ((a + (P5 - b)) % P5))) ∧ Below X.heap.size X w') := hide fun X => by
  have := radd_any a ((P5 - b) % P5) (by omega) (by omega) X
  rwa [Nat.add_mod_mod] at this
 clear ha hb hp hm
 obtain ⟨HsAn, HoAn, HzAn⟩ := nF (a)
 obtain ⟨HsBn, HoBn, HzBn⟩ := nF (b)
 obtain ⟨HsUn, HoUn, HzUn⟩ := b3 (nInfo ((P5 - b) % P5)) (nOne ((P5 - b) % P5)) (nSize 0 ((P5 - b) % P5))
 obtain ⟨HsRn, HoRn, HzRn⟩ := b3 (nInfo ((a + (P5 - b)) % P5)) (nOne ((a + (P5 - b)) % P5)) (nSize 0 ((a + (P5 - b)) % P5))
 generalize hAn : n17 (a) = An at *
 have HAn := hide hAn
 clear hAn
 generalize hBn : n17 (b) = Bn at *
 have HBn := hide hBn
 clear hBn
 generalize hUn : n17 ((P5 - b) % P5) = Un at *
 have HUn := hide hUn
 clear hUn
 generalize hRn : n17 ((a + (P5 - b)) % P5) = Rn at *
 have HRn := hide hRn
 clear hRn
 generalize hZn : n17 0 = Zn at *
 have HZn := hide hZn
 clear hZn
 go_enter Tryz.func73, Tryz.ntmps73
 go_wp2_with fail
 generalize ((w.alloc (.cells An 56)).alloc (.cells Bn 56)).alloc (.cells Zn 56) = w1 at *
 refine wp_tail 4 (iv [.agg An, .agg Bn, .agg Un, .agg Rn]) ?t51 ?r53
 case' t51 => refine ⟨?_, ?_, ?_, ?_, trivial⟩ <;> intro ev X hT hb hk hf
 ·exact OpOk.l (x := .tmp 2) hk.1 (on_blk_mul (H1.out.below hT).right.right) hun HsAn.out
 ·exact OpOk.l (x := .tmp 3) hk.1 (on_blk_mul (H1.out.below hT).right) hun HsBn.out
 ·exact OpOk.c1 (fX ev 6 hf.1) hb (HU.out X)
 ·exact OpOk.c2 (fX ev 5 hf.1) (fX ev 7 hf.2.1) hb (HT.out X)
 intro w2 hX
 rintro _ - _ - _ - _ rfl
 obtain ⟨H2, S2⟩ := nx H1.out S1.out hX
 clear hX H1 S1
 refine Rest.done ?_
 have gR := on_blk_mul H2.out
 have HB := hide (all_below H2.out.right.right.right S2.out)
 go_wp2_with (first
  | (refine wS gR HsRn HzRn HoRn ?_))
 exact retR Tryz.results73 gR hun HsRn.out rfl HB.out (by omega)
theorem bInfo (l : List UInt8) (h : l.length = 32) : (Tryz.prog.info? 22).map (·.size) = some (zb l).size := by rw [show (zb l).size = 32 by simp [zb, vbs, h]]; kernel_rfl
theorem bSize (l m : List UInt8) (hl : l.length = 32) (hm : m.length = 32) : (zb l).size = (zb m).size := by simp [zb, vbs, hl, hm]
theorem bOne (l : List UInt8) : (zb l).all (·.oneCell') = true := vba _
theorem bZero (w : World) : (zeroValue 22).run Tryz.prog w = .ok (.agg (zb (List.replicate 32 0))) w := by kernel_rfl
theorem byte_bit (l : List UInt8) (k : Nat) (h : k / 8 < l.length) : (((((l.getD (k / 8) 0).toNat : Nat) : Int) / 2 ^ (k % 8)).tmod 2 == 1) = (leN l).testBit k := by
 have hbit : ((l.getD (k / 8) 0).toNat : Int) / 2 ^ (k % 8) = (((l.getD (k / 8) 0).toNat / 2 ^ (k % 8) : Nat) : Int) := by rw [Int.natCast_ediv, Int.natCast_pow]; rfl
 have hb := leN_bit l k (by omega)
 unfold bitAt at hb
 rw [hbit, Int.tmod_eq_emod_of_nonneg (Int.natCast_nonneg _), Nat.testBit_eq_decide_div_mod_eq, hb, Bool.eq_iff_iff, beq_iff_eq, decide_eq_true_eq]
 omega
theorem dg_bit (n k : Nat) : ((((dg n (k / 15) : Nat) : Int) / 2 ^ (k % 15)).tmod 2 == 1) = n.testBit k := by
 have hbit : ((dg n (k / 15) : Nat) : Int) / 2 ^ (k % 15) = ((dg n (k / 15) / 2 ^ (k % 15) : Nat) : Int) := by rw [Int.natCast_ediv, Int.natCast_pow]; rfl
 have h1 : (dg n (k / 15)).testBit (k % 15) = n.testBit k := by
  rw [dg_pow, Nat.testBit_mod_two_pow, Nat.testBit_div_two_pow]
  have : k % 15 < 15 := Nat.mod_lt _ (by decide)
  simp only [this, decide_true, Bool.true_and]
  congr 1; omega
 rw [hbit, Int.tmod_eq_emod_of_nonneg (Int.natCast_nonneg _), ← h1, Nat.testBit_eq_decide_div_mod_eq, Bool.eq_iff_iff, beq_iff_eq, decide_eq_true_eq]
 omega
theorem dg_lt_bit (n k : Nat) : dg (n % 2 ^ k) (k / 15) + 2 ^ (k % 15) < 65536 := by
 have h1 := dg_lt (n % 2 ^ k) (k / 15)
 have h2 : (2 : Nat) ^ (k % 15) ≤ 2 ^ 14 := Nat.pow_le_pow_right (by decide) (by omega)
 omega
theorem bl_lt_bit (n k : Nat) : n % 2 ^ k / 256 ^ (k / 8) % 256 + 2 ^ (k % 8) < 256 := by
 have h := bit_dig 8 (n % 2 ^ k) k (k / 8) (by decide) (Nat.mod_lt _ (Nat.pow_pos (by decide)))
 rw [if_pos rfl, Nat.pow_mul, show (2 : Nat) ^ 8 = 256 from rfl] at h
 rw [← h]
 exact Nat.mod_lt _ (by decide)
theorem zb_set (l : List UInt8) (k : Nat) (x : UInt8) : (zb l).setIfInBounds k (vb x) = zb (l.set k x) := by
 unfold zb; rw [List.setIfInBounds_toArray, ← vbs_set]
theorem zb_get (l : List UInt8) (k : Nat) (x : UInt8) (h : l[k]? = some x) : (zb l)[k]? = some (vb x) := by
 obtain ⟨hk, rfl⟩ := List.getElem?_eq_some_iff.1 h
 unfold zb; rw [List.getElem?_toArray]; exact vbs_get _ k hk
theorem bl_0 : bl 0 = List.replicate 32 0 := by decide
theorem p255 : 18446744073709551616 ^ 4 = 2 * 2 ^ 255 := by decide +kernel
theorem frombytes_any (l : List UInt8) (hl : l.length = 32) (w : World) :
  Calls Tryz.prog 74 #[.agg (zb l)] w fun e w' => e = .returned (.tuple #[.agg (n17 (leN l % 2 ^ 255)), .bool (decide (2 ^ 255 ≤ leN l))]) ∧ Below w.heap.size w w' := by
 have hun := Tryz.underlying56
 have hub := Tryz.underlying22
 have hzn := nZero
 have h0 := (((on_all w).alloc (.cells (zb l) 22)).alloc (.cells (n17 0) 56)).alloc (.cells (n17 0) 56)
 have s0 := (((Str.refl w).alloc (.cells (zb l) 22)).alloc (.cells (n17 0) 56)).alloc (.cells (n17 0) 56)
 simp only [World.size_alloc] at h0
 have H1 := hide h0
 have S1 := hide s0
 clear h0 s0
 obtain ⟨HsRn, HoRn, HzRn⟩ := nF (leN l % 2 ^ 255)
 have Hbit := hide (fun k (h : k < 256) => byte_bit l k (by omega))
 have Hget := hide (fun k (h : k < 32) => zb_get l k (l.getD k 0) (by rw [List.getD_eq_getElem?_getD, List.getElem?_eq_getElem (show k < l.length by omega)]; rfl))
 have hlt := leN_lt l
 rw [hl, B256, p255] at hlt
 have Hhigh := hide (show decide ((128 : Int) ≤ (((l.getD 31 0).toNat : Nat) : Int)) = decide (2 ^ 255 ≤ leN l) by
  have h1 := leN_at l 31 (by omega)
  have h2 : leN l / 256 ^ 31 < 256 := by
   rw [Nat.div_lt_iff_lt_mul (by decide)]
   have : 256 * 256 ^ 31 = 2 * 2 ^ 255 := by decide +kernel
   omega
  rw [Nat.mod_eq_of_lt h2] at h1
  have h3 : (2 : Nat) ^ 255 = 128 * 256 ^ 31 := by decide +kernel
  have h4 : 128 ≤ (l.getD 31 0).toNat ↔ 128 * 256 ^ 31 ≤ leN l := by rw [← h1]; exact Nat.le_div_iff_mul_le (by decide)
  rw [← h3] at h4
  exact decide_eq_decide.2 (by rw [← h4]; omega))
 have Hget31 := hide (Hget.out 31 (by decide))
 have Hl := hide hl
 clear hlt hl
 generalize l.getD 31 0 = lx at *
 generalize hA : zb l = An at *
 generalize hZn : n17 0 = Zn at *
 generalize hR : n17 (leN l % 2 ^ 255) = Rn at *
 have HZn := hide hZn
 have HR := hide hR
 clear hA hZn hR
 go_enter Tryz.func74, Tryz.ntmps74
 go_wp2_with fail
 generalize ((w.alloc (.cells An 22)).alloc (.cells Zn 56)).alloc (.cells Zn 56) = w1 at *
 go_loopw [5] (fun i wr => ∃ k : Nat, k ≤ 255 ∧ i = .int .i64 k ∧ (blk (w.heap.size + 1 + 1) (.cells (n17 (leN l % 2 ^ k)) 56 (0, 0)) * (blk (w.heap.size + 1) (.cells Zn 56 (0, 0)) * (blk w.heap.size (.cells An 22 (0, 0)) * all w))).on wr ∧ Str w wr) (fun i _ => 255 - (intOf i).toNat)
 case atStart => exact ⟨0, by omega, rfl, by rw [Nat.pow_zero, Nat.mod_one, HZn.out]; exact H1.out, S1.out⟩
 obtain ⟨k, hk, rfl, hX, hS2⟩ := hrel
 have HXk := hide hX
 have HSk := hide hS2
 clear hX hS2 H1 S1
 by_cases hlt : k < 255
 ·have hdb := ds_bit (leN l) k
  have hb := Hbit.out k (by omega)
  have hcell := (cell_of_row wr w.heap.size (k / 8) _ _ _ (on_blk_mul HXk.out.right.right)).trans (Hget.out (k / 8) (by omega))
  have c1 : IntKind.i64.wrap ((k : Int) / 8) = ((k / 8 : Nat) : Int) := by rw [IntWalk.i64_in _ (by omega)]; omega
  have c2 : ((k : Int)).tmod 8 = ((k % 8 : Nat) : Int) := by rw [Int.tmod_eq_emod_of_nonneg (by omega)]; omega
  have hk32 : ((k / 8 : Nat) : Int) < 32 := by omega
  have hk255 : (k : Int) < 255 := by omega
  have hm8 : k % 8 < 8 := by omega
  generalize l.getD (k / 8) 0 = bx at *
  by_cases ht : (leN l).testBit k = true
  ·rw [ht] at hb
   rw [if_pos ht] at hdb
   have hlb := dg_lt_bit (leN l) k
   obtain ⟨p, hp⟩ : ∃ p : Nat, p = 2 ^ (k % 15) := ⟨_, rfl⟩
   have hget := ds_get 17 (leN l % 2 ^ k) (k / 15) (by omega)
   have hqk : k / 15 < 17 := by omega
   have hset := dvs_set (ds 17 (leN l % 2 ^ k)) (k / 15) (dg (leN l % 2 ^ k) (k / 15) + 2 ^ (k % 15))
   rw [← hdb, ← hp] at hset
   rw [← hp] at hlb
   have q6 : IntKind.i64.wrap (2 ^ (k % 15)) = (p : Int) := by rw [show (2 : Int) ^ (k % 15) = (p : Int) by rw [hp, Int.natCast_pow]; rfl, IntWalk.i64_in _ (by omega)]
   have d1 : IntKind.i64.wrap ((k : Int) / 15) = ((k / 15 : Nat) : Int) := by rw [IntWalk.i64_in _ (by omega)]; omega
   have d2 : ((k : Int)).tmod 15 = ((k % 15 : Nat) : Int) := by rw [Int.tmod_eq_emod_of_nonneg (by omega)]; omega
   have q7 : IntKind.i64.wrap (((dg (leN l % 2 ^ k) (k / 15) : Nat) : Int) + (p : Int)) = ((dg (leN l % 2 ^ k) (k / 15) + p : Nat) : Int) := by rw [IntWalk.i64_in _ (by omega)]; omega
   have hq15 : ((k / 15 : Nat) : Int) < 17 := by omega
   have hr15 : k % 15 < 15 := by omega
   have Hcl := hide (dvs_get _ _ _ hget)
   have Hset := hide hset
   have Hps := hide (show k / 15 < (n17 (leN l % 2 ^ k)).size by rw [n17_size]; omega)
   have Q6 := hide q6
   have Q7 := hide q7
   have hs8 : (Tryz.prog.info? 3).map (·.size) = some 1 := by kernel_rfl
   clear hset hget q6 q7 hdb hlb ht hqk hp
   have Hcl : Hid ((n17 (leN l % 2 ^ k))[k / 15]? = some (nv (dg (leN l % 2 ^ k) (k / 15)))) := Hcl
   have Hset : Hid ((n17 (leN l % 2 ^ k)).setIfInBounds (k / 15) (nv (dg (leN l % 2 ^ k) (k / 15) + p)) = n17 (leN l % 2 ^ (k + 1))) := Hset
   generalize dg (leN l % 2 ^ k) (k / 15) = d at *
   generalize hz : d + p = z at *
   generalize n17 (leN l % 2 ^ k) = P1 at *
   generalize hP2 : n17 (leN l % 2 ^ (k + 1)) = P2 at *
   have HP2 := hide hP2
   clear hP2 hz
   generalize hq : k / 15 = q at *
   generalize hm : k % 15 = m at *
   clear hq hm
   go_wp2_with fail
   refine AppK.wp_region_set 9 [isV (.int .i64 (k : Int)), isV (.int .i64 ((q : Nat) : Int)), isV (.pointer (some ⟨w.heap.size + 1 + 1, q, .none⟩)), isV (nv d), isV (.int .i64 (k : Int)), isV (.int .i64 ((m : Nat) : Int)), isV (nv p), isV (nv z), isV (.pointer (some ⟨w.heap.size + 1 + 1, q, .none⟩)), (fun _ _ => True)]
    [isV (.int .i64 (k : Int)), isV (.int .i64 ((q : Nat) : Int)), isV (.pointer (some ⟨w.heap.size + 1 + 1, q, .none⟩)), isV (nv d), isV (.int .i64 (k : Int)), isV (.int .i64 ((m : Nat) : Int)), isV (nv p), isV (nv z), isV (.pointer (some ⟨w.heap.size + 1 + 1, q, .none⟩)), (fun _ _ => True)] _ rfl (by kernel_rfl) (by kernel_rfl) rfl (by decide) (.inr rfl) (fun ph X => (blk (w.heap.size + 1 + 1) (.cells (if ph = true then P2 else P1) 56 (0, 0)) * (blk (w.heap.size + 1) (.cells Zn 56 (0, 0)) * (blk w.heap.size (.cells An 22 (0, 0)) * all w))).on X ∧ Str w X) ⟨SP.on.drew HXk.out, Str.drew HSk.out⟩ (fun ph a b h st => ⟨h.1.below st, h.2.trans (Str.below st)⟩) kP kP ?store ?todo ?r54
   case store =>
    intro ev X hT hb hk hf
    have hX : (blk (w.heap.size + 1 + 1) (.cells P1 56 (0, 0)) * (blk (w.heap.size + 1) (.cells Zn 56 (0, 0)) * (blk w.heap.size (.cells An 22 (0, 0)) * all w))).on X := hT.1
    exact OpOk.store_one _ _ _ rfl (w.heap.size + 1 + 1) q (nv z) (fX ev 27 hf.1) (fX ev 26 hf.2.1) rfl _ P1 hX hs8 Hps.out rfl P2 Hset.out (fun h3 => ⟨⟨h3, hT.2.setRow _ _⟩, trivial, fun i _ hv => vList_free fR i _ _ _ hv⟩)
   case todo =>
    refine ⟨?_, ?_, ?_, ?_, ?_, ?_, ?_, ?_, ?_, ?_, trivial⟩
    ·refine pK fun ev X hT hb hk hf => ?_
     exact OpOk.m rfl (fV ev 5 (.int .i64 (k : Int)) hk.1)
    ·refine pK fun ev X hT hb hk hf => ?_
     exact OpOk.r (by simp [execOp, fX ev 19 hf.1, hb.1, d1, go_sem])
    ·refine pK fun ev X hT hb hk hf => ?_
     exact OpOk.r (by simp [execOp, fV ev 4 (.pointer (some ⟨w.heap.size + 1 + 1, 0, .none⟩)) hk.1, fX ev 20 hf.1, hb.1, hq15, go_sem]; try (intro h; omega))
    ·refine pK fun ev X hT hb hk hf => ?_
     have cW := (cell_of_row X (w.heap.size + 1 + 1) q _ _ _ (on_blk_mul hT.1)).trans Hcl.out
     exact OpOk.sc (fX ev 21 hf.1) cW
    ·refine pK fun ev X hT hb hk hf => ?_
     exact OpOk.m rfl (fV ev 5 (.int .i64 (k : Int)) hk.1)
    ·refine pK fun ev X hT hb hk hf => ?_
     exact OpOk.r (by simp [execOp, fX ev 23 hf.1, hb.1, d2, go_sem])
    ·refine pK fun ev X hT hb hk hf => ?_
     exact OpOk.r (by have h9 := Q6.out; simp [execOp, fX ev 24 hf.1, hb.1, h9, go_sem])
    ·refine pK fun ev X hT hb hk hf => ?_
     exact OpOk.r (by have h9 := Q7.out; simp [execOp, fX ev 22 hf.1, fX ev 25 hf.2.1, h9, go_sem])
    ·refine pK fun ev X hT hb hk hf => ?_
     exact OpOk.r (by simp [execOp, fV ev 4 (.pointer (some ⟨w.heap.size + 1 + 1, 0, .none⟩)) hk.1, fX ev 20 hf.1, hb.1, hq15, go_sem]; try (intro h; omega))
    exact fun h => absurd rfl h
   intro X hT
   rintro _ - _ - _ - _ - _ - _ - _ - _ - _ - _ -
   have hX2 : (blk (w.heap.size + 1 + 1) (.cells P2 56 (0, 0)) * (blk (w.heap.size + 1) (.cells Zn 56 (0, 0)) * (blk w.heap.size (.cells An 22 (0, 0)) * all w))).on X := hT.1
   have HX2 := hide hX2
   have HST := hide hT.2
   clear hT hX2
   go_wp2
   refine Rest.done ?_
   go_wp2
   refine ⟨⟨k + 1, by omega, by simp, by rw [HP2.out]; exact HX2.out, HST.out⟩, by simp [intOf]; omega⟩
  have hf : (leN l).testBit k = false := by simpa using ht
  rw [hf] at hb
  rw [if_neg ht] at hdb
  have HN := hide (show n17 (leN l % 2 ^ (k + 1)) = n17 (leN l % 2 ^ k) from congrArg dvs hdb)
  clear hdb ht hf
  go_wp2
  exact ⟨⟨k + 1, by omega, by simp, by rw [HN.out]; exact HXk.out, HSk.out⟩, by simp [intOf]; omega⟩
 obtain rfl : k = 255 := by omega
 rw [HR.out] at HXk
 have H2 := HXk
 have S2 := HSk
 clear HXk HSk
 have Hc31 : Hid (∀ X, (blk w.heap.size (.cells An 22 (0, 0)) * all w).on X → X.cell? ⟨w.heap.size, 31, .none⟩ = some (vb lx)) := hide fun X hX => (cell_of_row X w.heap.size 31 _ _ _ (on_blk_mul hX)).trans Hget31.out
 have Hlx := hide (show decide ((128 : Int) ≤ ((lx.toNat : Nat) : Int)) = decide (2 ^ 255 ≤ leN l) from Hhigh.out)
 generalize hdd : decide (2 ^ 255 ≤ leN l) = dd at *
 have Hdd := hide hdd
 clear hdd Hhigh
 go_wp2_with fail
 refine AppK.wp_region_set 4 [isV (.agg Rn), isV (.pointer (some ⟨w.heap.size, 31, .none⟩)), isV (vb lx), isV (.bool dd), (fun _ _ => True), isV (.bool dd)]
  [isV (.agg Rn), isV (.pointer (some ⟨w.heap.size, 31, .none⟩)), isV (vb lx), isV (.bool dd), (fun _ _ => True), isV (.bool dd)] _ rfl (by kernel_rfl) (by kernel_rfl) rfl (by decide) (.inr rfl) (fun ph X => (blk (w.heap.size + 1 + 1) (.cells Rn 56 (0, 0)) * (blk (w.heap.size + 1) (.cells (if ph = true then Rn else Zn) 56 (0, 0)) * (blk w.heap.size (.cells An 22 (0, 0)) * all w))).on X ∧ Str w X) ⟨SP.on.drew H2.out, Str.drew S2.out⟩ (fun ph a b h st => ⟨h.1.below st, h.2.trans (Str.below st)⟩) kP kP ?store ?todo ?r55
 case store =>
  intro ev X hT hb hk hf
  have hX : (blk (w.heap.size + 1 + 1) (.cells Rn 56 (0, 0)) * (blk (w.heap.size + 1) (.cells Zn 56 (0, 0)) * (blk w.heap.size (.cells An 22 (0, 0)) * all w))).on X := hT.1
  rw [SP.mul_left_comm] at hX
  exact OpOk.store_agg _ _ _ rfl (w.heap.size + 1) Rn (fV ev 2 (.pointer (some ⟨w.heap.size + 1, 0, .none⟩)) hk.1) (fX ev 28 hf.1) _ Zn hX HsRn.out HzRn.out HoRn.out (fun h3 => ⟨⟨by rw [SP.mul_left_comm] at h3; exact h3, hT.2.setRow _ _⟩, trivial, fun i _ hv => vList_free fR i _ _ _ hv⟩)
 case todo =>
  refine ⟨?_, ?_, ?_, ?_, ?_, ?_, trivial⟩
  ·refine pK fun ev X hT hb hk hf => ?_
   exact OpOk.l (fV ev 4 (.pointer (some ⟨w.heap.size + 1 + 1, 0, .none⟩)) hk.1) (on_blk_mul hT.1) hun HsRn.out
  ·intro _ ph h1 h2
   cases ph
   all_goals
    intro ev X hT hb hk hf
    exact OpOk.s (fV ev 1 (.pointer (some ⟨w.heap.size, 0, .none⟩)) hk.1) hb
  ·intro _ ph h1 h2
   cases ph
   all_goals
    intro ev X hT hb hk hf
    have cW := Hc31.out X hT.1.right.right
    exact OpOk.sc (fX ev 29 hf.1) cW
  ·intro _ ph h1 h2
   cases ph
   all_goals
    intro ev X hT hb hk hf
    exact OpOk.r (by have h9 := Hlx.out; simp [execOp, fX ev 30 hf.1, hb.1, h9, go_sem])
  ·exact fun h => absurd rfl h
  intro _ ph h1 h2
  obtain rfl : ph = true := h1 (by kernel_rfl)
  intro ev X hT hb hk hf
  exact OpOk.assign rfl (fX ev 31 hf.1) ⟨rfl, Stay.refl _⟩
 intro X hT
 rintro _ - _ - _ - _ - _ - _ rfl
 have hX2 : (blk (w.heap.size + 1 + 1) (.cells Rn 56 (0, 0)) * (blk (w.heap.size + 1) (.cells Rn 56 (0, 0)) * (blk w.heap.size (.cells An 22 (0, 0)) * all w))).on X := hT.1
 have gR := on_blk_mul hX2.right
 have HB := hide (all_below hX2.right.right.right hT.2)
 clear hT hX2
 go_wp2
 refine Rest.done ?_
 go_wp2
 exact bodyPost_ret (v := .tuple #[.agg Rn, .bool dd]) (results_cell_row_tmp Tryz.results74 _ _ (w.heap.size + 1) _ Rn (0, 0) _ rfl gR hun rfl HsRn.out (.bool dd) rfl) rfl ⟨by rw [Hdd.out], HB.out⟩
def lw (n k : Nat) : List Nat := (List.range 4).map fun j => limb n j / 256 ^ (k - 8 * j)
theorem lw_len (n k : Nat) : (lw n k).length = 4 := by simp [lw]
theorem lw_get (n k j : Nat) (h : j < 4) : (lw n k)[j]? = some (limb n j / 256 ^ (k - 8 * j)) := by simp [lw, h]
theorem lw_0 (n : Nat) : lw n 0 = qs 4 n := by
 unfold lw qs
 apply List.map_congr_left
 intro j _
 rw [Nat.zero_sub, Nat.pow_zero, Nat.div_one]
theorem limb_zero (n j t : Nat) (h : 8 ≤ t) : limb n j / 256 ^ t = 0 := by
 refine Nat.div_eq_of_lt (Nat.lt_of_lt_of_le (limb_lt n j) ?_)
 rw [show (18446744073709551616 : Nat) = 256 ^ 8 from rfl]
 exact Nat.pow_le_pow_right (by decide) h
theorem lw_32 (n : Nat) : lw n 32 = qs 4 0 := by
 refine List.ext_getElem? fun j => ?_
 by_cases hj : j < 4
 ·rw [lw_get n 32 j hj, qs_get 4 0 j hj, limb_zero n j _ (by omega)]
  simp [limb]
 rw [List.getElem?_eq_none (by rw [lw_len]; omega), List.getElem?_eq_none (by rw [qs_len]; omega)]
theorem lw_step (n i : Nat) (h : i < 32) : (lw n (i + 1)).set (i / 8) (limb n (i / 8) / 256 ^ (i % 8)) = lw n i := by
 refine List.ext_getElem? fun j => ?_
 by_cases hj : j < 4
 ·rw [lw_get n i j hj]
  by_cases he : j = i / 8
  ·rw [he, List.getElem?_set_self (by rw [lw_len]; omega), show i - 8 * (i / 8) = i % 8 by omega]
  rw [List.getElem?_set_ne (by omega), lw_get n _ j hj]
  rcases Nat.lt_or_ge j (i / 8) with h1 | h1
  ·rw [limb_zero n j _ (by omega), limb_zero n j _ (by omega)]
  rw [show i + 1 - 8 * j = 0 by omega, show i - 8 * j = 0 by omega]
 rw [List.getElem?_eq_none (by rw [List.length_set, lw_len]; omega), List.getElem?_eq_none (by rw [lw_len]; omega)]
theorem byte_limb (n i : Nat) : limb n (i / 8) / 256 ^ (i % 8) % 256 = n / 256 ^ i % 256 := by
 unfold limb
 have e : (18446744073709551616 : Nat) = 256 ^ (i % 8) * (256 * 256 ^ (7 - i % 8)) := by
  have h : i % 8 < 8 := Nat.mod_lt _ (by decide)
  rw [show (18446744073709551616 : Nat) = 256 ^ 8 from rfl, ← Nat.pow_succ', ← Nat.pow_add]
  congr 1; omega
 have e2 : (256 : Nat) ^ i = 18446744073709551616 ^ (i / 8) * 256 ^ (i % 8) := by
  rw [show (18446744073709551616 : Nat) = 256 ^ 8 from rfl, ← Nat.pow_mul, ← Nat.pow_add, Nat.div_add_mod]
 conv => lhs; rw [show n / 18446744073709551616 ^ (i / 8) % 18446744073709551616 = n / 18446744073709551616 ^ (i / 8) % (256 ^ (i % 8) * (256 * 256 ^ (7 - i % 8))) by rw [← e]]
 rw [Nat.mod_mul_right_div_self, Nat.mod_mul_right_mod, e2, Nat.div_div_eq_div_mul]
theorem lw_val (n i : Nat) (h : i < 32) : limb n (i / 8) / 256 ^ (i % 8) = limb n (i / 8) / 256 ^ (i + 1 - 8 * (i / 8)) * 256 + n / 256 ^ i % 256 := by
 rw [← byte_limb n i, show i + 1 - 8 * (i / 8) = i % 8 + 1 by omega, Nat.pow_succ, ← Nat.div_div_eq_div_mul]
 omega
theorem bytes_any (n : Nat) (hn : n < 2 ^ 255) (w : World) :
  Calls Tryz.prog 39 #[.agg (n17 n)] w fun e w' => e = .returned (.agg (zb (bl n))) ∧ Below w.heap.size w w' := by
 have hun := Tryz.underlying56
 have hub := Tryz.underlying22
 have hzb := bZero
 have h0 := (((on_all w).alloc (.cells (n17 n) 56)).alloc (.cells (zb (List.replicate 32 0)) 22)).alloc (.cells (zb (List.replicate 32 0)) 22)
 have s0 := (((Str.refl w).alloc (.cells (n17 n) 56)).alloc (.cells (zb (List.replicate 32 0)) 22)).alloc (.cells (zb (List.replicate 32 0)) 22)
 simp only [World.size_alloc] at h0
 have H1 := hide h0
 have S1 := hide s0
 clear h0 s0
 obtain ⟨HsRb, HoRb, HzRb⟩ := b3 (bInfo (bl n) (bl_len n)) (bOne (bl n)) (bSize (List.replicate 32 0) (bl n) (by simp) (bl_len n))
 have Hbit := hide (dg_bit n)
 have Hget := hide (fun k (h : k < 17) => dvs_get _ _ _ (ds_get 17 n k h))
 have Hget : Hid (∀ k, k < 17 → (n17 n)[k]? = some (nv (dg n k))) := Hget
 have Hend := hide (show bl (n % 2 ^ 255) = bl n by rw [Nat.mod_eq_of_lt hn])
 have Hb0 := hide (show zb (bl (n % 2 ^ 0)) = zb (List.replicate 32 0) by rw [Nat.pow_zero, Nat.mod_one, bl_0])
 clear hn
 generalize hA : n17 n = An at *
 generalize hZ : zb (List.replicate 32 0) = Zb at *
 generalize hR : zb (bl n) = Rb at *
 have HR := hide hR
 clear hA hZ hR
 go_enter Tryz.func39, Tryz.ntmps39
 go_wp2_with fail
 generalize ((w.alloc (.cells An 56)).alloc (.cells Zb 22)).alloc (.cells Zb 22) = w1 at *
 go_loopw [4] (fun i wr => ∃ k : Nat, k ≤ 255 ∧ i = .int .i64 k ∧ (blk (w.heap.size + 1 + 1) (.cells (zb (bl (n % 2 ^ k))) 22 (0, 0)) * (blk (w.heap.size + 1) (.cells Zb 22 (0, 0)) * (blk w.heap.size (.cells An 56 (0, 0)) * all w))).on wr ∧ Str w wr) (fun i _ => 255 - (intOf i).toNat)
 case atStart => exact ⟨0, by omega, rfl, by rw [Hb0.out]; exact H1.out, S1.out⟩
 obtain ⟨k, hk, rfl, hX, hS2⟩ := hrel
 have HXk := hide hX
 have HSk := hide hS2
 clear hX hS2 H1 S1
 by_cases hlt : k < 255
 ·have hdb := bl_bit n k
  have hb := Hbit.out k
  have hcell := (cell_of_row wr w.heap.size (k / 15) _ _ _ (on_blk_mul HXk.out.right.right)).trans (Hget.out (k / 15) (by omega))
  have c1 : IntKind.i64.wrap ((k : Int) / 15) = ((k / 15 : Nat) : Int) := by rw [IntWalk.i64_in _ (by omega)]; omega
  have c2 : ((k : Int)).tmod 15 = ((k % 15 : Nat) : Int) := by rw [Int.tmod_eq_emod_of_nonneg (by omega)]; omega
  have hk17 : ((k / 15 : Nat) : Int) < 17 := by omega
  have hk255 : (k : Int) < 255 := by omega
  have hm15 : k % 15 < 15 := by omega
  generalize dg n (k / 15) = bx at *
  by_cases ht : n.testBit k = true
  ·rw [ht] at hb
   rw [if_pos ht] at hdb
   have hlb := bl_lt_bit n k
   obtain ⟨p, hp⟩ : ∃ p : Nat, p = 2 ^ (k % 8) := ⟨_, rfl⟩
   rw [← hp] at hlb hdb
   have hget := zb_get _ _ _ (bl_get (n % 2 ^ k) (k / 8) (by omega))
   have hq32 : k / 8 < 32 := by omega
   generalize hx : n % 2 ^ k / 256 ^ (k / 8) % 256 = x at *
   have hset := zb_set (bl (n % 2 ^ k)) (k / 8) (UInt8.ofNat (x + p))
   rw [← hdb] at hset
   have hp0 : 0 < p := by rw [hp]; exact Nat.pow_pos (by decide)
   have q6 : IntKind.u8.wrap (2 ^ (k % 8)) = (p : Int) := by rw [show (2 : Int) ^ (k % 8) = (p : Int) by rw [hp, Int.natCast_pow]; rfl, IntKind.wrap_u8]; omega
   have d1 : IntKind.i64.wrap ((k : Int) / 8) = ((k / 8 : Nat) : Int) := by rw [IntWalk.i64_in _ (by omega)]; omega
   have d2 : ((k : Int)).tmod 8 = ((k % 8 : Nat) : Int) := by rw [Int.tmod_eq_emod_of_nonneg (by omega)]; omega
   have q7 : IntKind.u8.wrap ((((UInt8.ofNat x).toNat : Nat) : Int) + (p : Int)) = (((UInt8.ofNat (x + p)).toNat : Nat) : Int) := by
    rw [UInt8.toNat_ofNat', UInt8.toNat_ofNat', IntKind.wrap_u8]; omega
   have hq15 : ((k / 8 : Nat) : Int) < 32 := by omega
   have hr15 : k % 8 < 8 := by omega
   have Hcl := hide hget
   have Hset := hide hset
   have Hps := hide (show k / 8 < (zb (bl (n % 2 ^ k))).size by rw [show (zb (bl (n % 2 ^ k))).size = 32 by simp [zb, vbs, bl_len]]; omega)
   have Q6 := hide q6
   have Q7 := hide q7
   have hs8 : (Tryz.prog.info? 5).map (·.size) = some 1 := by kernel_rfl
   clear hset hget q6 q7 hdb hlb ht hq32 hp hx
   generalize UInt8.ofNat (x + p) = z at *
   generalize UInt8.ofNat x = d at *
   generalize zb (bl (n % 2 ^ k)) = P1 at *
   generalize hP2 : zb (bl (n % 2 ^ (k + 1))) = P2 at *
   have HP2 := hide hP2
   clear hP2
   generalize hq : k / 8 = q at *
   generalize hm : k % 8 = m at *
   clear hq hm
   go_wp2_with fail
   refine AppK.wp_region_set 9 [isV (.int .i64 (k : Int)), isV (.int .i64 ((q : Nat) : Int)), isV (.pointer (some ⟨w.heap.size + 1 + 1, q, .none⟩)), isV (vb d), isV (.int .i64 (k : Int)), isV (.int .i64 ((m : Nat) : Int)), isV (.int .u8 (p : Int)), isV (vb z), isV (.pointer (some ⟨w.heap.size + 1 + 1, q, .none⟩)), (fun _ _ => True)]
    [isV (.int .i64 (k : Int)), isV (.int .i64 ((q : Nat) : Int)), isV (.pointer (some ⟨w.heap.size + 1 + 1, q, .none⟩)), isV (vb d), isV (.int .i64 (k : Int)), isV (.int .i64 ((m : Nat) : Int)), isV (.int .u8 (p : Int)), isV (vb z), isV (.pointer (some ⟨w.heap.size + 1 + 1, q, .none⟩)), (fun _ _ => True)] _ rfl (by kernel_rfl) (by kernel_rfl) rfl (by decide) (.inr rfl) (fun ph X => (blk (w.heap.size + 1 + 1) (.cells (if ph = true then P2 else P1) 22 (0, 0)) * (blk (w.heap.size + 1) (.cells Zb 22 (0, 0)) * (blk w.heap.size (.cells An 56 (0, 0)) * all w))).on X ∧ Str w X) ⟨SP.on.drew HXk.out, Str.drew HSk.out⟩ (fun ph a b h st => ⟨h.1.below st, h.2.trans (Str.below st)⟩) kP kP ?store ?todo ?r56
   case store =>
    intro ev X hT hb hk hf
    have hX : (blk (w.heap.size + 1 + 1) (.cells P1 22 (0, 0)) * (blk (w.heap.size + 1) (.cells Zb 22 (0, 0)) * (blk w.heap.size (.cells An 56 (0, 0)) * all w))).on X := hT.1
    exact OpOk.store_one _ _ _ rfl (w.heap.size + 1 + 1) q (vb z) (fX ev 26 hf.1) (fX ev 25 hf.2.1) rfl _ P1 hX hs8 Hps.out rfl P2 Hset.out (fun h3 => ⟨⟨h3, hT.2.setRow _ _⟩, trivial, fun i _ hv => vList_free fR i _ _ _ hv⟩)
   case todo =>
    refine ⟨?_, ?_, ?_, ?_, ?_, ?_, ?_, ?_, ?_, ?_, trivial⟩
    ·refine pK fun ev X hT hb hk hf => ?_
     exact OpOk.m rfl (fV ev 4 (.int .i64 (k : Int)) hk.1)
    ·refine pK fun ev X hT hb hk hf => ?_
     exact OpOk.r (by simp [execOp, fX ev 18 hf.1, hb.1, d1, go_sem])
    ·refine pK fun ev X hT hb hk hf => ?_
     exact OpOk.r (by simp [execOp, fV ev 3 (.pointer (some ⟨w.heap.size + 1 + 1, 0, .none⟩)) hk.1, fX ev 19 hf.1, hb.1, hq15, go_sem]; try (intro h; omega))
    ·refine pK fun ev X hT hb hk hf => ?_
     have cW := (cell_of_row X (w.heap.size + 1 + 1) q _ _ _ (on_blk_mul hT.1)).trans Hcl.out
     exact OpOk.sc (fX ev 20 hf.1) cW
    ·refine pK fun ev X hT hb hk hf => ?_
     exact OpOk.m rfl (fV ev 4 (.int .i64 (k : Int)) hk.1)
    ·refine pK fun ev X hT hb hk hf => ?_
     exact OpOk.r (by simp [execOp, fX ev 22 hf.1, hb.1, d2, go_sem])
    ·refine pK fun ev X hT hb hk hf => ?_
     exact OpOk.r (by have h9 := Q6.out; simp [execOp, fX ev 23 hf.1, hb.1, h9, go_sem])
    ·refine pK fun ev X hT hb hk hf => ?_
     exact OpOk.r (by have h9 := Q7.out; simp [execOp, fX ev 21 hf.1, fX ev 24 hf.2.1, h9, go_sem])
    ·refine pK fun ev X hT hb hk hf => ?_
     exact OpOk.r (by simp [execOp, fV ev 3 (.pointer (some ⟨w.heap.size + 1 + 1, 0, .none⟩)) hk.1, fX ev 19 hf.1, hb.1, hq15, go_sem]; try (intro h; omega))
    exact fun h => absurd rfl h
   intro X hT
   rintro _ - _ - _ - _ - _ - _ - _ - _ - _ - _ -
   have hX2 : (blk (w.heap.size + 1 + 1) (.cells P2 22 (0, 0)) * (blk (w.heap.size + 1) (.cells Zb 22 (0, 0)) * (blk w.heap.size (.cells An 56 (0, 0)) * all w))).on X := hT.1
   have HX2 := hide hX2
   have HST := hide hT.2
   clear hT hX2
   go_wp2
   refine Rest.done ?_
   go_wp2
   refine ⟨⟨k + 1, by omega, by simp, by rw [HP2.out]; exact HX2.out, HST.out⟩, by simp [intOf]; omega⟩
  have hf : n.testBit k = false := by simpa using ht
  rw [hf] at hb
  rw [if_neg ht] at hdb
  have HN := hide (show zb (bl (n % 2 ^ (k + 1))) = zb (bl (n % 2 ^ k)) from congrArg zb hdb)
  clear hdb ht hf
  go_wp2
  exact ⟨⟨k + 1, by omega, by simp, by rw [HN.out]; exact HXk.out, HSk.out⟩, by simp [intOf]; omega⟩
 obtain rfl : k = 255 := by omega
 rw [Hend.out, HR.out] at HXk
 have g0 := on_blk_mul HXk.out
 have gR := on_blk_mul HXk.out.right
 have HB := hide (all_below HXk.out.right.right.right HSk.out)
 go_wp2_with (first
  | (refine wS gR HsRb HzRb HoRb ?_)
  | (refine wL g0 hub HsRb ?_))
 exact retR Tryz.results39 gR hub HsRb.out rfl HB.out (by omega)
theorem limbs_any (n : Nat) (hn : n < 2 ^ 255) (w : World) :
  Calls Tryz.prog 69 #[.agg (n17 n)] w fun e w' => e = .returned (.agg (q4 n)) ∧ Below w.heap.size w w' := by
 obtain ⟨HsBb, HoBb, HzBb⟩ := b3 (bInfo (bl n) (bl_len n)) (bOne (bl n)) (bSize (List.replicate 32 0) (bl n) (by simp) (bl_len n))
 have hu6 := Tryz.underlying50
 have hu8 := Tryz.underlying5
 have hzb := bZero
 have Hget := hide (fun k (h : k < 32) => zb_get _ _ _ (bl_get n k h))
 have Hc := hide (fun X => bytes_any n hn X)
 have H32 := hide (show lvs (lw n 32) = q4 0 from congrArg lvs (lw_32 n))
 have Hl0 := hide (show lvs (lw n 0) = q4 n from congrArg lvs (lw_0 n))
 clear hn
 have hu4 := Tryz.underlying51
 have hz4 := eZero4
 have hun := Tryz.underlying56
 have hzn := nZero
 have h0 := (((on_all w).alloc (.cells (n17 (n)) 56)).alloc (.cells (q4 0) 51)).alloc (.cells (q4 0) 51)
 have s0 := (((Str.refl w).alloc (.cells (n17 (n)) 56)).alloc (.cells (q4 0) 51)).alloc (.cells (q4 0) 51)
 try simp only [World.size_alloc] at h0
 have H1 := hide h0
 have S1 := hide s0
 clear h0 s0
 obtain ⟨HsAn, HoAn, HzAn⟩ := nF (n)
 obtain ⟨HsR4, HoR4, HzR4⟩ := b3 (eInfo4 (n)) (eOne (n)) (eSize 0 (n))
 generalize zb (List.replicate 32 0) = Zb at *
 generalize zb (bl n) = Bb at *
 generalize hAn : n17 (n) = An at *
 have HAn := hide hAn
 clear hAn
 generalize hR4 : q4 (n) = R4 at *
 have HR4 := hide hR4
 clear hR4
 generalize hZ4 : q4 0 = Z4 at *
 have HZ4 := hide hZ4
 clear hZ4
 generalize hZn : n17 0 = Zn at *
 have HZn := hide hZn
 clear hZn
 go_enter Tryz.func69, Tryz.ntmps69
 have gA := on_blk_mul H1.out.right.right
 go_wp2_with (first
  | (refine wL gA hun HsAn ?_))
 clear gA
 generalize ((w.alloc (.cells An 56)).alloc (.cells Z4 51)).alloc (.cells Z4 51) = w1 at *
 refine (Hc.out _).mono ?_
 rintro e w2 ⟨rfl, hB⟩
 obtain ⟨H2, S2⟩ := nx H1.out S1.out hB
 clear hB H1 S1
 obtain ⟨gN, gM, H3, S3⟩ := newV H2.out S2.out Zb Bb 22
 go_wp2_with (first
  | (refine wS gN HsBb HzBb HoBb ?_))
 generalize (w2.alloc (.cells Zb 22)).setRow w2.heap.size Bb = w3 at *
 clear gN gM H2 S2
 generalize w2.heap.size = p5 at *
 have h4 := H3.out
 rw [SP.mul_left_comm] at h4
 have H4 := hide h4
 clear h4 H3
 go_loopw [5] (fun i wr => ∃ k : Nat, k ≤ 32 ∧ i = .int .i64 ((k : Int) - 1) ∧ (blk (w.heap.size + 1 + 1) (.cells (lvs (lw n k)) 51 (0, 0)) * (blk p5 (.cells Bb 22 (0, 0)) * (blk (w.heap.size + 1) (.cells Z4 51 (0, 0)) * (blk w.heap.size (.cells An 56 (0, 0)) * all w)))).on wr ∧ Str w wr) (fun i _ => (intOf i + 1).toNat)
 case atStart => exact ⟨32, by omega, rfl, by rw [H32.out]; exact H4.out, S3.out⟩
 obtain ⟨k, hk, rfl, hX, hS2⟩ := hrel
 have HXk := hide hX
 have HSk := hide hS2
 clear hX hS2 H4 S3
 cases k with
 | zero =>
  rw [Hl0.out] at HXk
  have g0 := on_blk_mul HXk.out
  have gR := on_blk_mul HXk.out.right.right
  have HB := hide (all_below HXk.out.right.right.right.right HSk.out)
  go_wp2_with (first
   | (refine wS gR HsR4 HzR4 HoR4 ?_)
   | (refine wL g0 hu4 HsR4 ?_))
  exact retR Tryz.results69 gR hu4 HsR4.out rfl HB.out (by omega)
 | succ k =>
  have hk32 : k < 32 := by omega
  have s1 : (((k + 1 : Nat) : Int) - 1) = (k : Int) := by omega
  rw [s1]
  clear s1
  have hval := lw_val n k hk32
  have hb256 : n / 256 ^ k % 256 < 256 := Nat.mod_lt _ (by decide)
  have hll := limb_lt n (k / 8)
  have hle : limb n (k / 8) / 256 ^ (k % 8) ≤ limb n (k / 8) := Nat.div_le_self _ _
  have hstep := lw_step n k hk32
  have hget := lvs_get _ _ _ (lw_get n (k + 1) (k / 8) (by omega))
  have hgb := Hget.out k hk32
  have hxn : (UInt8.ofNat (n / 256 ^ k % 256)).toNat = n / 256 ^ k % 256 := by rw [UInt8.toNat_ofNat']; omega
  rw [← hxn] at hval
  have hset := lvs_set (lw n (k + 1)) (k / 8) (limb n (k / 8) / 256 ^ (k % 8))
  rw [hstep] at hset
  have Hps := hide (show k / 8 < (lvs (lw n (k + 1))).size by rw [lvs_size, lw_len]; omega)
  have hq4 : ((k / 8 : Nat) : Int) < 4 := by omega
  have hk32' : (k : Int) < 32 := by omega
  have c1 : IntKind.i64.wrap ((k : Int) / 8) = ((k / 8 : Nat) : Int) := by rw [IntWalk.i64_in _ (by omega)]; omega
  generalize UInt8.ofNat (n / 256 ^ k % 256) = x at *
  have hx8 := UInt8.toNat_lt x
  generalize limb n (k / 8) / 256 ^ (k % 8) = z at *
  generalize limb n (k / 8) / 256 ^ (k + 1 - 8 * (k / 8)) = y at *
  have c5 : IntKind.u64.wrap ((x.toNat : Nat) : Int) = ((x.toNat : Nat) : Int) := wrapS _ (by omega)
  have q6 : IntKind.u64.wrap ((y : Int) * 256) = ((y * 256 : Nat) : Int) := by rw [IntKind.wrap_u64]; omega
  have q7 : IntKind.u64.wrap (((y * 256 : Nat) : Int) + ((x.toNat : Nat) : Int)) = (z : Int) := by rw [IntKind.wrap_u64]; omega
  generalize y * 256 = y2 at *
  have Q6 := hide q6
  have Q7 := hide q7
  have Hcl := hide hget
  have Hgb := hide hgb
  have Hset := hide hset
  have hs8 : (Tryz.prog.info? 50).map (·.size) = some 1 := by kernel_rfl
  clear hset hget q6 q7 hval hb256 hll hle hstep hgb hxn
  generalize lvs (lw n (k + 1)) = P1 at *
  generalize hP2 : lvs (lw n k) = P2 at *
  have HP2 := hide hP2
  clear hP2
  generalize k / 8 = q at *
  go_wp2_with fail
  refine AppK.wp_region_set 13 [isV (.int .i64 (k : Int)), isV (.int .i64 ((q : Nat) : Int)), isV (.int .i64 (k : Int)), isV (.int .i64 ((q : Nat) : Int)), isV (.pointer (some ⟨w.heap.size + 1 + 1, q, .none⟩)), isV (lv y), isV (lv y2), isV (.int .i64 (k : Int)), isV (.pointer (some ⟨p5, k, .none⟩)), isV (vb x), isV (lv x.toNat), isV (lv z), isV (.pointer (some ⟨w.heap.size + 1 + 1, q, .none⟩)), (fun _ _ => True)]
   [isV (.int .i64 (k : Int)), isV (.int .i64 ((q : Nat) : Int)), isV (.int .i64 (k : Int)), isV (.int .i64 ((q : Nat) : Int)), isV (.pointer (some ⟨w.heap.size + 1 + 1, q, .none⟩)), isV (lv y), isV (lv y2), isV (.int .i64 (k : Int)), isV (.pointer (some ⟨p5, k, .none⟩)), isV (vb x), isV (lv x.toNat), isV (lv z), isV (.pointer (some ⟨w.heap.size + 1 + 1, q, .none⟩)), (fun _ _ => True)] _ rfl (by kernel_rfl) (by kernel_rfl) rfl (by decide) (.inr rfl) (fun ph X => (blk (w.heap.size + 1 + 1) (.cells (if ph = true then P2 else P1) 51 (0, 0)) * (blk p5 (.cells Bb 22 (0, 0)) * (blk (w.heap.size + 1) (.cells Z4 51 (0, 0)) * (blk w.heap.size (.cells An 56 (0, 0)) * all w)))).on X ∧ Str w X) ⟨SP.on.drew HXk.out, Str.drew HSk.out⟩ (fun ph a b h st => ⟨h.1.below st, h.2.trans (Str.below st)⟩) kP kP ?store ?todo ?r57
  case store =>
   intro ev X hT hb hk hf
   have hX : (blk (w.heap.size + 1 + 1) (.cells P1 51 (0, 0)) * (blk p5 (.cells Bb 22 (0, 0)) * (blk (w.heap.size + 1) (.cells Z4 51 (0, 0)) * (blk w.heap.size (.cells An 56 (0, 0)) * all w)))).on X := hT.1
   exact OpOk.store_one _ _ _ rfl (w.heap.size + 1 + 1) q (lv z) (fX ev 24 hf.1) (fX ev 23 hf.2.1) rfl _ P1 hX hs8 Hps.out rfl P2 Hset.out (fun h3 => ⟨⟨h3, hT.2.setRow _ _⟩, trivial, fun i _ hv => vList_free fR i _ _ _ hv⟩)
  case todo =>
   refine ⟨?_, ?_, ?_, ?_, ?_, ?_, ?_, ?_, ?_, ?_, ?_, ?_, ?_, ?_, trivial⟩
   ·refine pK fun ev X hT hb hk hf => ?_
    exact OpOk.m rfl (fV ev 5 (.int .i64 (k : Int)) hk.1)
   ·refine pK fun ev X hT hb hk hf => ?_
    exact OpOk.r (by simp [execOp, fX ev 12 hf.1, hb.1, c1, go_sem])
   ·refine pK fun ev X hT hb hk hf => ?_
    exact OpOk.m rfl (fV ev 5 (.int .i64 (k : Int)) hk.1)
   ·refine pK fun ev X hT hb hk hf => ?_
    exact OpOk.r (by simp [execOp, fX ev 14 hf.1, hb.1, c1, go_sem])
   ·refine pK fun ev X hT hb hk hf => ?_
    exact OpOk.r (by simp [execOp, fV ev 3 (.pointer (some ⟨w.heap.size + 1 + 1, 0, .none⟩)) hk.1, fX ev 15 hf.1, hb.1, hq4, go_sem]; try (intro h; omega))
   ·refine pK fun ev X hT hb hk hf => ?_
    have cW := (cell_of_row X (w.heap.size + 1 + 1) q _ _ _ (on_blk_mul hT.1)).trans Hcl.out
    exact OpOk.sc (fX ev 16 hf.1) cW
   ·refine pK fun ev X hT hb hk hf => ?_
    exact OpOk.r (by have h9 := Q6.out; simp [execOp, fX ev 17 hf.1, hb.1, h9, go_sem])
   ·refine pK fun ev X hT hb hk hf => ?_
    exact OpOk.m rfl (fV ev 5 (.int .i64 (k : Int)) hk.1)
   ·refine pK fun ev X hT hb hk hf => ?_
    exact OpOk.r (by simp [execOp, fV ev 4 (.pointer (some ⟨p5, 0, .none⟩)) hk.1, fX ev 19 hf.1, hb.1, hk32', go_sem]; try (intro h; omega))
   ·refine pK fun ev X hT hb hk hf => ?_
    have cW := (cell_of_row X p5 k _ _ _ (on_blk_mul hT.1.right)).trans Hgb.out
    exact OpOk.sc (fX ev 20 hf.1) cW
   ·refine pK fun ev X hT hb hk hf => ?_
    exact OpOk.r (by simp [execOp, fX ev 21 hf.1, hb.1, hu6, hu8, c5, go_sem])
   ·refine pK fun ev X hT hb hk hf => ?_
    exact OpOk.r (by have h9 := Q7.out; simp [execOp, fX ev 18 hf.1, fX ev 22 hf.2.1, h9, go_sem])
   ·refine pK fun ev X hT hb hk hf => ?_
    exact OpOk.r (by simp [execOp, fV ev 3 (.pointer (some ⟨w.heap.size + 1 + 1, 0, .none⟩)) hk.1, fX ev 13 hf.1, hb.1, hq4, go_sem]; try (intro h; omega))
   exact fun h => absurd rfl h
  intro X hT
  rintro _ - _ - _ - _ - _ - _ - _ - _ - _ - _ - _ - _ - _ - _ -
  have hX2 : (blk (w.heap.size + 1 + 1) (.cells P2 51 (0, 0)) * (blk p5 (.cells Bb 22 (0, 0)) * (blk (w.heap.size + 1) (.cells Z4 51 (0, 0)) * (blk w.heap.size (.cells An 56 (0, 0)) * all w)))).on X := hT.1
  have HX2 := hide hX2
  have HST := hide hT.2
  clear hT hX2
  go_wp2
  refine Rest.done ?_
  go_wp2_with fail
  refine ⟨⟨k, by omega, rfl, by rw [HP2.out]; exact HX2.out, HST.out⟩, by simp [intOf]⟩
end Fe
end Go.Proofs.YtjdebgbiockafaaGreatDoor
