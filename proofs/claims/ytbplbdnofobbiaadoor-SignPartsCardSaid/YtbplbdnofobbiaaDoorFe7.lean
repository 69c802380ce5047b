/- field: sums and products of lists; a number's bytes. -/
import Derived.Test.YtbplbdnofobbiaaDoorFe6
import Derived.Test.YtbplbdnofobbiaaDoorGRs
set_option linter.unusedVariables false
set_option linter.unusedSimpArgs false
set_option maxRecDepth 100000
set_option maxHeartbeats 8000000
namespace Go.Proofs.YtbplbdnofobbiaaDoor
namespace Fe
open Go.ChangeShapes Go.WideShapes Go.ChangeAt Go.RowKit
def IsEl (w : World) (v : Value) (ns : List Nat) : Prop := ∃ a c, v = .slice a ns.length c ∧ (∀ k n, ns[k]? = some n → ∃ g, a = some ⟨g, 0, .none⟩ ∧ ∀ j x, (q4 n)[j]? = some x → w.cell? ⟨g, k * 4 + j, .none⟩ = some x)
theorem IsEl.below {w X : World} {v : Value} {ns : List Nat} (h : IsEl w v ns) (hb : Below w.heap.size w X) : IsEl X v ns := by
 obtain ⟨a, c, rfl, h⟩ := h
 refine ⟨a, c, rfl, fun k n hk => ?_⟩
 obtain ⟨g, rfl, hc⟩ := h k n hk
 exact ⟨g, rfl, fun j x hx => (hb.cell (World.block_lt_of_cell? _ _ (hc j x hx))).trans (hc j x hx)⟩
theorem q4_lit (n : Nat) : q4 n = #[lv (limb n 0), lv (limb n 1), lv (limb n 2), lv (limb n 3)] := rfl
theorem run_bs2 (x y : Nat) (w : World) : (Instr.buildSlice 130 2 #[(0, .agg (q4 x)), (1, .agg (q4 y))]).run Tryd.prog w = .ok (.slice (some ⟨w.heap.size, 0, .none⟩) 2 2) (w.alloc (.cells #[lv (limb x 0), lv (limb x 1), lv (limb x 2), lv (limb x 3), lv (limb y 0), lv (limb y 1), lv (limb y 2), lv (limb y 3)] 25)) := by
 rw [q4_lit, q4_lit]
 kernel_rfl
theorem run_bs3 (x y z : Nat) (w : World) : (Instr.buildSlice 130 3 #[(0, .agg (q4 x)), (1, .agg (q4 y)), (2, .agg (q4 z))]).run Tryd.prog w = .ok (.slice (some ⟨w.heap.size, 0, .none⟩) 3 3) (w.alloc (.cells #[lv (limb x 0), lv (limb x 1), lv (limb x 2), lv (limb x 3), lv (limb y 0), lv (limb y 1), lv (limb y 2), lv (limb y 3), lv (limb z 0), lv (limb z 1), lv (limb z 2), lv (limb z 3)] 25)) := by
 rw [q4_lit, q4_lit, q4_lit]
 kernel_rfl
theorem q4_at {n j : Nat} {x : Value} (h : (q4 n)[j]? = some x) : (j = 0 ∧ x = lv (limb n 0)) ∨ (j = 1 ∧ x = lv (limb n 1)) ∨ (j = 2 ∧ x = lv (limb n 2)) ∨ (j = 3 ∧ x = lv (limb n 3)) := by
 rw [q4_lit] at h
 match j, h with
 | 0, h => exact .inl ⟨rfl, by simpa using h.symm⟩
 | 1, h => exact .inr (.inl ⟨rfl, by simpa using h.symm⟩)
 | 2, h => exact .inr (.inr (.inl ⟨rfl, by simpa using h.symm⟩))
 | 3, h => exact .inr (.inr (.inr ⟨rfl, by simpa using h.symm⟩))
 | j + 4, h => simp at h
theorem IsEl.two {w : World} {g x y : Nat} {t : TypeId} {fr : Nat × Nat} (h : w.heap[g]? = some (.cells #[lv (limb x 0), lv (limb x 1), lv (limb x 2), lv (limb x 3), lv (limb y 0), lv (limb y 1), lv (limb y 2), lv (limb y 3)] t fr)) : IsEl w (.slice (some ⟨g, 0, .none⟩) 2 2) [x, y] := by
 refine ⟨_, _, rfl, fun k n hk => ⟨g, rfl, fun j v hv => ?_⟩⟩
 rw [cell_of_row w g _ _ _ _ h]
 match k, hk with
 | 0, hk =>
  obtain rfl : x = n := by simpa using hk
  rcases q4_at hv with ⟨rfl, rfl⟩ | ⟨rfl, rfl⟩ | ⟨rfl, rfl⟩ | ⟨rfl, rfl⟩ <;> rfl
 | 1, hk =>
  obtain rfl : y = n := by simpa using hk
  rcases q4_at hv with ⟨rfl, rfl⟩ | ⟨rfl, rfl⟩ | ⟨rfl, rfl⟩ | ⟨rfl, rfl⟩ <;> rfl
 | k + 2, hk => simp at hk
theorem IsEl.three {w : World} {g x y z : Nat} {t : TypeId} {fr : Nat × Nat} (h : w.heap[g]? = some (.cells #[lv (limb x 0), lv (limb x 1), lv (limb x 2), lv (limb x 3), lv (limb y 0), lv (limb y 1), lv (limb y 2), lv (limb y 3), lv (limb z 0), lv (limb z 1), lv (limb z 2), lv (limb z 3)] t fr)) : IsEl w (.slice (some ⟨g, 0, .none⟩) 3 3) [x, y, z] := by
 refine ⟨_, _, rfl, fun k n hk => ⟨g, rfl, fun j v hv => ?_⟩⟩
 rw [cell_of_row w g _ _ _ _ h]
 match k, hk with
 | 0, hk =>
  obtain rfl : x = n := by simpa using hk
  rcases q4_at hv with ⟨rfl, rfl⟩ | ⟨rfl, rfl⟩ | ⟨rfl, rfl⟩ | ⟨rfl, rfl⟩ <;> rfl
 | 1, hk =>
  obtain rfl : y = n := by simpa using hk
  rcases q4_at hv with ⟨rfl, rfl⟩ | ⟨rfl, rfl⟩ | ⟨rfl, rfl⟩ | ⟨rfl, rfl⟩ <;> rfl
 | 2, hk =>
  obtain rfl : z = n := by simpa using hk
  rcases q4_at hv with ⟨rfl, rfl⟩ | ⟨rfl, rfl⟩ | ⟨rfl, rfl⟩ | ⟨rfl, rfl⟩ <;> rfl
 | k + 3, hk => simp at hk
def sumP (l : List Nat) : Nat := l.foldl (fun s a => (s + a) % P5) 0
theorem sumP_snoc (l : List Nat) (x : Nat) : sumP (l ++ [x]) = (sumP l + x) % P5 := by simp [sumP, List.foldl_append]
theorem take_snoc (l : List Nat) (k : Nat) (h : k < l.length) : l.take (k + 1) = l.take k ++ [l[k]] := List.take_succ_eq_append_getElem h
theorem sumP_lt (l : List Nat) : sumP l < P5 := by
 rcases List.eq_nil_or_concat l with rfl | ⟨l, x, rfl⟩
 ·exact P5_pos
 ·rw [List.concat_eq_append, sumP_snoc]; exact Nat.mod_lt _ P5_pos
def mulP : List Nat → Nat
 | [] => 1
 | x :: l => l.foldl (fun p a => p * a % P5) x
theorem mulP_snoc (y : Nat) (l : List Nat) (x : Nat) : mulP ((y :: l) ++ [x]) = mulP (y :: l) * x % P5 := by simp [mulP, List.foldl_append]
theorem mulP_lt (l : List Nat) (h : ∀ x ∈ l, x < P5) : mulP l < P5 := by
 cases l with
 | nil => decide
 | cons y l =>
  rcases List.eq_nil_or_concat l with rfl | ⟨l, x, rfl⟩
  ·exact h y List.mem_cons_self
  ·rw [List.concat_eq_append, ← List.cons_append, mulP_snoc]; exact Nat.mod_lt _ P5_pos
theorem mulP_take (l : List Nat) (k : Nat) (h : k < l.length) (hk : 0 < k) : mulP (l.take (k + 1)) = mulP (l.take k) * l[k] % P5 := by
 rw [take_snoc l k h]
 cases l with
 | nil => simp at h
 | cons y l =>
  obtain ⟨j, rfl⟩ : ∃ j, k = j + 1 := ⟨k - 1, by omega⟩
  rw [List.take_succ_cons, mulP_snoc]
theorem add_any (v : Value) (ns : List Nat) (hn : ∀ x ∈ ns, x < P5) (hl : ns.length < 1000) (w : World) (hv : IsEl w v ns) (hT : Tab5 w) :
  Calls Tryd.prog 75 #[v] w fun e w' => e = .returned (.agg (q4 (sumP ns))) ∧ Below w.heap.size w w' := by
 obtain ⟨a, c, rfl, hv⟩ := hv
 have hu := Tryd.underlying25
 have hz4e := eZero
 have h0 := ((on_all w).alloc (.cells (q4 0) 25)).alloc (.cells (q4 0) 25)
 have s0 := ((Str.refl w).alloc (.cells (q4 0) 25)).alloc (.cells (q4 0) 25)
 try simp only [World.size_alloc] at h0
 have H1 := hide h0
 have S1 := hide s0
 clear h0 s0
 have HI := hide eInfo
 have HV : Hid (IsEl w (.slice a ns.length c) ns) := hide ⟨a, c, rfl, hv⟩
 have Hv := hide hv
 have Hn := hide hn
 have Hl := hide hl
 have Hc1 := hide (fun X => small_any 1 (by decide) X)
 clear hv hn hl
 obtain ⟨HsR4, HoR4, HzR4⟩ := eF (sumP ns)
 generalize hR4 : q4 (sumP ns) = R4 at *
 have HR4 := hide hR4
 clear hR4
 generalize hZ4 : q4 0 = Z4 at *
 have HZ4 := hide hZ4
 clear hZ4
 go_enter Tryd.func75, Tryd.ntmps75
 go_wp2_with fail
 generalize (w.alloc (.cells Z4 25)).alloc (.cells Z4 25) = w1 at *
 go_loopw [8] (fun i wr => ∃ k : Nat, k ≤ ns.length ∧ i = .int .i64 k ∧ (blk (w.heap.size + 1) (.cells (q4 (sumP (ns.take k))) 25 (0, 0)) * (blk w.heap.size (.cells Z4 25 (0, 0)) * all w)).on wr ∧ Str w wr) (fun i _ => ns.length - (intOf i).toNat)
 case atStart => exact ⟨0, by omega, rfl, by rw [List.take_zero, show sumP [] = 0 from rfl, HZ4.out]; exact H1.out, S1.out⟩
 case round =>
  obtain ⟨k, hk, rfl, hX, hS2⟩ := hrel
  have H4 := hide hX
  have S4 := hide hS2
  clear hX hS2 H1 S1
  by_cases hlt : k < ns.length
  ·have hB0 := all_below H4.out.right.right S4.out
   obtain ⟨g, rfl, hc⟩ := Hv.out k ns[k] (List.getElem?_eq_getElem hlt)
   have hx5 : ns[k] < P5 := Hn.out _ (List.getElem_mem hlt)
   have hP4 : P5 < 18446744073709551616 ^ 4 := P5_lt
   have hcell := fun j x hx => (hB0.cell (World.block_lt_of_cell? _ _ (hc j x hx))).trans (hc j x hx)
   have hs5 : sumP (ns.take k) < P5 := sumP_lt _
   have Hst := hide (show sumP (ns.take (k + 1)) = (sumP (ns.take k) + ns[k]) % P5 by rw [take_snoc ns k hlt, sumP_snoc])
   have Hc := hide (fun X h => plus_any (sumP (ns.take k)) ns[k] hs5 hx5 X h)
   generalize sumP (ns.take k) = s at *
   generalize ns[k] = x at *
   have hl9 := Hl.out
   have hkn : (k : Int) < (ns.length : Int) := by omega
   have hkn2 : (k : Int) < ((ns.length : Nat) : Int) := hkn
   clear hc hB0 hs5 hx5 hP4 hlt
   obtain ⟨HsX, HoX, HzX⟩ := b3 (HI.out x) (eOne x) (eSize 0 x)
   have HsP := hide (HI.out s)
   obtain ⟨HsR, HoR, HzR⟩ := b3 (HI.out ((s + x) % P5)) (eOne ((s + x) % P5)) (eSize s ((s + x) % P5))
   have HzX2 := hide (eSize s x)
   rw [HZ4.out] at HzX
   generalize hX : q4 x = X at *
   generalize q4 s = P at *
   generalize hR : q4 ((s + x) % P5) = R at *
   have HX := hide hX
   have HR := hide hR
   have Hcell := hide hcell
   clear hR hX hcell
   have ht := Hcell.out
   have hN := H4.out.alloc (.cells Z4 25)
   have gN := on_blk_mul hN
   have hM := hN.setRow X
   have gM := on_blk_mul hM
   have H5 := hide hM
   have S5 := hide ((S4.out.alloc (.cells Z4 25)).setRow wr.heap.size X)
   have gP := on_blk_mul hM.right
   clear hN hM
   go_wp2_with (first
    | (refine wpList_load_part rfl _ _ rfl g (k * 4) rfl X _ ht hu rfl HsX ?_)
    | (refine wS gN HsX HzX HoX ?_)
    | (refine wL gM hu HsX ?_)
    | (refine wL gP hu HsP ?_))
   generalize (wr.alloc (.cells Z4 25)).setRow wr.heap.size X = w5 at *
   clear gN gM gP H4 S4 ht
   refine (Hc.out _ (hT.below (all_below H5.out.right.right.right S5.out))).mono ?_
   rintro e w6 ⟨rfl, hB⟩
   obtain ⟨H6, S6⟩ := nx H5.out S5.out hB
   clear hB H5 S5
   have H7 := hide (st1 H6.out (cs := R))
   have S7 := hide (S6.out.setRow (w.heap.size + 1) R)
   have gW := on_blk_mul H6.out.right
   go_wp2_with (first
    | (refine wS gW HsR HzR HoR ?_))
   exact ⟨⟨k + 1, by omega, by simp, by rw [Hst.out, HR.out]; exact H7.out.right, S7.out⟩, by simp [intOf]; omega⟩
  ·obtain rfl : k = ns.length := by omega
   have hl9 := Hl.out
   rw [List.take_length, HR4.out] at H4
   have g0 := on_blk_mul H4.out
   have gR := on_blk_mul H4.out.right
   have HB := hide (all_below H4.out.right.right S4.out)
   go_wp2_with (first
    | (refine wS gR HsR4 HzR4 HoR4 ?_)
    | (refine wL g0 hu HsR4 ?_))
   exact retR Tryd.results75 gR hu HsR4.out rfl HB.out (by omega)
theorem mul_any (v : Value) (ns : List Nat) (hn : ∀ x ∈ ns, x < P5) (hl : ns.length < 1000) (w : World) (hv : IsEl w v ns) (hT : Tab5 w) :
  Calls Tryd.prog 73 #[v] w fun e w' => e = .returned (.agg (q4 (mulP ns))) ∧ Below w.heap.size w w' := by
 obtain ⟨a, c, rfl, hv⟩ := hv
 have hu := Tryd.underlying25
 have hz4e := eZero
 have h0 := (on_all w).alloc (.cells (q4 0) 25)
 have s0 := (Str.refl w).alloc (.cells (q4 0) 25)
 try simp only [World.size_alloc] at h0
 have H1 := hide h0
 have S1 := hide s0
 clear h0 s0
 have HI := hide eInfo
 have HV : Hid (IsEl w (.slice a ns.length c) ns) := hide ⟨a, c, rfl, hv⟩
 have Hv := hide hv
 have Hn := hide hn
 have Hl := hide hl
 have Hc1 := hide (fun X => small_any 1 (by decide) X)
 clear hv hn hl
 obtain ⟨HsR4, HoR4, HzR4⟩ := eF (mulP ns)
 obtain ⟨HsI4, HoI4, HzI4⟩ := eF (1)
 generalize hR4 : q4 (mulP ns) = R4 at *
 have HR4 := hide hR4
 clear hR4
 generalize hI4 : q4 (1) = I4 at *
 have HI4 := hide hI4
 clear hI4
 generalize hZ4 : q4 0 = Z4 at *
 have HZ4 := hide hZ4
 clear hZ4
 go_enter Tryd.func73, Tryd.ntmps73
 go_wp2_with fail
 generalize w.alloc (.cells Z4 25) = w1 at *
 refine (Hc1.out _).mono ?_
 rintro e w2 ⟨rfl, hB⟩
 obtain ⟨H2, S2⟩ := nx H1.out S1.out hB
 clear hB H1 S1
 obtain ⟨gN, gM, H3, S3⟩ := newV H2.out S2.out Z4 I4 25
 go_wp2_with (first
  | (refine wS gN HsI4 HzI4 HoI4 ?_))
 generalize (w2.alloc (.cells Z4 25)).setRow w2.heap.size I4 = w3 at *
 clear gN gM H2 S2
 generalize w2.heap.size = p5 at *
 go_loopw [9] (fun i wr => ∃ k : Nat, k ≤ ns.length ∧ i = .int .i64 k ∧ (blk p5 (.cells (q4 (mulP (ns.take k))) 25 (0, 0)) * (blk w.heap.size (.cells Z4 25 (0, 0)) * all w)).on wr ∧ Str w wr) (fun i _ => ns.length - (intOf i).toNat)
 case atStart => exact ⟨0, by omega, rfl, by rw [List.take_zero, show mulP [] = 1 from rfl, HI4.out]; exact H3.out, S3.out⟩
 case round =>
  obtain ⟨k, hk, rfl, hX, hS2⟩ := hrel
  have H4 := hide hX
  have S4 := hide hS2
  clear hX hS2 H3 S3
  by_cases hlt : k < ns.length
  ·have hB0 := all_below H4.out.right.right S4.out
   obtain ⟨g, rfl, hc⟩ := Hv.out k ns[k] (List.getElem?_eq_getElem hlt)
   have hx5 : ns[k] < P5 := Hn.out _ (List.getElem_mem hlt)
   have hP4 : P5 < 18446744073709551616 ^ 4 := P5_lt
   have hcell := fun j x hx => (hB0.cell (World.block_lt_of_cell? _ _ (hc j x hx))).trans (hc j x hx)
   have hs5 : mulP (ns.take k) < P5 := mulP_lt _ (fun x hx => Hn.out x (List.mem_of_mem_take hx))
   have Hst := hide (fun h => mulP_take ns k hlt h)
   have Hst0 := hide (fun (h : k = 0) => show mulP (ns.take (k + 1)) = ns[k] by subst h; cases ns with | nil => simp at hlt | cons y l => rfl)
   have Hc := hide (fun X h => times_any (mulP (ns.take k)) ns[k] (by omega) (by omega) X h)
   generalize mulP (ns.take k) = s at *
   generalize ns[k] = x at *
   have hl9 := Hl.out
   have hkn : (k : Int) < (ns.length : Int) := by omega
   have hkn2 : (k : Int) < ((ns.length : Nat) : Int) := hkn
   clear hc hB0 hs5 hx5 hP4 hlt
   obtain ⟨HsX, HoX, HzX⟩ := b3 (HI.out x) (eOne x) (eSize 0 x)
   have HsP := hide (HI.out s)
   obtain ⟨HsR, HoR, HzR⟩ := b3 (HI.out (s * x % P5)) (eOne (s * x % P5)) (eSize s (s * x % P5))
   have HzX2 := hide (eSize s x)
   rw [HZ4.out] at HzX
   generalize hX : q4 x = X at *
   generalize q4 s = P at *
   generalize hR : q4 (s * x % P5) = R at *
   have HX := hide hX
   have HR := hide hR
   have Hcell := hide hcell
   clear hR hX hcell
   have ht := Hcell.out
   have hN := H4.out.alloc (.cells Z4 25)
   have gN := on_blk_mul hN
   have hM := hN.setRow X
   have gM := on_blk_mul hM
   have H5 := hide hM
   have S5 := hide ((S4.out.alloc (.cells Z4 25)).setRow wr.heap.size X)
   have gP := on_blk_mul hM.right
   clear hN hM
   by_cases h0 : k = 0
   ·have HN := hide (Hst0.out h0)
    have ht0 : ∀ j x, X[j]? = some x → wr.cell? ⟨g, 0 + j, .none⟩ = some x := by have h9 := ht; rw [h0, Nat.zero_mul] at h9; exact h9
    have hn0 : 0 < ns.length := by omega
    subst h0
    have H6 := hide (st1 H5.out (cs := X))
    have S6 := hide (S5.out.setRow (p5) X)
    go_wp2_with (first
     | (refine wpList_load_part rfl _ _ rfl g 0 rfl X _ ht0 hu rfl HsX ?_)
     | (refine wS gN HsX HzX HoX ?_)
     | (refine wL gM hu HsX ?_)
     | (refine wS gP HsX HzX2 HoX ?_))
    exact ⟨⟨0 + 1, by omega, by simp, by rw [HN.out, HX.out]; exact H6.out.right, S6.out⟩, by simp [intOf]; omega⟩
   ·have HN := hide (Hst.out (by omega))
    have hk0 : ¬ (k : Int) = 0 := by omega
    clear h0
    go_wp2_with (first
     | (refine wpList_load_part rfl _ _ rfl g (k * 4) rfl X _ ht hu rfl HsX ?_)
     | (refine wS gN HsX HzX HoX ?_)
     | (refine wL gM hu HsX ?_)
     | (refine wL gP hu HsP ?_))
    generalize (wr.alloc (.cells Z4 25)).setRow wr.heap.size X = w5 at *
    clear gN gM gP H4 S4 ht
    refine (Hc.out _ (hT.below (all_below H5.out.right.right.right S5.out))).mono ?_
    rintro e w6 ⟨rfl, hB⟩
    obtain ⟨H6, S6⟩ := nx H5.out S5.out hB
    clear hB H5 S5
    have H7 := hide (st1 H6.out (cs := R))
    have S7 := hide (S6.out.setRow (p5) R)
    have gW := on_blk_mul H6.out.right
    go_wp2_with (first
     | (refine wS gW HsR HzR HoR ?_))
    exact ⟨⟨k + 1, by omega, by simp, by rw [HN.out, HR.out]; exact H7.out.right, S7.out⟩, by simp [intOf]; omega⟩
  ·obtain rfl : k = ns.length := by omega
   have hl9 := Hl.out
   rw [List.take_length, HR4.out] at H4
   have g0 := on_blk_mul H4.out
   have gR := on_blk_mul H4.out.right
   have HB := hide (all_below H4.out.right.right S4.out)
   go_wp2_with (first
    | (refine wS gR HsR4 HzR4 HoR4 ?_)
    | (refine wL g0 hu HsR4 ?_))
   exact retR Tryd.results73 gR hu HsR4.out rfl HB.out (by omega)
end Fe
end Go.Proofs.YtbplbdnofobbiaaDoor
