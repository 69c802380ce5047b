/- field: sums and products of lists; a number's bytes. -/
import Derived.Test.YtbplbdnofobbiaaDoorFe6
import Derived.Test.YtbplbdnofobbiaaDoorGRs
namespace Go.Proofs.YtbplbdnofobbiaaDoor
namespace Fe
open Go.ChangeShapes Go.WideShapes Go.ChangeAt Go.RowKit
set_option linter.unusedVariables false
set_option linter.unusedSimpArgs false

set_option maxRecDepth 100000 in
set_option maxHeartbeats 4000000 in
theorem encode_any (n : Nat) (w : World) :
    Calls Tryd.prog 48 #[.agg (q4 n)] w fun e w' => e = .returned (.agg (zb (wbs (qs 4 n)))) ∧ Below w.heap.size w w' := by
  have hu := Tryd.underlying25
  have hu6 := Tryd.underlying22
  have hu8 := Tryd.underlying5
  have hu32 := Tryd.underlying38
  have hz : ∀ w, (zeroValue 38).run Tryd.prog w = .ok (.agg (zb (List.replicate 32 0))) w := fun w => by kernel_rfl
  have hlen := wbs_len (qs 4 n)
  rw [qs_len] at hlen
  have h0 := (((on_all w).alloc (.cells (q4 n) 25)).alloc (.cells (zb (List.replicate 32 0)) 38)).alloc (.cells (zb (List.replicate 32 0)) 38)
  have hs0 := (((Str.refl w).alloc (.cells (q4 n) 25)).alloc (.cells (zb (List.replicate 32 0)) 38)).alloc (.cells (zb (List.replicate 32 0)) 38)
  simp only [World.size_alloc] at h0
  have H0 := hide h0
  have HS0 := hide hs0
  have Hlen := hide hlen
  have HsR : Hid ((Tryd.prog.info? 38).map (·.size) = some (zb (wbs (qs 4 n))).size) := hide (by rw [show (zb (wbs (qs 4 n))).size = 32 by simp [zb, vbs, hlen]]; kernel_rfl)
  have Hza : Hid ((zb (List.replicate 32 0)).size = (zb (wbs (qs 4 n))).size) := hide (by rw [show (zb (wbs (qs 4 n))).size = 32 by simp [zb, vbs, hlen]]; rfl)
  have Hone : Hid ((zb (wbs (qs 4 n))).all (·.oneCell') = true) := hide (vba _)
  clear h0 hs0 hlen
  generalize hA : q4 n = A4 at *
  generalize hZ : zb (List.replicate 32 0) = Z at *
  have HA := hide hA
  have HZ := hide hZ
  clear hA hZ
  go_enter Tryd.func48, Tryd.ntmps48
  go_wp2_with fail
  generalize ((w.alloc (.cells A4 25)).alloc (.cells Z 38)).alloc (.cells Z 38) = w1 at *
  go_loopw [5] (fun i wr => ∃ k : Nat, k ≤ 32 ∧ i = .int .i64 k ∧ (blk (w.heap.size + 1 + 1) (.cells (zb ((wbs (qs 4 n)).take k ++ (List.replicate 32 0).drop k)) 38 (0, 0)) * (blk (w.heap.size + 1) (.cells Z 38 (0, 0)) * (blk w.heap.size (.cells A4 25 (0, 0)) * all w))).on wr ∧ Str w wr) (fun i _ => 32 - (intOf i).toNat)
  case atStart =>
    refine ⟨0, by omega, rfl, ?_, HS0.out⟩
    rw [List.take_zero, List.drop_zero, List.nil_append, HZ.out]
    exact H0.out
  case round =>
    obtain ⟨k, hk, rfl, hX, hS2⟩ := hrel
    have HXk := hide hX
    have HSk := hide hS2
    clear hX hS2 H0 HS0
    by_cases hlt : k < 32
    · have hq4 : k / 8 < 4 := by omega
      have hset := set_takeN (wbs (qs 4 n)) (List.replicate 32 0) k _ (wbs_qs_get 4 n k hq4) (by simp; omega)
      have hst := SP.on.setCell (i := k) HXk.out (vb (UInt8.ofNat (limb n (k / 8) / 2 ^ (8 * (k % 8)))))
      rw [show (zb ((wbs (qs 4 n)).take k ++ (List.replicate 32 0).drop k)).setIfInBounds k (vb (UInt8.ofNat (limb n (k / 8) / 2 ^ (8 * (k % 8))))) = zb (((wbs (qs 4 n)).take k ++ (List.replicate 32 0).drop k).set k (UInt8.ofNat (limb n (k / 8) / 2 ^ (8 * (k % 8))))) by unfold zb; rw [List.setIfInBounds_toArray, ← vbs_set], hset] at hst
      have HN := hide hst
      obtain ⟨old, hold⟩ : ∃ v, wr.cell? ⟨w.heap.size + 1 + 1, k, Option.none⟩ = some v := by
        have hl : k < ((wbs (qs 4 n)).take k ++ (List.replicate 32 0).drop k).length := by rw [List.length_append, List.length_take, List.length_drop, Hlen.out]; simp; omega
        exact ⟨_, (cell_of_row wr (w.heap.size + 1 + 1) k _ _ _ (on_blk_mul HXk.out)).trans (by unfold zb; rw [List.getElem?_toArray]; exact vbs_get _ k hl)⟩
      have hfr := frozen_of_row wr (w.heap.size + 1 + 1) k _ _ (on_blk_mul HXk.out)
      have hca := (cell_of_row wr w.heap.size (k / 8) A4 _ _ (on_blk_mul HXk.out.right.right)).trans (show A4[k / 8]? = some (lv (limb n (k / 8))) by rw [← HA.out]; exact lvs_get _ _ _ (qs_get 4 n _ hq4))
      have c1 : IntKind.i64.wrap ((k : Int) / 8) = ((k / 8 : Nat) : Int) := by rw [IntWalk.i64_in _ (by omega)]; omega
      have c2 : ((k : Int)).tmod 8 = ((k % 8 : Nat) : Int) := by rw [Int.tmod_eq_emod_of_nonneg (by omega)]; omega
      have c3 : IntKind.i64.wrap (8 * ((k % 8 : Nat) : Int)) = ((8 * (k % 8) : Nat) : Int) := by rw [IntWalk.i64_in _ (by omega)]; omega
      have q1 := wb_byte (limb n (k / 8)) (k % 8)
      have l1 := limb_lt n (k / 8)
      have hk4 : ((k / 8 : Nat) : Int) < 4 := by omega
      have hk32 : (k : Int) < 32 := by omega
      have h64 : 8 * (k % 8) < 64 := by omega
      rw [IntKind.wrap_u8] at q1
      have Q1 := hide q1
      clear hset hst q1 HXk
      generalize limb n (k / 8) = u at *
      generalize hbt : UInt8.ofNat (u / 2 ^ (8 * (k % 8))) = bt at *
      have Hbt := hide hbt
      clear hbt
      go_wp2_with fail
      rw [Q1.out]
      exact ⟨⟨k + 1, by omega, by simp, HN.out, HSk.out.setCell _ _⟩, by simp [intOf]; omega⟩
    · obtain rfl : k = 32 := by omega
      have e4 : (wbs (qs 4 n)).take 32 ++ (List.replicate 32 0).drop 32 = wbs (qs 4 n) := by rw [List.take_of_length_le (by rw [Hlen.out]; omega), List.drop_of_length_le (by simp), List.append_nil]
      rw [e4] at HXk
      have gA := on_blk_mul HXk.out
      have gR := on_blk_mul HXk.out.right
      have HBw := hide (all_below HXk.out.right.right.right HSk.out)
      have hza := Hza.out
      have hone := Hone.out
      clear HXk e4 Hza Hone
      generalize hR4 : zb (wbs (qs 4 n)) = R4 at *
      have HR4 := hide hR4
      clear hR4
      go_wp2_with (first
        | (refine wpList_store_row rfl _ _ _ rfl (w.heap.size + 1) R4 rfl rfl _ _ gR HsR.out hza hone ?_)
        | (refine wpList_load_row rfl _ _ rfl (w.heap.size + 1 + 1) rfl _ R4 _ _ gA hu32 rfl HsR.out ?_))
      refine bodyPost_ret (v := .agg R4) (results_cell_row Tryd.results48 _ _ (w.heap.size + 1) _ R4 (0, 0) _ rfl (setRow_heap_same _ _ _ _ _ _ gR) hu32 rfl HsR.out) rfl ⟨by rw [HR4.out], below_setRow HBw.out (by omega) _⟩
/-- a slice of numbers -/
def IsEl (w : World) (v : Value) (ns : List Nat) : Prop := ∃ a c, v = .slice a ns.length c ∧ (∀ k n, ns[k]? = some n → ∃ g, a = some ⟨g, 0, Option.none⟩ ∧ ∀ j x, (q4 n)[j]? = some x → w.cell? ⟨g, k * 4 + j, Option.none⟩ = some x)
theorem IsEl.below {w X : World} {v : Value} {ns : List Nat} (h : IsEl w v ns) (hb : Below w.heap.size w X) : IsEl X v ns := by
  obtain ⟨a, c, rfl, h⟩ := h
  refine ⟨a, c, rfl, fun k n hk => ?_⟩
  obtain ⟨g, rfl, hc⟩ := h k n hk
  exact ⟨g, rfl, fun j x hx => (hb.cell (World.block_lt_of_cell? _ _ (hc j x hx))).trans (hc j x hx)⟩
theorem IsEl.nil (w : World) (c : Nat) : IsEl w (.slice Option.none 0 c) [] := ⟨_, _, rfl, fun k n h => by simp at h⟩
theorem q4_lit (n : Nat) : q4 n = #[lv (limb n 0), lv (limb n 1), lv (limb n 2), lv (limb n 3)] := rfl
theorem run_bs2 (x y : Nat) (w : World) : (Instr.buildSlice 130 2 #[(0, .agg (q4 x)), (1, .agg (q4 y))]).run Tryd.prog w = .ok (.slice (some ⟨w.heap.size, 0, Option.none⟩) 2 2) (w.alloc (.cells #[lv (limb x 0), lv (limb x 1), lv (limb x 2), lv (limb x 3), lv (limb y 0), lv (limb y 1), lv (limb y 2), lv (limb y 3)] 25)) := by
  rw [q4_lit, q4_lit]
  kernel_rfl
theorem run_bs3 (x y z : Nat) (w : World) : (Instr.buildSlice 130 3 #[(0, .agg (q4 x)), (1, .agg (q4 y)), (2, .agg (q4 z))]).run Tryd.prog w = .ok (.slice (some ⟨w.heap.size, 0, Option.none⟩) 3 3) (w.alloc (.cells #[lv (limb x 0), lv (limb x 1), lv (limb x 2), lv (limb x 3), lv (limb y 0), lv (limb y 1), lv (limb y 2), lv (limb y 3), lv (limb z 0), lv (limb z 1), lv (limb z 2), lv (limb z 3)] 25)) := by
  rw [q4_lit, q4_lit, q4_lit]
  kernel_rfl
theorem q4_at {n j : Nat} {x : Value} (h : (q4 n)[j]? = some x) : (j = 0 ∧ x = lv (limb n 0)) ∨ (j = 1 ∧ x = lv (limb n 1)) ∨ (j = 2 ∧ x = lv (limb n 2)) ∨ (j = 3 ∧ x = lv (limb n 3)) := by
  rw [q4_lit] at h
  match j, h with
  | 0, h => exact .inl ⟨rfl, by simpa using h.symm⟩
  | 1, h => exact .inr (.inl ⟨rfl, by simpa using h.symm⟩)
  | 2, h => exact .inr (.inr (.inl ⟨rfl, by simpa using h.symm⟩))
  | 3, h => exact .inr (.inr (.inr ⟨rfl, by simpa using h.symm⟩))
  | j + 4, h => simp at h
theorem IsEl.two {w : World} {g x y : Nat} {t : TypeId} {fr : Nat × Nat} (h : w.heap[g]? = some (.cells #[lv (limb x 0), lv (limb x 1), lv (limb x 2), lv (limb x 3), lv (limb y 0), lv (limb y 1), lv (limb y 2), lv (limb y 3)] t fr)) : IsEl w (.slice (some ⟨g, 0, Option.none⟩) 2 2) [x, y] := by
  refine ⟨_, _, rfl, fun k n hk => ⟨g, rfl, fun j v hv => ?_⟩⟩
  rw [cell_of_row w g _ _ _ _ h]
  match k, hk with
  | 0, hk =>
    obtain rfl : x = n := by simpa using hk
    rcases q4_at hv with ⟨rfl, rfl⟩ | ⟨rfl, rfl⟩ | ⟨rfl, rfl⟩ | ⟨rfl, rfl⟩ <;> rfl
  | 1, hk =>
    obtain rfl : y = n := by simpa using hk
    rcases q4_at hv with ⟨rfl, rfl⟩ | ⟨rfl, rfl⟩ | ⟨rfl, rfl⟩ | ⟨rfl, rfl⟩ <;> rfl
  | k + 2, hk => simp at hk
theorem IsEl.three {w : World} {g x y z : Nat} {t : TypeId} {fr : Nat × Nat} (h : w.heap[g]? = some (.cells #[lv (limb x 0), lv (limb x 1), lv (limb x 2), lv (limb x 3), lv (limb y 0), lv (limb y 1), lv (limb y 2), lv (limb y 3), lv (limb z 0), lv (limb z 1), lv (limb z 2), lv (limb z 3)] t fr)) : IsEl w (.slice (some ⟨g, 0, Option.none⟩) 3 3) [x, y, z] := by
  refine ⟨_, _, rfl, fun k n hk => ⟨g, rfl, fun j v hv => ?_⟩⟩
  rw [cell_of_row w g _ _ _ _ h]
  match k, hk with
  | 0, hk =>
    obtain rfl : x = n := by simpa using hk
    rcases q4_at hv with ⟨rfl, rfl⟩ | ⟨rfl, rfl⟩ | ⟨rfl, rfl⟩ | ⟨rfl, rfl⟩ <;> rfl
  | 1, hk =>
    obtain rfl : y = n := by simpa using hk
    rcases q4_at hv with ⟨rfl, rfl⟩ | ⟨rfl, rfl⟩ | ⟨rfl, rfl⟩ | ⟨rfl, rfl⟩ <;> rfl
  | 2, hk =>
    obtain rfl : z = n := by simpa using hk
    rcases q4_at hv with ⟨rfl, rfl⟩ | ⟨rfl, rfl⟩ | ⟨rfl, rfl⟩ | ⟨rfl, rfl⟩ <;> rfl
  | k + 3, hk => simp at hk
def sumP (l : List Nat) : Nat := l.foldl (fun s a => (s + a) % P5) 0
theorem sumP_snoc (l : List Nat) (x : Nat) : sumP (l ++ [x]) = (sumP l + x) % P5 := by simp [sumP, List.foldl_append]
theorem take_snoc (l : List Nat) (k : Nat) (h : k < l.length) : l.take (k + 1) = l.take k ++ [l[k]] := List.take_succ_eq_append_getElem h
theorem sumP_lt (l : List Nat) : sumP l < P5 := by
  rcases List.eq_nil_or_concat l with rfl | ⟨l, x, rfl⟩
  · exact P5_pos
  · rw [List.concat_eq_append, sumP_snoc]; exact Nat.mod_lt _ P5_pos
def mulP : List Nat → Nat
  | [] => 1
  | x :: l => l.foldl (fun p a => p * a % P5) x
theorem mulP_snoc (y : Nat) (l : List Nat) (x : Nat) : mulP ((y :: l) ++ [x]) = mulP (y :: l) * x % P5 := by simp [mulP, List.foldl_append]
theorem mulP_lt (l : List Nat) (h : ∀ x ∈ l, x < P5) : mulP l < P5 := by
  cases l with
  | nil => decide
  | cons y l =>
    rcases List.eq_nil_or_concat l with rfl | ⟨l, x, rfl⟩
    · exact h y List.mem_cons_self
    · rw [List.concat_eq_append, ← List.cons_append, mulP_snoc]; exact Nat.mod_lt _ P5_pos
theorem mulP_take (l : List Nat) (k : Nat) (h : k < l.length) (hk : 0 < k) : mulP (l.take (k + 1)) = mulP (l.take k) * l[k] % P5 := by
  rw [take_snoc l k h]
  cases l with
  | nil => simp at h
  | cons y l =>
    obtain ⟨j, rfl⟩ : ∃ j, k = j + 1 := ⟨k - 1, by omega⟩
    rw [List.take_succ_cons, mulP_snoc]
set_option maxRecDepth 100000 in
set_option maxHeartbeats 8000000 in
theorem add_any (v : Value) (ns : List Nat) (hn : ∀ x ∈ ns, x < P5) (hl : ns.length < 1000) (w : World) (hv : IsEl w v ns) (hT : Tab5 w) :
    Calls Tryd.prog 75 #[v] w fun e w' => e = .returned (.agg (q4 (sumP ns))) ∧ Below w.heap.size w w' := by
  obtain ⟨a, c, rfl, hv⟩ := hv
  have hu := Tryd.underlying25
  have hz4e := eZero
  have h0 := ((on_all w).alloc (.cells (q4 0) 25)).alloc (.cells (q4 0) 25)
  have s0 := ((Str.refl w).alloc (.cells (q4 0) 25)).alloc (.cells (q4 0) 25)
  try simp only [World.size_alloc] at h0
  have H1 := hide h0
  have S1 := hide s0
  clear h0 s0
  have HI := hide eInfo
  have HV : Hid (IsEl w (.slice a ns.length c) ns) := hide ⟨a, c, rfl, hv⟩
  have Hv := hide hv
  have Hn := hide hn
  have Hl := hide hl
  have Hc1 := hide (fun X => small_any 1 (by decide) X)
  clear hv hn hl
  have HsR4 := hide (eInfo (sumP ns))
  have HoR4 := hide (eOne (sumP ns))
  have HzR4 := hide (eSize 0 (sumP ns))
  generalize hR4 : q4 (sumP ns) = R4 at *
  have HR4 := hide hR4
  clear hR4
  generalize hZ4 : q4 0 = Z4 at *
  have HZ4 := hide hZ4
  clear hZ4
  go_enter Tryd.func75, Tryd.ntmps75
  go_wp2_with fail
  generalize (w.alloc (.cells Z4 25)).alloc (.cells Z4 25) = w1 at *
  go_loopw [8] (fun i wr => ∃ k : Nat, k ≤ ns.length ∧ i = .int .i64 k ∧ (blk (w.heap.size + 1) (.cells (q4 (sumP (ns.take k))) 25 (0, 0)) * (blk w.heap.size (.cells Z4 25 (0, 0)) * all w)).on wr ∧ Str w wr) (fun i _ => ns.length - (intOf i).toNat)
  case atStart => exact ⟨0, by omega, rfl, by rw [List.take_zero, show sumP [] = 0 from rfl, HZ4.out]; exact H1.out, S1.out⟩
  case round =>
    obtain ⟨k, hk, rfl, hX, hS2⟩ := hrel
    have H4 := hide hX
    have S4 := hide hS2
    clear hX hS2 H1 S1
    by_cases hlt : k < ns.length
    · have hB0 := all_below H4.out.right.right S4.out
      obtain ⟨g, rfl, hc⟩ := Hv.out k ns[k] (List.getElem?_eq_getElem hlt)
      have hx5 : ns[k] < P5 := Hn.out _ (List.getElem_mem hlt)
      have hP4 : P5 < 18446744073709551616 ^ 4 := P5_lt
      have hcell := fun j x hx => (hB0.cell (World.block_lt_of_cell? _ _ (hc j x hx))).trans (hc j x hx)
      have hs5 : sumP (ns.take k) < P5 := sumP_lt _
      have Hst := hide (show sumP (ns.take (k + 1)) = (sumP (ns.take k) + ns[k]) % P5 by rw [take_snoc ns k hlt, sumP_snoc])
      have Hc := hide (fun X h => plus_any (sumP (ns.take k)) ns[k] hs5 hx5 X h)
      generalize sumP (ns.take k) = s at *
      generalize ns[k] = x at *
      have hl9 := Hl.out
      have hkn : (k : Int) < (ns.length : Int) := by omega
      have hkn2 : (k : Int) < ((ns.length : Nat) : Int) := hkn
      clear hc hB0 hs5 hx5 hP4 hlt
      have HsX := hide (HI.out x)
      have HoX := hide (eOne x)
      have HzX := hide (eSize 0 x)
      have HsP := hide (HI.out s)
      have HsR := hide (HI.out ((s + x) % P5))
      have HoR := hide (eOne ((s + x) % P5))
      have HzR := hide (eSize s ((s + x) % P5))
      have HzX2 := hide (eSize s x)
      rw [HZ4.out] at HzX
      generalize hX : q4 x = X at *
      generalize q4 s = P at *
      generalize hR : q4 ((s + x) % P5) = R at *
      have HX := hide hX
      have HR := hide hR
      have Hcell := hide hcell
      clear hR hX hcell
      have ht := Hcell.out
      have hN := H4.out.alloc (.cells Z4 25)
      have gN := on_blk_mul hN
      have hM := hN.setRow X
      have gM := on_blk_mul hM
      have H5 := hide hM
      have S5 := hide ((S4.out.alloc (.cells Z4 25)).setRow wr.heap.size X)
      have gP := on_blk_mul hM.right
      clear hN hM
      go_wp2_with (first
        | (refine wpList_load_part rfl _ _ rfl g (k * 4) rfl X _ ht hu rfl HsX.out ?_)
        | (refine wpList_store_row rfl _ _ _ rfl (wr.heap.size) X rfl rfl _ _ gN HsX.out HzX.out HoX.out ?_)
        | (refine wpList_load_row rfl _ _ rfl (wr.heap.size) rfl _ X _ _ gM hu rfl HsX.out ?_)
        | (refine wpList_load_row rfl _ _ rfl (w.heap.size + 1) rfl _ P _ _ gP hu rfl HsP.out ?_))
      generalize (wr.alloc (.cells Z4 25)).setRow wr.heap.size X = w5 at *
      clear gN gM gP H4 S4 ht
      refine (Hc.out _ (hT.below (all_below H5.out.right.right.right S5.out))).mono ?_
      rintro e w6 ⟨rfl, hB⟩
      have H6 := hide (H5.out.below hB)
      have S6 := hide (S5.out.trans (Str.below hB))
      clear hB H5 S5
      have H7 := hide (st1 H6.out (cs := R))
      have S7 := hide (S6.out.setRow (w.heap.size + 1) R)
      have gW := on_blk_mul H6.out.right
      go_wp2_with (first
        | (refine wpList_store_row rfl _ _ _ rfl (w.heap.size + 1) R rfl rfl _ _ gW HsR.out HzR.out HoR.out ?_))
      exact ⟨⟨k + 1, by omega, by simp, by rw [Hst.out, HR.out]; exact H7.out.right, S7.out⟩, by simp [intOf]; omega⟩
    · obtain rfl : k = ns.length := by omega
      have hl9 := Hl.out
      rw [List.take_length, HR4.out] at H4
      have g0 := on_blk_mul H4.out
      have gR := on_blk_mul H4.out.right
      have HB := hide (all_below H4.out.right.right S4.out)
      go_wp2_with (first
        | (refine wpList_store_row rfl _ _ _ rfl (w.heap.size) R4 rfl rfl _ _ gR HsR4.out HzR4.out HoR4.out ?_)
        | (refine wpList_load_row rfl _ _ rfl (w.heap.size + 1) rfl _ R4 _ _ g0 hu rfl HsR4.out ?_))
      exact bodyPost_ret (v := .agg R4) (results_cell_row Tryd.results75 _ _ (w.heap.size) _ R4 (0, 0) _ rfl (setRow_heap_same _ _ _ _ _ _ gR) hu rfl HsR4.out) rfl ⟨rfl, below_setRow HB.out (by omega) _⟩
set_option maxRecDepth 100000 in
set_option maxHeartbeats 8000000 in
theorem mul_any (v : Value) (ns : List Nat) (hn : ∀ x ∈ ns, x < P5) (hl : ns.length < 1000) (w : World) (hv : IsEl w v ns) (hT : Tab5 w) :
    Calls Tryd.prog 73 #[v] w fun e w' => e = .returned (.agg (q4 (mulP ns))) ∧ Below w.heap.size w w' := by
  obtain ⟨a, c, rfl, hv⟩ := hv
  have hu := Tryd.underlying25
  have hz4e := eZero
  have h0 := (on_all w).alloc (.cells (q4 0) 25)
  have s0 := (Str.refl w).alloc (.cells (q4 0) 25)
  try simp only [World.size_alloc] at h0
  have H1 := hide h0
  have S1 := hide s0
  clear h0 s0
  have HI := hide eInfo
  have HV : Hid (IsEl w (.slice a ns.length c) ns) := hide ⟨a, c, rfl, hv⟩
  have Hv := hide hv
  have Hn := hide hn
  have Hl := hide hl
  have Hc1 := hide (fun X => small_any 1 (by decide) X)
  clear hv hn hl
  have HsR4 := hide (eInfo (mulP ns))
  have HoR4 := hide (eOne (mulP ns))
  have HzR4 := hide (eSize 0 (mulP ns))
  have HsI4 := hide (eInfo (1))
  have HoI4 := hide (eOne (1))
  have HzI4 := hide (eSize 0 (1))
  generalize hR4 : q4 (mulP ns) = R4 at *
  have HR4 := hide hR4
  clear hR4
  generalize hI4 : q4 (1) = I4 at *
  have HI4 := hide hI4
  clear hI4
  generalize hZ4 : q4 0 = Z4 at *
  have HZ4 := hide hZ4
  clear hZ4
  go_enter Tryd.func73, Tryd.ntmps73
  go_wp2_with fail
  generalize w.alloc (.cells Z4 25) = w1 at *
  refine (Hc1.out _).mono ?_
  rintro e w2 ⟨rfl, hB⟩
  have H2 := hide (H1.out.below hB)
  have S2 := hide (S1.out.trans (Str.below hB))
  clear hB H1 S1
  have hN := H2.out.alloc (.cells Z4 25)
  have gN := on_blk_mul hN
  have hM := hN.setRow I4
  have gM := on_blk_mul hM
  have H3 := hide hM
  have S3 := hide ((S2.out.alloc (.cells Z4 25)).setRow w2.heap.size I4)
  clear hN hM
  go_wp2_with (first
    | (refine wpList_store_row rfl _ _ _ rfl (w2.heap.size) I4 rfl rfl _ _ gN HsI4.out HzI4.out HoI4.out ?_))
  generalize (w2.alloc (.cells Z4 25)).setRow w2.heap.size I4 = w3 at *
  clear gN gM H2 S2
  generalize w2.heap.size = p5 at *
  go_loopw [9] (fun i wr => ∃ k : Nat, k ≤ ns.length ∧ i = .int .i64 k ∧ (blk p5 (.cells (q4 (mulP (ns.take k))) 25 (0, 0)) * (blk w.heap.size (.cells Z4 25 (0, 0)) * all w)).on wr ∧ Str w wr) (fun i _ => ns.length - (intOf i).toNat)
  case atStart => exact ⟨0, by omega, rfl, by rw [List.take_zero, show mulP [] = 1 from rfl, HI4.out]; exact H3.out, S3.out⟩
  case round =>
    obtain ⟨k, hk, rfl, hX, hS2⟩ := hrel
    have H4 := hide hX
    have S4 := hide hS2
    clear hX hS2 H3 S3
    by_cases hlt : k < ns.length
    · have hB0 := all_below H4.out.right.right S4.out
      obtain ⟨g, rfl, hc⟩ := Hv.out k ns[k] (List.getElem?_eq_getElem hlt)
      have hx5 : ns[k] < P5 := Hn.out _ (List.getElem_mem hlt)
      have hP4 : P5 < 18446744073709551616 ^ 4 := P5_lt
      have hcell := fun j x hx => (hB0.cell (World.block_lt_of_cell? _ _ (hc j x hx))).trans (hc j x hx)
      have hs5 : mulP (ns.take k) < P5 := mulP_lt _ (fun x hx => Hn.out x (List.mem_of_mem_take hx))
      have Hst := hide (fun h => mulP_take ns k hlt h)
      have Hst0 := hide (fun (h : k = 0) => show mulP (ns.take (k + 1)) = ns[k] by subst h; cases ns with | nil => simp at hlt | cons y l => rfl)
      have Hc := hide (fun X h => times_any (mulP (ns.take k)) ns[k] (by omega) (by omega) X h)
      generalize mulP (ns.take k) = s at *
      generalize ns[k] = x at *
      have hl9 := Hl.out
      have hkn : (k : Int) < (ns.length : Int) := by omega
      have hkn2 : (k : Int) < ((ns.length : Nat) : Int) := hkn
      clear hc hB0 hs5 hx5 hP4 hlt
      have HsX := hide (HI.out x)
      have HoX := hide (eOne x)
      have HzX := hide (eSize 0 x)
      have HsP := hide (HI.out s)
      have HsR := hide (HI.out (s * x % P5))
      have HoR := hide (eOne (s * x % P5))
      have HzR := hide (eSize s (s * x % P5))
      have HzX2 := hide (eSize s x)
      rw [HZ4.out] at HzX
      generalize hX : q4 x = X at *
      generalize q4 s = P at *
      generalize hR : q4 (s * x % P5) = R at *
      have HX := hide hX
      have HR := hide hR
      have Hcell := hide hcell
      clear hR hX hcell
      have ht := Hcell.out
      have hN := H4.out.alloc (.cells Z4 25)
      have gN := on_blk_mul hN
      have hM := hN.setRow X
      have gM := on_blk_mul hM
      have H5 := hide hM
      have S5 := hide ((S4.out.alloc (.cells Z4 25)).setRow wr.heap.size X)
      have gP := on_blk_mul hM.right
      clear hN hM
      by_cases h0 : k = 0
      · have HN := hide (Hst0.out h0)
        have ht0 : ∀ j x, X[j]? = some x → wr.cell? ⟨g, 0 + j, Option.none⟩ = some x := by have h9 := ht; rw [h0, Nat.zero_mul] at h9; exact h9
        have hn0 : 0 < ns.length := by omega
        subst h0
        have H6 := hide (st1 H5.out (cs := X))
        have S6 := hide (S5.out.setRow (p5) X)
        go_wp2_with (first
          | (refine wpList_load_part rfl _ _ rfl g 0 rfl X _ ht0 hu rfl HsX.out ?_)
          | (refine wpList_store_row rfl _ _ _ rfl (wr.heap.size) X rfl rfl _ _ gN HsX.out HzX.out HoX.out ?_)
          | (refine wpList_load_row rfl _ _ rfl (wr.heap.size) rfl _ X _ _ gM hu rfl HsX.out ?_)
          | (refine wpList_store_row rfl _ _ _ rfl (p5) X rfl rfl _ _ gP HsX.out HzX2.out HoX.out ?_))
        exact ⟨⟨0 + 1, by omega, by simp, by rw [HN.out, HX.out]; exact H6.out.right, S6.out⟩, by simp [intOf]; omega⟩
      · have HN := hide (Hst.out (by omega))
        have hk0 : ¬ (k : Int) = 0 := by omega
        clear h0
        go_wp2_with (first
          | (refine wpList_load_part rfl _ _ rfl g (k * 4) rfl X _ ht hu rfl HsX.out ?_)
          | (refine wpList_store_row rfl _ _ _ rfl (wr.heap.size) X rfl rfl _ _ gN HsX.out HzX.out HoX.out ?_)
          | (refine wpList_load_row rfl _ _ rfl (wr.heap.size) rfl _ X _ _ gM hu rfl HsX.out ?_)
          | (refine wpList_load_row rfl _ _ rfl (p5) rfl _ P _ _ gP hu rfl HsP.out ?_))
        generalize (wr.alloc (.cells Z4 25)).setRow wr.heap.size X = w5 at *
        clear gN gM gP H4 S4 ht
        refine (Hc.out _ (hT.below (all_below H5.out.right.right.right S5.out))).mono ?_
        rintro e w6 ⟨rfl, hB⟩
        have H6 := hide (H5.out.below hB)
        have S6 := hide (S5.out.trans (Str.below hB))
        clear hB H5 S5
        have H7 := hide (st1 H6.out (cs := R))
        have S7 := hide (S6.out.setRow (p5) R)
        have gW := on_blk_mul H6.out.right
        go_wp2_with (first
          | (refine wpList_store_row rfl _ _ _ rfl (p5) R rfl rfl _ _ gW HsR.out HzR.out HoR.out ?_))
        exact ⟨⟨k + 1, by omega, by simp, by rw [HN.out, HR.out]; exact H7.out.right, S7.out⟩, by simp [intOf]; omega⟩
    · obtain rfl : k = ns.length := by omega
      have hl9 := Hl.out
      rw [List.take_length, HR4.out] at H4
      have g0 := on_blk_mul H4.out
      have gR := on_blk_mul H4.out.right
      have HB := hide (all_below H4.out.right.right S4.out)
      go_wp2_with (first
        | (refine wpList_store_row rfl _ _ _ rfl (w.heap.size) R4 rfl rfl _ _ gR HsR4.out HzR4.out HoR4.out ?_)
        | (refine wpList_load_row rfl _ _ rfl (p5) rfl _ R4 _ _ g0 hu rfl HsR4.out ?_))
      exact bodyPost_ret (v := .agg R4) (results_cell_row Tryd.results73 _ _ (w.heap.size) _ R4 (0, 0) _ rfl (setRow_heap_same _ _ _ _ _ _ gR) hu rfl HsR4.out) rfl ⟨rfl, below_setRow HB.out (by omega) _⟩
end Fe
end Go.Proofs.YtbplbdnofobbiaaDoor
