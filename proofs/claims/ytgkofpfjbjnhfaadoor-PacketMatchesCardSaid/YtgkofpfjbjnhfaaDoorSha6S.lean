/- SHA-2 on words of 32 bits: the digest of a hash; of bytes in parts. -/
import Derived.Test.YtgkofpfjbjnhfaaDoorSha5S
namespace Go.Proofs.YtgkofpfjbjnhfaaDoor
open Go.ChangeShapes Go.WideShapes Go.ChangeAt Go.RowKit
namespace Sha32
set_option linter.unusedVariables false
set_option linter.unusedSimpArgs false

theorem outW_get (x : UInt32) : ∀ (k j : Nat), j < k → (outW x k)[j]? = some (byteK x.toNat (24 - 8 * j))
  | k + 1, j, h => by
    simp only [outW]
    rcases Nat.lt_or_ge j k with h' | h'
    · rw [List.getElem?_append_left (by rw [outW_len]; exact h'), outW_get x k j h']
    · obtain rfl : j = k := by omega
      rw [List.getElem?_append_right (by rw [outW_len]; omega), outW_len]
      simp
theorem flat_get : ∀ (l : List UInt32) (i j : Nat) (x : UInt32), l[i]? = some x → j < 4 → (l.flatMap fun y => outW y 4)[4 * i + j]? = some (byteK x.toNat (24 - 8 * j))
  | y :: l, 0, j, x, h, hj => by
    simp at h
    subst h
    simp only [List.flatMap_cons]
    rw [List.getElem?_append_left (by rw [outW_len]; omega), Nat.mul_zero, Nat.zero_add, outW_get y _ _ hj]
  | y :: l, i + 1, j, x, h, hj => by
    simp only [List.flatMap_cons]
    rw [List.getElem?_append_right (by rw [outW_len]; omega), outW_len, show 4 * (i + 1) + j - 4 = 4 * i + j by omega]
    exact flat_get l i j x (by simpa using h) hj
theorem outS_get (s : St) (i j : Nat) (x : UInt32) (h : s.list[i]? = some x) (hj : j < 4) : (outS s)[4 * i + j]? = some (byteK x.toNat (24 - 8 * j)) := by
  have e : outS s = s.list.flatMap fun y => outW y 4 := by simp [outS, St.list]
  rw [e]
  exact flat_get _ _ _ _ h hj
def dL (s : St) (m : Nat) : List UInt8 := (outS s).take m ++ List.replicate (32 - m) 0
theorem dL_len (s : St) (m : Nat) (hm : m ≤ 32) : (dL s m).length = 32 := by
  simp only [dL, List.length_append, List.length_take, outS_len, List.length_replicate]; omega
theorem dL_set (s : St) (m : Nat) (hm : m < 32) {x : UInt8} (hx : (outS s)[m]? = some x) : (dL s m).set m x = dL s (m + 1) := by
  unfold dL
  have h1 : ((outS s).take m).length = m := by rw [List.length_take, outS_len]; omega
  obtain ⟨h2, h3⟩ := List.getElem?_eq_some_iff.1 hx
  rw [List.set_append_right _ _ (by omega), h1, Nat.sub_self, show 32 - m = (32 - (m + 1)) + 1 by omega, List.replicate_succ, List.set_cons_zero, List.take_succ_eq_append_getElem h2, h3, List.append_assoc]
  rfl
theorem dL_get (s : St) (m : Nat) (hm : m < 32) : (dL s m)[m]? = some 0 := by
  unfold dL
  have h1 : ((outS s).take m).length = m := by rw [List.length_take, outS_len]; omega
  rw [List.getElem?_append_right (by omega), h1, Nat.sub_self, List.getElem?_replicate, if_pos (by omega)]
theorem dL_all (s : St) : dL s 32 = outS s := by
  unfold dL
  rw [List.take_of_length_le (by rw [outS_len]; exact Nat.le_refl _)]
  simp
/-- bytes as the cells of an array -/
def bv (l : List UInt8) : Array Value := (vbs l).toArray
theorem bv_get (l : List UInt8) (i : Nat) {x : UInt8} (h : l[i]? = some x) : (bv l)[i]? = some (vb x) := by
  unfold bv
  rw [List.getElem?_toArray, List.getElem?_map, h]; rfl
theorem bv_set (l : List UInt8) (i : Nat) (x : UInt8) : (bv l).setIfInBounds i (vb x) = bv (l.set i x) := by
  unfold bv
  rw [List.setIfInBounds_toArray, ← List.map_set]
theorem bv_size (l : List UInt8) : (bv l).size = l.length := by simp [bv]
theorem bv_one (l : List UInt8) : (bv l).all (·.oneCell') = true := by
  rw [Array.all_eq_true_iff_forall_mem]
  intro x hx
  simp only [bv, List.mem_toArray, List.mem_map] at hx
  obtain ⟨y, _, rfl⟩ := hx
  rfl
def zD : List UInt8 := List.replicate 32 0
def zH : Array Value := (cellsG (List.replicate 8 0) zLeft 0).toArray

set_option maxRecDepth 100000 in
set_option maxHeartbeats 8000000 in
theorem sum_any (p : Nat) (l : List UInt8) (F : SP) (w : World) (h : (Sha p l * F).on w) (hT : ∀ X, F.on X → Tab X) (hlen : l.length ≤ 1000000000) :
    Calls Tryd.prog 101 #[.pointer (some ⟨p, 0, Option.none⟩)] w fun e w' => e = .returned (.agg (bv (digest l))) ∧ (Sha p l * F).on w' ∧ Str w w' := by
  have hzd : ∀ w, (zeroValue 71).run Tryd.prog w = .ok (.agg (bv zD)) w := fun w => by kernel_rfl
  have hzh : ∀ w, (zeroValue 147).run Tryd.prog w = .ok (.agg zH) w := fun w => by kernel_rfl
  have hu8 := Tryd.underlying145
  have hud := Tryd.underlying71
  have huh := Tryd.underlying147
  have HT := hide hT
  obtain ⟨left, hL, hw⟩ := Sha.open h
  have hw2 := ((hw.alloc (.cells (bv zD) 71)).alloc (.cells (bv zD) 71)).alloc (.cells zH 147)
  simp only [World.size_alloc] at hw2
  have gp : ((w.alloc (.cells (bv zD) 71)).alloc (.cells (bv zD) 71)).heap[p]? = some (.cells (cells (sta l) left l.length) 147 (0, 0)) := on_blk_mul ((hw.alloc' (.cells (bv zD) 71)).alloc' (.cells (bv zD) 71))
  have gq := on_blk_mul hw2
  have hw3 := hw2.setRow (cells (sta l) left l.length)
  have hs3 := ((((Str.refl w).alloc (.cells (bv zD) 71)).alloc (.cells (bv zD) 71)).alloc (.cells zH 147)).setRow (w.heap.size + 1 + 1) (cells (sta l) left l.length)
  have hcs := cells_size (sta l) left l.length hL.1
  have HsC : Hid ((Tryd.prog.info? 147).map (·.size) = some (cells (sta l) left l.length).size) := hide (by rw [hcs]; kernel_rfl)
  have HzC : Hid (zH.size = (cells (sta l) left l.length).size) := hide (by rw [hcs]; kernel_rfl)
  have HoC := hide (cells_one (sta l) left l.length)
  have HCe : Hid (∃ left, Left l left ∧ cells (sta l) left l.length = cells (sta l) left l.length) := hide ⟨left, hL, rfl⟩
  have h4 : (Sha (w.heap.size + 1 + 1) l * (blk (w.heap.size + 1) (.cells (bv zD) 71 (0, 0)) * (blk w.heap.size (.cells (bv zD) 71 (0, 0)) * (Sha p l * F)))).on ((((w.alloc (.cells (bv zD) 71)).alloc (.cells (bv zD) 71)).alloc (.cells zH 147)).setRow (w.heap.size + 1 + 1) (cells (sta l) left l.length)) := by
    refine Sha.shut hL ?_
    refine (SP.le.mul (SP.le.refl _) (SP.le.mul (SP.le.refl _) (SP.le.mul (SP.le.refl _) ?_))).on hw3
    intro hh hq
    obtain ⟨a, b, h1, h2, h3, pa, qb⟩ := hq
    exact ⟨hh, Hp.sub_refl _, a, b, h1, h2, h3, ⟨left, fun _ => Option.none, a, fun _ => .inl rfl, fun _ _ e => (nomatch e), Hp.sub_refl _, hL, pa⟩, qb⟩
  have Gp := hide gp
  have Gq := hide gq
  have H4 := hide h4
  have HS3 := hide hs3
  generalize hC : cells (sta l) left l.length = C at *
  generalize hW3 : (((w.alloc (.cells (bv zD) 71)).alloc (.cells (bv zD) 71)).alloc (.cells zH 147)).setRow (w.heap.size + 1 + 1) C = w3 at *
  have HW3 := hide hW3
  clear hw hw2 hw3 hs3 h4 gp gq hcs hL hT h hC hW3 HCe
  go_enter Tryd.func101, Tryd.ntmps101
  go_wp2_with (first
    | (refine wpList_load_row rfl _ _ rfl p rfl _ C _ _ Gp.out huh rfl HsC.out ?_)
    | (refine wpList_store_row rfl _ _ _ rfl (w.heap.size + 1 + 1) C rfl rfl _ _ Gq.out HsC.out HzC.out HoC.out ?_; rw [HW3.out]))
  have hP := pad_any (w.heap.size + 1 + 1) l _ w3 H4.out (fun X hX => HT.out X hX.right.right.right) hlen
  refine hP.mono ?_
  clear hP
  rintro e w4 ⟨⟨u, rfl⟩, h4, hs4⟩
  obtain ⟨left2, hL2, h5⟩ := Sha.open h4
  have HPl := hide (show digest l = outS (sta (padded l)) from rfl)
  have Hpart : Hid (∀ j v, (stc (sta (padded l)))[j]? = some v → w4.cell? ⟨w.heap.size + 1 + 1, 0 + j, Option.none⟩ = some v) := hide (fun j v hj => by
    have hj8 : j < 8 := by
      have := (Array.getElem?_eq_some_iff.1 hj).1
      rwa [stc_size] at this
    rw [Nat.zero_add, cell_of_blk h5 j (cells_st _ left2 _ j hj8)]
    rw [← hj]
    unfold stc
    rw [wv_get _ j (List.getElem?_eq_getElem (by rw [list_len]; exact hj8))])
  have h6 : (blk (w.heap.size + 1) (.cells (bv (dL (sta (padded l)) 0)) 71 (0, 0)) * (blk w.heap.size (.cells (bv zD) 71 (0, 0)) * (Sha p l * F))).on w4 := h5.right
  have H6 := hide h6
  have HS6 := hide (HS3.out.trans hs4)
  have Hg8 : Hid ((Tryd.prog.info? 145).map (·.size) = some (stc (sta (padded l))).size) := hide (by kernel_rfl)
  clear h4 hs4 hL2 h5 h6 Gp Gq H4 HS3 HsC HzC HoC HW3 hzd hzh
  generalize sta (padded l) = st at *
  have HSt8 : Hid (∀ i, i < 8 → ∃ x, st.list[i]? = some x ∧ (stc st)[i]? = some (v32 x)) := hide fun i hi => ⟨_, List.getElem?_eq_getElem (by rw [list_len]; exact hi), wv_get _ _ (List.getElem?_eq_getElem (by rw [list_len]; exact hi))⟩
  generalize stc st = S8 at *
  go_wp2_with (refine wpList_load_part rfl _ _ rfl (w.heap.size + 1 + 1) 0 rfl S8 _ Hpart.out hu8 rfl Hg8.out ?_)
  clear Hpart Hg8
  go_loopw [17] (fun i wr => ∃ k : Nat, k ≤ 8 ∧ i = .int .i64 k ∧ (blk (w.heap.size + 1) (.cells (bv (dL st (4 * k))) 71 (0, 0)) * (blk w.heap.size (.cells (bv zD) 71 (0, 0)) * (Sha p l * F))).on wr ∧ Str w wr) (fun i _ => 8 - (intOf i).toNat)
  case atStart => exact ⟨0, Nat.zero_le _, rfl, H6.out, HS6.out⟩
  case round =>
    obtain ⟨k, hk, rfl, hw, hstr⟩ := hrel
    by_cases hlt : k < 8
    · obtain ⟨x, hx, hx8⟩ := HSt8.out k hlt
      have hix := run_index_one (P := Tryd.prog) wr 145 70 8 S8 k (v32 x) .u32 hu8 Tryd.underlying70 (by kernel_rfl) hlt hx8
      have HX := hide hx
      have HW := hide hw
      have HS := hide hstr
      clear hx hx8 hw hstr H6 HS6
      go_wp2_with fail
      clear hix
      go_loopw [21] (fun i wr => ∃ j : Nat, j ≤ 4 ∧ i = .int .i64 j ∧ (blk (w.heap.size + 1) (.cells (bv (dL st (4 * k + j))) 71 (0, 0)) * (blk w.heap.size (.cells (bv zD) 71 (0, 0)) * (Sha p l * F))).on wr ∧ Str w wr) (fun i _ => 4 - (intOf i).toNat)
      case atStart => exact ⟨0, Nat.zero_le _, rfl, HW.out, HS.out⟩
      case round =>
        obtain ⟨j, hj, rfl, hw, hstr⟩ := hrel
        by_cases hjt : j < 4
        · have hb := outS_get st k j x HX.out hjt
          have hm : 4 * k + j < 32 := by omega
          have cd := cell_of_blk hw (4 * k + j) (bv_get _ _ (dL_get st _ hm))
          have fr := frozen_of_row _ (w.heap.size + 1) (4 * k + j) _ _ (on_blk_mul hw)
          have h9 := hw.setCell (i := 4 * k + j) (vb (byteK x.toNat (24 - 8 * j)))
          rw [bv_set, dL_set st _ hm hb] at h9
          have H9 := hide h9
          have HSt := hide hstr
          clear hb h9 hw hstr HW HS hm
          go_wp2_with fail
          exact ⟨⟨j + 1, by omega, by simp, setCell_congr H9.out (congrArg (Value.int _) (by unfold byteK; simp [IntKind.wrap_u8])), HSt.out.setCell _ _⟩, by simp [intOf]; omega⟩
        · obtain rfl : j = 4 := by omega
          have HW2 := hide hw
          have HS2 := hide hstr
          clear hw hstr HW HS
          go_wp2_with fail
          exact ⟨⟨k + 1, by omega, by simp, HW2.out, HS2.out⟩, by simp [intOf]; omega⟩
    · obtain rfl : k = 8 := by omega
      rw [show 4 * 8 = 32 from rfl, dL_all, ← HPl.out] at hw
      have hd := on_blk_mul hw
      have hr := on_blk_mul hw.right
      have hdl := digest_len l
      have HsD : Hid ((Tryd.prog.info? 71).map (·.size) = some (bv (digest l)).size) := hide (by rw [bv_size, hdl]; kernel_rfl)
      have HzD : Hid ((bv zD).size = (bv (digest l)).size) := hide (by rw [bv_size, bv_size, hdl]; rfl)
      have HoD := hide (bv_one (digest l))
      have HW := hide ((hw.right.setRow (bv (digest l))).right)
      have HSt := hide hstr
      have Hd := hide hd
      have Hr := hide hr
      generalize hDg : bv (digest l) = Dg at *
      have HDg := hide hDg
      clear hw hstr hd hr hdl H6 HS6 hDg
      go_wp2_with (first
        | (refine wpList_load_row rfl _ _ rfl (w.heap.size + 1) rfl _ Dg _ _ Hd.out hud rfl HsD.out ?_)
        | (refine wpList_store_row rfl _ _ _ rfl w.heap.size Dg rfl rfl _ _ Hr.out HsD.out HzD.out HoD.out ?_))
      refine bodyPost_ret (v := .agg Dg) (results_cell_row Tryd.results101 _ _ w.heap.size _ Dg (0, 0) _ rfl (setRow_heap_same _ _ _ _ _ _ Hr.out) hud rfl HsD.out) rfl ?_
      exact ⟨congrArg (fun d => Ending.returned (.agg d)) HDg.out.symm, HW.out, HSt.out.setRow _ _⟩
end Sha32
end Go.Proofs.YtgkofpfjbjnhfaaDoor
