/- The law UploaderActs: an uploader hears an answer. -/
import Derived.Test.YtjmgnfpcieofkaaGUA
import Derived.Test.YtjmgnfpcieofkaaGOpcA
import Derived.Test.YtjmgnfpcieofkaaGCrc
import Derived.Test.YtjmgnfpcieofkaaGBase2
import Derived.Test.YtjmgnfpcieofkaaDeslipRef
namespace Go.Proofs.Ytjmgnfpcieofkaa
open Go.ChangeShapes Go.WideShapes Go.ChangeAt Go.RowKit
set_option linter.unusedVariables false
set_option linter.unusedSimpArgs false

theorem stay_cell {w X : World} {a : Addr} {v : Value} (c : w.cell? a = some v) (hX : Stay w X) : X.cell? a = some v := (hX.cell (World.block_lt_of_cell? _ _ c)).trans c
theorem or32_w (b0 b1 b2 b3 : Nat) (h0 : b0 < 256) (h1 : b1 < 256) (h2 : b2 < 256) (h3 : b3 < 256) :
    (b0 ||| b1 * 256 = b0 + b1 * 256) ∧ ((b0 + b1 * 256) ||| b2 * 65536 = b0 + b1 * 256 + b2 * 65536) ∧ ((b0 + b1 * 256 + b2 * 65536) ||| b3 * 16777216 = b0 + b1 * 256 + b2 * 65536 + b3 * 16777216) := by
  refine ⟨?_, ?_, ?_⟩
  · rw [Nat.or_comm, show b1 * 256 = b1 <<< 8 by rw [Nat.shiftLeft_eq], ← Nat.shiftLeft_add_eq_or_of_lt (show b0 < 2 ^ 8 by omega), Nat.add_comm]
  · rw [Nat.or_comm, show b2 * 65536 = b2 <<< 16 by rw [Nat.shiftLeft_eq], ← Nat.shiftLeft_add_eq_or_of_lt (show b0 + b1 * 256 < 2 ^ 16 by omega), Nat.add_comm]
  · rw [Nat.or_comm, show b3 * 16777216 = b3 <<< 24 by rw [Nat.shiftLeft_eq], ← Nat.shiftLeft_add_eq_or_of_lt (show b0 + b1 * 256 + b2 * 65536 < 2 ^ 24 by omega), Nat.add_comm]
theorem IsBytes.at {w : World} {v : Value} {l : List UInt8} (h : IsBytes w v l) (i : Nat) (hi : i < l.length) : ∃ b off c, v = .slice (some ⟨b, off, Option.none⟩) l.length c ∧ w.cell? ⟨b, off + i, Option.none⟩ = some (vb (l.getD i 0)) := by
  obtain ⟨a, c, rfl, _, _, hl, _⟩ := h
  obtain ⟨b, off, rfl, hc⟩ := hl i (vb (l.getD i 0)) (by rw [List.getElem?_map, List.getElem?_eq_getElem hi, List.getD_eq_getElem?_getD, List.getElem?_eq_getElem hi]; rfl)
  exact ⟨b, off, c, rfl, hc⟩
theorem slice_same {b b' off off' n c c' : Nat} (h : Value.slice (some ⟨b, off, Option.none⟩) n c = Value.slice (some ⟨b', off', Option.none⟩) n c') : b' = b ∧ off' = off ∧ c' = c := by cases h; exact ⟨rfl, rfl, rfl⟩
theorem numS_fourU (l : List UInt8) (a : Nat) : numS l a 4 = (l.getD a 0).toNat + (l.getD (a + 1) 0).toNat * 256 + (l.getD (a + 2) 0).toNat * 65536 + (l.getD (a + 3) 0).toNat * 16777216 := by
  simp [numS]

set_option maxRecDepth 100000 in
set_option maxHeartbeats 4000000 in
theorem unumber_any (v : Value) (l : List UInt8) (a : Nat) (w : World) (h : IsBytes w v l) (ha : a + 4 ≤ l.length) (hl : l.length ≤ 1000000) :
    Calls Try.prog 105 #[v, .int .i64 (a : Int)] w fun e w' => e = .returned (.int .u32 (numS l a 4 : Nat)) ∧ Below w.heap.size w w' := by
  obtain ⟨b, off, c, rfl, c0⟩ := h.at a (by omega)
  obtain ⟨b', off', c', he, c1⟩ := h.at (a + 1) (by omega)
  obtain ⟨rfl, rfl, rfl⟩ := slice_same he
  obtain ⟨b'', off'', c'', he, c2⟩ := h.at (a + 2) (by omega)
  obtain ⟨rfl, rfl, rfl⟩ := slice_same he
  obtain ⟨b3, off3, c3', he, c3⟩ := h.at (a + 3) (by omega)
  obtain ⟨rfl, rfl, rfl⟩ := slice_same he
  clear he h
  have HN := hide (numS_fourU l a)
  generalize l.getD a 0 = x0 at *
  generalize l.getD (a + 1) 0 = x1 at *
  generalize l.getD (a + 2) 0 = x2 at *
  generalize l.getD (a + 3) 0 = x3 at *
  have b0 := UInt8.toNat_lt x0
  have b1 := UInt8.toNat_lt x1
  have b2 := UInt8.toNat_lt x2
  have b3' := UInt8.toNat_lt x3
  obtain ⟨o1, o2, o3⟩ := or32_w x0.toNat x1.toNat x2.toNat x3.toNat b0 b1 b2 b3'
  obtain ⟨M1, hM1⟩ : ∃ M, M = x1.toNat * 256 := ⟨_, rfl⟩
  obtain ⟨M2, hM2⟩ : ∃ M, M = x2.toNat * 65536 := ⟨_, rfl⟩
  obtain ⟨M3, hM3⟩ : ∃ M, M = x3.toNat * 16777216 := ⟨_, rfl⟩
  obtain ⟨N1, hN1⟩ : ∃ N, N = x0.toNat + M1 := ⟨_, rfl⟩
  obtain ⟨N2, hN2⟩ : ∃ N, N = N1 + M2 := ⟨_, rfl⟩
  obtain ⟨N3, hN3⟩ : ∃ N, N = N2 + M3 := ⟨_, rfl⟩
  have HN2 : Hid (numS l a 4 = N3) := hide (by rw [HN.out]; omega)
  rw [← hM1] at o1 o2 o3
  rw [← hM2] at o2 o3
  rw [← hM3] at o3
  rw [← hN1] at o1 o2 o3
  rw [← hN2] at o2 o3
  rw [← hN3] at o3
  have q1 : bits .or .u32 (x0.toNat : Int) (M1 : Int) = (N1 : Int) := (u32_or_nat x0.toNat M1 (by omega) (by omega)).trans (congrArg Int.ofNat o1)
  have q2 : bits .or .u32 (N1 : Int) (M2 : Int) = (N2 : Int) := (u32_or_nat N1 M2 (by omega) (by omega)).trans (congrArg Int.ofNat o2)
  have q3 : bits .or .u32 (N2 : Int) (M3 : Int) = (N3 : Int) := (u32_or_nat N2 M3 (by omega) (by omega)).trans (congrArg Int.ofNat o3)
  have s1 : IntKind.u32.wrap ((x1.toNat : Int) * 256) = (M1 : Int) := by rw [IntKind.wrap_u32]; omega
  have s2 : IntKind.u32.wrap ((x2.toNat : Int) * 65536) = (M2 : Int) := by rw [IntKind.wrap_u32]; omega
  have s3 : IntKind.u32.wrap ((x3.toNat : Int) * 16777216) = (M3 : Int) := by rw [IntKind.wrap_u32]; omega
  clear o1 o2 o3 hM1 hM2 hM3 hN1 hN2 hN3 HN
  go_enter Try.func105, Try.ntmps105
  go_wp2_with fail
  go_quiet (fail)
  go_wp2_with fail
  go_ret
  exact ⟨by rw [HN2.out]; rfl, Below.drewN' (Below.refl _ w) nq⟩

set_option maxRecDepth 100000 in
set_option maxHeartbeats 8000000 in
theorem ulooked_any (p : Nat) (iv : Value) (dp : Nat) (s : US) (mg mo mc : Nat) (img : List UInt8) (hl : img.length ≤ 4096) (hmc : img.length ≤ mc) (F : SP) (w : World) (h : (blk p (.cells (uC iv (.slice (some ⟨mg, mo, Option.none⟩) img.length mc) dp s) 126 (0, 0)) * F).on w) (kept sum : Nat) (hk : kept < 4294967296) (hs : sum < 4294967296) :
    Calls Try.prog 104 #[ptrV p, u32v kept, u32v sum] w fun e w' => (∃ v, e = .returned v) ∧ (blk p (.cells (uC iv (.slice (some ⟨mg, mo, Option.none⟩) img.length mc) dp (if img.length ≤ kept then s.goTo 5 else ({ s with from' := kept / 1024 * 1024, sum := sum } : US).goTo 3)) 126 (0, 0)) * F).on w' ∧ Str w w' := by
  have hu := Try.underlying126
  have hg := on_blk_mul h
  have fr := fun j => frozen_of_row w p j _ _ hg
  have q1 : w.cell? ⟨p, 1, Option.none⟩ = some ((.slice (some ⟨mg, mo, Option.none⟩) img.length mc)) := cell_of_row w p 1 _ _ _ hg
  have q7 : w.cell? ⟨p, 7, Option.none⟩ = some ((.int .i64 (s.from' : Int))) := cell_of_row w p 7 _ _ _ hg
  have q8 : w.cell? ⟨p, 8, Option.none⟩ = some ((.int .u32 (s.sum : Int))) := cell_of_row w p 8 _ _ _ hg
  have hlt := block_lt_of_cell q7
  by_cases hc : img.length ≤ kept
  · rw [if_pos hc]
    have H9 := hide h
    have S9 := hide (Str.refl w)
    have hcI : (img.length : Int) ≤ (kept : Int) := by omega
    clear h hg
    go_enter Try.func104, Try.ntmps104
    go_wp2_with fail
    refine (goTo_any p iv (.slice (some ⟨mg, mo, Option.none⟩) img.length mc) dp s 5 F _ H9.out).mono ?_
    rintro e W9 ⟨⟨v, rfl⟩, h9, hs9⟩
    have HE := hide h9
    have SE := hide (S9.out.trans hs9)
    clear h9 hs9
    go_wp2_with fail
    refine bodyPost_ret (v := .tuple #[]) (by simp [results, Try.results104, go_sem]) rfl ⟨⟨_, rfl⟩, ?_, SE.out⟩
    exact HE.out
  · rw [if_neg hc]
    have hcI : ¬ (img.length : Int) ≤ (kept : Int) := by omega
    have hdv : ((kept : Int)).tdiv 1024 = ((kept / 1024 : Nat) : Int) := by rw [Int.tdiv_eq_ediv_of_nonneg (by omega)]; omega
    have h2 : (blk p (.cells (uC iv (.slice (some ⟨mg, mo, Option.none⟩) img.length mc) dp ({ s with from' := kept / 1024 * 1024, sum := sum } : US)) 126 (0, 0)) * F).on ((w.setCell ⟨p, 7, Option.none⟩ (.int .i64 ((kept / 1024 * 1024 : Nat) : Int))).setCell ⟨p, 8, Option.none⟩ (.int .u32 (sum : Int))) := (h.setCell (i := 7) (.int .i64 ((kept / 1024 * 1024 : Nat) : Int))).setCell (i := 8) (.int .u32 (sum : Int))
    have H9 := hide h2
    have S9 := hide (((Str.refl w).setCell ⟨p, 7, Option.none⟩ (.int .i64 ((kept / 1024 * 1024 : Nat) : Int))).setCell ⟨p, 8, Option.none⟩ (.int .u32 (sum : Int)))
    rw [show ((kept / 1024 * 1024 : Nat) : Int) = (kept : Int) / 1024 * 1024 by omega] at H9 S9
    clear h hg h2
    go_enter Try.func104, Try.ntmps104
    go_wp2_with fail
    refine (goTo_any p iv (.slice (some ⟨mg, mo, Option.none⟩) img.length mc) dp ({ s with from' := kept / 1024 * 1024, sum := sum } : US) 3 F _ H9.out).mono ?_
    rintro e W9 ⟨⟨v, rfl⟩, h9, hs9⟩
    have HE := hide h9
    have SE := hide (S9.out.trans hs9)
    clear h9 hs9
    go_wp2_with fail
    go_end0
    refine ⟨⟨_, rfl⟩, ?_, SE.out⟩
    exact HE.out

theorem obj_bytes {w : World} {mg mo mc n : Nat} {img : List UInt8} (h : IsBytes w (.slice (some ⟨mg, mo, Option.none⟩) img.length mc) img) (hf : n < img.length) : IsBytes w (.slice (some ⟨mg, mo + n, Option.none⟩) (objU img n).length (mc - n)) (objU img n) := by
  have h1 := sub_bytes h n (min 1024 (img.length - n)) (by omega)
  rw [show (img.drop n).take (min 1024 (img.length - n)) = objU img n by
    unfold objU
    rcases Nat.le_total 1024 (img.length - n) with hc | hc
    · rw [Nat.min_eq_left hc]
    · rw [Nat.min_eq_right hc, List.take_of_length_le (by rw [List.length_drop]; omega), List.take_of_length_le (by rw [List.length_drop]; omega)]] at h1
  rw [objU_len]
  exact h1

set_option maxRecDepth 100000 in
set_option maxHeartbeats 8000000 in
theorem ufed_any (p : Nat) (iv : Value) (dp : Nat) (s : US) (mg mo mc : Nat) (img : List UInt8) (hl : img.length ≤ 4096) (hmc : img.length ≤ mc) (F : SP) (w : World) (h : (blk p (.cells (uC iv (.slice (some ⟨mg, mo, Option.none⟩) img.length mc) dp s) 126 (0, 0)) * F).on w) (n sum : Nat) (hn : n < 4294967296) (hs : sum < 4294967296) (hsum : s.sum < 4294967296) (hmv : ∀ W, F.on W → IsBytes W (.slice (some ⟨mg, mo, Option.none⟩) img.length mc) img) (hfr : s.from' < img.length) :
    Calls Try.prog 106 #[ptrV p, u32v n, u32v sum] w fun e w' => (∃ v, e = .returned v) ∧ (blk p (.cells (uC iv (.slice (some ⟨mg, mo, Option.none⟩) img.length mc) dp (if n = s.from' + (objU img s.from').length ∧ sum = crcUpd s.sum (objU img s.from') then s.goTo 4 else s.goTo 0)) 126 (0, 0)) * F).on w' ∧ Str w w' := by
  obtain ⟨se, hse⟩ : ∃ x : US, x = (if n = s.from' + (objU img s.from').length ∧ sum = crcUpd s.sum (objU img s.from') then s.goTo 4 else s.goTo 0) := ⟨_, rfl⟩
  rw [← hse]
  have Hse := hide hse
  clear hse
  have hu := Try.underlying126
  have hO := hide (uobject_any p iv dp s mg mo mc img hfr hl F w h hmc)
  have Hol := hide (objU_len img s.from')
  have hlen : (objU img s.from').length ≤ 1024 := by rw [Hol.out]; omega
  go_enter Try.func106, Try.ntmps106
  go_wp2_with fail
  refine hO.out.mono ?_
  clear hO
  rintro e w1 ⟨rfl, hb1⟩
  have h1 := h.below hb1
  have hg := on_blk_mul h1
  have hB := obj_bytes (hmv _ h1.right) hfr
  have q7 : w1.cell? ⟨p, 7, Option.none⟩ = some ((.int .i64 (s.from' : Int))) := cell_of_row w1 p 7 _ _ _ hg
  have q8 : w1.cell? ⟨p, 8, Option.none⟩ = some ((.int .u32 (s.sum : Int))) := cell_of_row w1 p 8 _ _ _ hg
  have hU := hide (update_any s.sum hsum _ _ w1 hB)
  have H1 := hide h1
  have S1 := hide (Str.below hb1)
  clear h h1 hg hb1 hB
  by_cases hc : n = s.from' + (objU img s.from').length
  case neg =>
    have Hc := hide hc
    have e1 : ((n : Int) == (s.from' : Int) + ((objU img s.from').length : Int)) = false := by simp only [beq_eq_false_iff_ne, ne_eq]; omega
    have H9 := H1
    have S9 := S1
    clear hc hU
    go_wp2_with fail
    refine (goTo_any p iv (.slice (some ⟨mg, mo, Option.none⟩) img.length mc) dp s 0 F _ H9.out).mono ?_
    rintro e W9 ⟨⟨v, rfl⟩, h9, hs9⟩
    have HE := hide h9
    have SE := hide (S9.out.trans hs9)
    clear h9 hs9
    go_wp2_with fail
    go_end0
    refine ⟨⟨_, rfl⟩, ?_, SE.out⟩
    rw [Hse.out, if_neg (fun h => Hc.out h.1)]
    exact HE.out
  case pos =>
    have e1 : ((n : Int) == (s.from' : Int) + ((objU img s.from').length : Int)) = true := by simp only [beq_iff_eq]; omega
    obtain ⟨cu, hcu⟩ : ∃ x, x = crcUpd s.sum (objU img s.from') := ⟨_, rfl⟩
    rw [← hcu] at hU Hse
    clear hcu
    have Hc := hide hc
    clear hc
    go_wp2_with fail
    refine hU.out.mono ?_
    clear hU
    rintro e w2 ⟨rfl, hb2⟩
    have H9 := hide (H1.out.below hb2)
    have S9 := hide (S1.out.trans (Str.below hb2))
    clear hb2 H1 S1 q7 q8 e1
    by_cases hq : sum = cu
    · have Hq := hide hq
      have e2 : ((sum : Int) == (cu : Int)) = true := by simp only [beq_iff_eq]; omega
      clear hq
      go_wp2_with fail
      refine (goTo_any p iv (.slice (some ⟨mg, mo, Option.none⟩) img.length mc) dp s 4 F _ H9.out).mono ?_
      rintro e W9 ⟨⟨v, rfl⟩, h9, hs9⟩
      have HE := hide h9
      have SE := hide (S9.out.trans hs9)
      clear h9 hs9
      go_wp2_with fail
      go_end0
      refine ⟨⟨_, rfl⟩, ?_, SE.out⟩
      rw [Hse.out, if_pos ⟨Hc.out, Hq.out⟩]
      exact HE.out
    · have Hq := hide hq
      have e2 : ((sum : Int) == (cu : Int)) = false := by simp only [beq_eq_false_iff_ne, ne_eq]; omega
      clear hq
      go_wp2_with fail
      refine (goTo_any p iv (.slice (some ⟨mg, mo, Option.none⟩) img.length mc) dp s 0 F _ H9.out).mono ?_
      rintro e W9 ⟨⟨v, rfl⟩, h9, hs9⟩
      have HE := hide h9
      have SE := hide (S9.out.trans hs9)
      clear h9 hs9
      go_wp2_with fail
      go_end0
      refine ⟨⟨_, rfl⟩, ?_, SE.out⟩
      rw [Hse.out, if_neg (fun h => Hq.out h.2)]
      exact HE.out

set_option maxRecDepth 100000 in
set_option maxHeartbeats 8000000 in
theorem ucommitted_any (p : Nat) (iv : Value) (dp : Nat) (s : US) (mg mo mc : Nat) (img : List UInt8) (hl : img.length ≤ 4096) (hmc : img.length ≤ mc) (F : SP) (w : World) (h : (blk p (.cells (uC iv (.slice (some ⟨mg, mo, Option.none⟩) img.length mc) dp s) 126 (0, 0)) * F).on w) (hsum : s.sum < 4294967296) (hmv : ∀ W, F.on W → IsBytes W (.slice (some ⟨mg, mo, Option.none⟩) img.length mc) img) (hfr : s.from' < img.length) :
    Calls Try.prog 107 #[ptrV p] w fun e w' => (∃ v, e = .returned v) ∧ (blk p (.cells (uC iv (.slice (some ⟨mg, mo, Option.none⟩) img.length mc) dp (if img.length ≤ s.from' + 1024 then ({ s with from' := s.from' + 1024, sum := crcUpd s.sum (objU img s.from') } : US).goTo 5 else ({ s with from' := s.from' + 1024, sum := crcUpd s.sum (objU img s.from') } : US).goTo 3)) 126 (0, 0)) * F).on w' ∧ Str w w' := by
  obtain ⟨se, hse⟩ : ∃ x : US, x = (if img.length ≤ s.from' + 1024 then ({ s with from' := s.from' + 1024, sum := crcUpd s.sum (objU img s.from') } : US).goTo 5 else ({ s with from' := s.from' + 1024, sum := crcUpd s.sum (objU img s.from') } : US).goTo 3) := ⟨_, rfl⟩
  rw [← hse]
  have Hse := hide hse
  clear hse
  have hu := Try.underlying126
  have hg := on_blk_mul h
  have M8 := hide (fun (X : World) (hX : Stay w X) => stay_cell (show w.cell? ⟨p, 8, Option.none⟩ = some (.int .u32 (s.sum : Int)) from cell_of_row w p 8 _ _ _ hg) hX)
  have H1 := hide h
  have hU := fun (X : World) (hX : Stay w X) => update_any s.sum hsum _ _ X (obj_bytes (hmv _ (H1.out.below hX).right) hfr)
  obtain ⟨cu, hcu⟩ : ∃ x, x = crcUpd s.sum (objU img s.from') := ⟨_, rfl⟩
  have hcl : cu < 4294967296 := by rw [hcu]; exact crcUpd_lt _ _
  rw [← hcu] at hU Hse
  have HU := hide hU
  clear h hg hU hcu
  go_enter Try.func107, Try.ntmps107
  go_wp2_with fail
  refine wp_region_tail 10 [isV (.pointer (some ⟨p, 0, Option.none⟩)), isV (.pointer (some ⟨p, 0, Option.none⟩)), isV (.pointer (some ⟨p, 0, Option.none⟩)), isV (.pointer (some ⟨p, 8, Option.none⟩)), isV (.int .u32 (s.sum : Int)), isV (.pointer (some ⟨p, 0, Option.none⟩)), isV (.slice (some ⟨mg, mo + s.from', Option.none⟩) (objU img s.from').length (mc - s.from')), isV (.int .u32 (cu : Int)), isV (.pointer (some ⟨p, 0, Option.none⟩)), isV (.pointer (some ⟨p, 8, Option.none⟩))]
    (by simp only [List.take_succ_cons, List.take_zero]; rfl) (by simp only [List.drop_succ_cons, List.drop_zero]; rfl) (by kernel_rfl) (by kernel_rfl) (by kernel_rfl) (by decide) rfl ?keep ?todo ?rest
  case keep => exact ⟨Keep.isV _, Keep.isV _, Keep.isV _, Keep.isV _, Keep.isV _, Keep.isV _, Keep.isV _, Keep.isV _, Keep.isV _, Keep.isV _, trivial⟩
  case todo =>
    refine ⟨?_, ?_, ?_, ?_, ?_, ?_, ?_, ?_, ?_, ?_, trivial⟩
    · intro ev X hT hb hk hf
      have e0 : ev (.tmp 0) = .pointer (some ⟨p, 0, Option.none⟩) := hk.1
      exact OpOk.move rfl e0 ⟨rfl, Stay.refl _⟩
    · intro ev X hT hb hk hf
      have e0 : ev (.tmp 0) = .pointer (some ⟨p, 0, Option.none⟩) := hk.1
      exact OpOk.move rfl e0 ⟨rfl, Stay.refl _⟩
    · intro ev X hT hb hk hf
      have e0 : ev (.tmp 3) = .pointer (some ⟨p, 0, Option.none⟩) := hf.1
      exact OpOk.run (v := .pointer (some ⟨p, 0, Option.none⟩)) (W' := X) (by simp [execOp, e0, hb.1, hu, go_sem]) ⟨rfl, Stay.refl _⟩
    · intro ev X hT hb hk hf
      have e0 : ev (.tmp 4) = .pointer (some ⟨p, 0, Option.none⟩) := hf.1
      exact OpOk.run (v := .pointer (some ⟨p, 8, Option.none⟩)) (W' := X) (by simp [execOp, e0, hb.1, hu, go_sem]) ⟨rfl, Stay.refl _⟩
    · intro ev X hT hb hk hf
      have e0 : ev (.tmp 5) = .pointer (some ⟨p, 8, Option.none⟩) := hf.1
      have cW := M8.out X hT
      exact OpOk.run (v := .int .u32 (s.sum : Int)) (W' := X) (by simp [execOp, e0, cW, go_sem]) ⟨rfl, Stay.refl _⟩
    · intro ev X hT hb hk hf
      have e0 : ev (.tmp 0) = .pointer (some ⟨p, 0, Option.none⟩) := hk.1
      exact OpOk.move rfl e0 ⟨rfl, Stay.refl _⟩
    · intro ev X hT hb hk hf
      have e0 : ev (.tmp 7) = .pointer (some ⟨p, 0, Option.none⟩) := hf.1
      refine OpOk.enters (f := 100) (args := #[ptrV p]) (W' := X) (by simp [execOp, resolve, invoke, e0, hb.1, hb.2.1, go_sem]) ((uobject_any p iv dp s mg mo mc img hfr hl F X (H1.out.below hT) hmc).mono ?_)
      rintro e X2 ⟨rfl, h2⟩
      exact ⟨_, rfl, rfl, h2⟩
    · intro ev X hT hb hk hf
      have e0 : ev (.tmp 6) = .int .u32 (s.sum : Int) := hf.1
      have e1 : ev (.tmp 8) = .slice (some ⟨mg, mo + s.from', Option.none⟩) (objU img s.from').length (mc - s.from') := hf.2.1
      refine OpOk.enters (f := 119) (args := #[.int .u32 (s.sum : Int), .slice (some ⟨mg, mo + s.from', Option.none⟩) (objU img s.from').length (mc - s.from')]) (W' := X) (by simp [execOp, resolve, invoke, e0, e1, hb.1, hb.2.1, go_sem]) ((HU.out X hT).mono ?_)
      rintro e X2 ⟨rfl, h2⟩
      exact ⟨_, rfl, rfl, h2⟩
    · intro ev X hT hb hk hf
      have e0 : ev (.tmp 2) = .pointer (some ⟨p, 0, Option.none⟩) := hf.1
      exact OpOk.run (v := .pointer (some ⟨p, 0, Option.none⟩)) (W' := X) (by simp [execOp, e0, hb.1, hu, go_sem]) ⟨rfl, Stay.refl _⟩
    · intro ev X hT hb hk hf
      have e0 : ev (.tmp 10) = .pointer (some ⟨p, 0, Option.none⟩) := hf.1
      exact OpOk.run (v := .pointer (some ⟨p, 8, Option.none⟩)) (W' := X) (by simp [execOp, e0, hb.1, hu, go_sem]) ⟨rfl, Stay.refl _⟩
  case rest =>
    intro X hT
    rintro _ rfl _ rfl _ rfl _ rfl _ rfl _ rfl _ rfl _ rfl _ rfl _ rfl
    have h2 := H1.out.below hT
    have hg := on_blk_mul h2
    have fr := fun j => frozen_of_row X p j _ _ hg
    have q1 : X.cell? ⟨p, 1, Option.none⟩ = some (.slice (some ⟨mg, mo, Option.none⟩) img.length mc) := cell_of_row X p 1 _ _ _ hg
    have q7 : X.cell? ⟨p, 7, Option.none⟩ = some (.int .i64 (s.from' : Int)) := cell_of_row X p 7 _ _ _ hg
    have q8 : X.cell? ⟨p, 8, Option.none⟩ = some (.int .u32 (s.sum : Int)) := cell_of_row X p 8 _ _ _ hg
    have hlt := block_lt_of_cell q7
    have h3 : (blk p (.cells (uC iv (.slice (some ⟨mg, mo, Option.none⟩) img.length mc) dp ({ s with from' := s.from' + 1024, sum := cu } : US)) 126 (0, 0)) * F).on ((X.setCell ⟨p, 8, Option.none⟩ (.int .u32 (cu : Int))).setCell ⟨p, 7, Option.none⟩ (.int .i64 ((s.from' : Int) + 1024))) := (h2.setCell (i := 8) (.int .u32 (cu : Int))).setCell (i := 7) (.int .i64 ((s.from' : Int) + 1024))
    have H3 := hide h3
    have S3 := hide (((Str.below hT).setCell ⟨p, 8, Option.none⟩ (.int .u32 (cu : Int))).setCell ⟨p, 7, Option.none⟩ (.int .i64 ((s.from' : Int) + 1024)))
    clear hT h2 hg h3 H1 HU M8
    go_wp2
    refine Rest.done ?_
    go_wp2_with fail
    generalize (X.setCell ⟨p, 8, Option.none⟩ (.int .u32 (cu : Int))).setCell ⟨p, 7, Option.none⟩ (.int .i64 ((s.from' : Int) + 1024)) = X3 at *
    clear fr q1 q7 q8 hlt
    have hg := on_blk_mul H3.out
    have q1 : X3.cell? ⟨p, 1, Option.none⟩ = some (.slice (some ⟨mg, mo, Option.none⟩) img.length mc) := cell_of_row X3 p 1 _ _ _ hg
    have q7 : X3.cell? ⟨p, 7, Option.none⟩ = some (.int .i64 ((s.from' : Int) + 1024)) := cell_of_row X3 p 7 _ _ _ hg
    clear hg
    by_cases hc : img.length ≤ s.from' + 1024
    · have Hc := hide hc
      have hcI : (img.length : Int) ≤ (s.from' : Int) + 1024 := by omega
      clear hc
      go_wp2_with fail
      go_quiet (fail)
      have H9 := hide (SP.on_of_heap (w' := X3.drewN nq) H3.out rfl)
      have S9 : Hid (Str w (X3.drewN nq)) := hide ⟨S3.out.os, S3.out.tape, S3.out.output, S3.out.size⟩
      go_wp2_with fail
      refine (goTo_any p iv (.slice (some ⟨mg, mo, Option.none⟩) img.length mc) dp ({ s with from' := s.from' + 1024, sum := cu } : US) 5 F _ H9.out).mono ?_
      rintro e W9 ⟨⟨v, rfl⟩, h9, hs9⟩
      have HE := hide h9
      have SE := hide (S9.out.trans hs9)
      clear h9 hs9
      go_wp2_with fail
      go_end0
      refine ⟨⟨_, rfl⟩, ?_, SE.out⟩
      rw [Hse.out, if_pos Hc.out]
      exact HE.out
    · have Hc := hide hc
      have hcI : ¬ (img.length : Int) ≤ (s.from' : Int) + 1024 := by omega
      clear hc
      go_wp2_with fail
      go_quiet (fail)
      have H9 := hide (SP.on_of_heap (w' := X3.drewN nq) H3.out rfl)
      have S9 : Hid (Str w (X3.drewN nq)) := hide ⟨S3.out.os, S3.out.tape, S3.out.output, S3.out.size⟩
      go_wp2_with fail
      refine (goTo_any p iv (.slice (some ⟨mg, mo, Option.none⟩) img.length mc) dp ({ s with from' := s.from' + 1024, sum := cu } : US) 3 F _ H9.out).mono ?_
      rintro e W9 ⟨⟨v, rfl⟩, h9, hs9⟩
      have HE := hide h9
      have SE := hide (S9.out.trans hs9)
      clear h9 hs9
      go_wp2_with fail
      go_end0
      refine ⟨⟨_, rfl⟩, ?_, SE.out⟩
      rw [Hse.out, if_neg Hc.out]
      exact HE.out

set_option maxRecDepth 100000 in
set_option maxHeartbeats 8000000 in
theorem uanswered_any (p : Nat) (iv : Value) (dp : Nat) (s : US) (mg mo mc : Nat) (img : List UInt8) (hl : img.length ≤ 4096) (hmc : img.length ≤ mc) (F : SP) (w : World) (h : (blk p (.cells (uC iv (.slice (some ⟨mg, mo, Option.none⟩) img.length mc) dp s) 126 (0, 0)) * F).on w) (hmv : ∀ W, F.on W → IsBytes W (.slice (some ⟨mg, mo, Option.none⟩) img.length mc) img) (ok : s.Ok img) (q : AnsS) (dv : Value) (hdv : IsBytes w dv q.data) (hdl : q.data.length ≤ 1000000) :
    Calls Try.prog 76 #[ptrV p, .agg (respCells q dv)] w fun e w' => (∃ v, e = .returned v) ∧ (blk p (.cells (uC iv (.slice (some ⟨mg, mo, Option.none⟩) img.length mc) dp (s.answer img q.op q.result q.data)) 126 (0, 0)) * F).on w' ∧ Str w w' := by
  have hu := Try.underlying126
  have hur := Try.underlying137
  have hdv2 := hdv
  obtain ⟨da, dc, rfl, _, _, _, _⟩ := hdv2
  have hda := hdv.below (alloc1 (o := .cells (respCells q (.slice da q.data.length dc)) 137))
  have H1 := hide (h.alloc' (.cells (respCells q (.slice da q.data.length dc)) 137))
  have S1 := hide ((Str.refl w).alloc (.cells (respCells q (.slice da q.data.length dc)) 137))
  have HD := hide hda
  have q3 : (w.alloc (.cells (respCells q (.slice da q.data.length dc)) 137)).cell? ⟨p, 3, Option.none⟩ = some (.int .i64 (s.phase : Int)) := cell_of_row _ p 3 _ _ _ (on_blk_mul H1.out)
  have hb := heap_alloc_new w (.cells (respCells q (.slice da q.data.length dc)) 137)
  have b0 : (w.alloc (.cells (respCells q (.slice da q.data.length dc)) 137)).cell? ⟨w.heap.size, 0, Option.none⟩ = some (vb q.op) := cell_of_row _ _ 0 _ _ _ hb
  have b1 : (w.alloc (.cells (respCells q (.slice da q.data.length dc)) 137)).cell? ⟨w.heap.size, 1, Option.none⟩ = some (vb q.result) := cell_of_row _ _ 1 _ _ _ hb
  have b2 : (w.alloc (.cells (respCells q (.slice da q.data.length dc)) 137)).cell? ⟨w.heap.size, 2, Option.none⟩ = some (.slice da q.data.length dc) := cell_of_row _ _ 2 _ _ _ hb
  have M2 := hide (fun (X : World) (hX : Stay (w.alloc (.cells (respCells q (.slice da q.data.length dc)) 137)) X) => stay_cell b2 hX)
  have hph := ok.phase
  clear hdv
  by_cases hres : q.result = 1
  case neg =>
    have r1 : ((q.result.toNat : Int) != 1) = true := by
      have : q.result.toNat ≠ 1 := fun h => hres (UInt8.toNat_inj.1 h)
      simp only [bne_iff_ne, ne_eq]; omega
    by_cases hp : s.phase = 5
    · have p5n : ((s.phase : Int) != 5) = false := by rw [hp]; rfl
      have hA : s.answer img q.op q.result q.data = s := by unfold US.answer; simp [hres, hp]
      rw [hA]
      clear hA
      clear h hb hda
      refine id ?_
      try (have Hlen := hide hlen; clear hlen)
      try clear hp
      try clear ho
      go_enter Try.func76, Try.ntmps76
      go_wp2_with fail
      exact bodyPost_ret (v := .tuple #[]) (by simp [results, Try.results76, go_sem]) rfl ⟨⟨_, rfl⟩, H1.out, S1.out⟩
    · have p5n : ((s.phase : Int) != 5) = true := by simp only [bne_iff_ne, ne_eq]; omega
      have hA : s.answer img q.op q.result q.data = s.goTo 0 := by unfold US.answer; simp [hres, hp]
      rw [hA]
      clear hA
      have H9 := H1
      have S9 := S1
      clear h hb hda
      refine id ?_
      try (have Hlen := hide hlen; clear hlen)
      try clear hp
      try clear ho
      go_enter Try.func76, Try.ntmps76
      go_wp2_with fail
      refine (goTo_any p iv (.slice (some ⟨mg, mo, Option.none⟩) img.length mc) dp s 0 F _ H9.out).mono ?_
      rintro e W9 ⟨⟨v, rfl⟩, h9, hs9⟩
      have HE := hide h9
      have SE := hide (S9.out.trans hs9)
      clear h9 hs9
      go_wp2_with fail
      refine bodyPost_ret (v := .tuple #[]) (by simp [results, Try.results76, go_sem]) rfl ⟨⟨_, rfl⟩, ?_, SE.out⟩
      exact HE.out
  case pos =>
    have r1 : ((q.result.toNat : Int) != 1) = false := by rw [hres]; rfl
    rcases (show s.phase = 0 ∨ s.phase = 1 ∨ s.phase = 2 ∨ s.phase = 3 ∨ s.phase = 4 ∨ s.phase = 5 by omega) with hp | hp | hp | hp | hp | hp
    · have p0 : ((s.phase : Int) == 0) = true := by rw [hp]; rfl
      have p1 : ((s.phase : Int) == 1) = false := by rw [hp]; rfl
      have p2 : ((s.phase : Int) == 2) = false := by rw [hp]; rfl
      have p3 : ((s.phase : Int) == 3) = false := by rw [hp]; rfl
      have p4 : ((s.phase : Int) == 4) = false := by rw [hp]; rfl
      have p5 : ((s.phase : Int) == 5) = false := by rw [hp]; rfl
      have p5n : ((s.phase : Int) != 5) = true := by rw [hp]; rfl
      by_cases ho : q.op = 6
      · have o6 : ((q.op.toNat : Int) == 6) = true := by rw [ho]; rfl
        have hA : s.answer img q.op q.result q.data = s.goTo 1 := by unfold US.answer; simp [hres, hp, ho]
        rw [hA]
        clear hA
        have H9 := H1
        have S9 := S1
        clear h hb hda
        refine id ?_
        try (have Hlen := hide hlen; clear hlen)
        try clear hp
        try clear ho
        go_enter Try.func76, Try.ntmps76
        go_wp2_with fail
        refine (goTo_any p iv (.slice (some ⟨mg, mo, Option.none⟩) img.length mc) dp s 1 F _ H9.out).mono ?_
        rintro e W9 ⟨⟨v, rfl⟩, h9, hs9⟩
        have HE := hide h9
        have SE := hide (S9.out.trans hs9)
        clear h9 hs9
        go_wp2_with fail
        go_end0
        refine ⟨⟨_, rfl⟩, ?_, SE.out⟩
        exact HE.out
      · have o6 : ((q.op.toNat : Int) == 6) = false := by
          have : q.op.toNat ≠ 6 := fun h => ho (UInt8.toNat_inj.1 h)
          simp only [beq_eq_false_iff_ne, ne_eq]; omega
        have hA : s.answer img q.op q.result q.data = s := by unfold US.answer; simp [hres, hp, ho]
        rw [hA]
        clear hA
        clear h hb hda
        refine id ?_
        try (have Hlen := hide hlen; clear hlen)
        try clear hp
        try clear ho
        go_enter Try.func76, Try.ntmps76
        go_wp2_with fail
        go_end0
        exact ⟨⟨_, rfl⟩, H1.out, S1.out⟩
    · have p0 : ((s.phase : Int) == 0) = false := by rw [hp]; rfl
      have p1 : ((s.phase : Int) == 1) = true := by rw [hp]; rfl
      have p2 : ((s.phase : Int) == 2) = false := by rw [hp]; rfl
      have p3 : ((s.phase : Int) == 3) = false := by rw [hp]; rfl
      have p4 : ((s.phase : Int) == 4) = false := by rw [hp]; rfl
      have p5 : ((s.phase : Int) == 5) = false := by rw [hp]; rfl
      have p5n : ((s.phase : Int) != 5) = true := by rw [hp]; rfl
      by_cases ho : q.op = 4
      · have o4 : ((q.op.toNat : Int) == 4) = true := by rw [ho]; rfl
        have hA : s.answer img q.op q.result q.data = s.goTo 2 := by unfold US.answer; simp [hres, hp, ho]
        rw [hA]
        clear hA
        have H9 := H1
        have S9 := S1
        clear h hb hda
        refine id ?_
        try (have Hlen := hide hlen; clear hlen)
        try clear hp
        try clear ho
        go_enter Try.func76, Try.ntmps76
        go_wp2_with fail
        refine (goTo_any p iv (.slice (some ⟨mg, mo, Option.none⟩) img.length mc) dp s 2 F _ H9.out).mono ?_
        rintro e W9 ⟨⟨v, rfl⟩, h9, hs9⟩
        have HE := hide h9
        have SE := hide (S9.out.trans hs9)
        clear h9 hs9
        go_wp2_with fail
        go_end0
        refine ⟨⟨_, rfl⟩, ?_, SE.out⟩
        exact HE.out
      · have o4 : ((q.op.toNat : Int) == 4) = false := by
          have : q.op.toNat ≠ 4 := fun h => ho (UInt8.toNat_inj.1 h)
          simp only [beq_eq_false_iff_ne, ne_eq]; omega
        have hA : s.answer img q.op q.result q.data = s := by unfold US.answer; simp [hres, hp, ho]
        rw [hA]
        clear hA
        clear h hb hda
        refine id ?_
        try (have Hlen := hide hlen; clear hlen)
        try clear hp
        try clear ho
        go_enter Try.func76, Try.ntmps76
        go_wp2_with fail
        go_end0
        exact ⟨⟨_, rfl⟩, H1.out, S1.out⟩
    · have p0 : ((s.phase : Int) == 0) = false := by rw [hp]; rfl
      have p1 : ((s.phase : Int) == 1) = false := by rw [hp]; rfl
      have p2 : ((s.phase : Int) == 2) = true := by rw [hp]; rfl
      have p3 : ((s.phase : Int) == 3) = false := by rw [hp]; rfl
      have p4 : ((s.phase : Int) == 4) = false := by rw [hp]; rfl
      have p5 : ((s.phase : Int) == 5) = false := by rw [hp]; rfl
      have p5n : ((s.phase : Int) != 5) = true := by rw [hp]; rfl
      by_cases ho : q.op = 6
      · by_cases hlen : q.data.length = 12
        · have o6 : ((q.op.toNat : Int) == 6) = true := by rw [ho]; rfl
          have hlI : ((q.data.length : Int) == 12) = true := by rw [hlen]; rfl
          have hA : s.answer img q.op q.result q.data = (if img.length ≤ numS q.data 4 4 then s.goTo 5 else ({ s with from' := numS q.data 4 4 / 1024 * 1024, sum := numS q.data 8 4 } : US).goTo 3) := by unfold US.answer; simp [hres, hp, ho, hlen]
          rw [hA]
          clear hA
          obtain ⟨se, hse⟩ : ∃ x : US, x = (if img.length ≤ numS q.data 4 4 then s.goTo 5 else ({ s with from' := numS q.data 4 4 / 1024 * 1024, sum := numS q.data 8 4 } : US).goTo 3) := ⟨_, rfl⟩
          rw [← hse]
          have Hse := hide hse
          clear hse
          clear h hb hda
          refine id ?_
          try (have Hlen := hide hlen; clear hlen)
          try clear hp
          try clear ho
          go_enter Try.func76, Try.ntmps76
          go_wp2_with fail
          refine wp_region_tail 7 [isV (.pointer (some ⟨p, 0, Option.none⟩)), isV (.pointer (some ⟨w.heap.size, 2, Option.none⟩)), isV (.slice da q.data.length dc), isV (u32v (numS q.data 4 4)), isV (.pointer (some ⟨w.heap.size, 2, Option.none⟩)), isV (.slice da q.data.length dc), isV (u32v (numS q.data 8 4))]
            (by simp only [List.take_succ_cons, List.take_zero]; rfl) (by simp only [List.drop_succ_cons, List.drop_zero]; rfl) (by kernel_rfl) (by kernel_rfl) (by kernel_rfl) (by decide) rfl ?keep ?todo ?rest
          case keep => exact ⟨Keep.isV _, Keep.isV _, Keep.isV _, Keep.isV _, Keep.isV _, Keep.isV _, Keep.isV _, trivial⟩
          case todo =>
            refine ⟨?_, ?_, ?_, ?_, ?_, ?_, ?_, trivial⟩
            · intro ev X hT hb hk hf
              have e0 : ev (.tmp 0) = .pointer (some ⟨p, 0, Option.none⟩) := hk.1
              exact OpOk.move rfl e0 ⟨rfl, Stay.refl _⟩
            · intro ev X hT hb hk hf
              have e0 : ev (.tmp 3) = .pointer (some ⟨w.heap.size, 0, Option.none⟩) := hk.1
              exact OpOk.run (v := .pointer (some ⟨w.heap.size, 2, Option.none⟩)) (W' := X) (by simp [execOp, e0, hb.1, hur, go_sem]) ⟨rfl, Stay.refl _⟩
            · intro ev X hT hb hk hf
              have e0 : ev (.tmp 58) = .pointer (some ⟨w.heap.size, 2, Option.none⟩) := hf.1
              have cW := M2.out X hT
              exact OpOk.run (v := .slice da q.data.length dc) (W' := X) (by simp [execOp, e0, cW, go_sem]) ⟨rfl, Stay.refl _⟩
            · intro ev X hT hb hk hf
              have e0 : ev (.tmp 59) = .slice da q.data.length dc := hf.1
              refine OpOk.enters (f := 105) (args := #[.slice da q.data.length dc, .int .i64 4]) (W' := X) (by simp [execOp, resolve, invoke, e0, hb.1, hb.2.1, go_sem]) ((unumber_any (.slice da q.data.length dc) q.data 4 X (HD.out.below hT) (by have := Hlen.out; omega) (by omega)).mono ?_)
              rintro e X2 ⟨rfl, h2⟩
              exact ⟨_, rfl, rfl, h2⟩
            · intro ev X hT hb hk hf
              have e0 : ev (.tmp 3) = .pointer (some ⟨w.heap.size, 0, Option.none⟩) := hk.1
              exact OpOk.run (v := .pointer (some ⟨w.heap.size, 2, Option.none⟩)) (W' := X) (by simp [execOp, e0, hb.1, hur, go_sem]) ⟨rfl, Stay.refl _⟩
            · intro ev X hT hb hk hf
              have e0 : ev (.tmp 61) = .pointer (some ⟨w.heap.size, 2, Option.none⟩) := hf.1
              have cW := M2.out X hT
              exact OpOk.run (v := .slice da q.data.length dc) (W' := X) (by simp [execOp, e0, cW, go_sem]) ⟨rfl, Stay.refl _⟩
            · intro ev X hT hb hk hf
              have e0 : ev (.tmp 62) = .slice da q.data.length dc := hf.1
              refine OpOk.enters (f := 105) (args := #[.slice da q.data.length dc, .int .i64 8]) (W' := X) (by simp [execOp, resolve, invoke, e0, hb.1, hb.2.1, go_sem]) ((unumber_any (.slice da q.data.length dc) q.data 8 X (HD.out.below hT) (by have := Hlen.out; omega) (by omega)).mono ?_)
              rintro e X2 ⟨rfl, h2⟩
              exact ⟨_, rfl, rfl, h2⟩
          case rest =>
            intro X hT
            rintro _ rfl _ rfl _ rfl _ rfl _ rfl _ rfl _ rfl
            have H2 := hide (H1.out.below hT)
            have S2 := hide (S1.out.trans (Str.below hT))
            clear hT
            go_wp2
            refine Rest.done ?_
            go_wp2_with fail
            refine (ulooked_any p iv dp s mg mo mc img hl hmc F X H2.out (numS q.data 4 4) (numS q.data 8 4) (numS_lt _ _ _) (numS_lt _ _ _)).mono ?_
            rintro e W9 ⟨⟨v, rfl⟩, h9, hs9⟩
            have HE := hide h9
            have SE := hide (S2.out.trans hs9)
            clear h9 hs9
            go_wp2_with fail
            go_end0
            exact ⟨⟨_, rfl⟩, (by rw [Hse.out]; exact HE.out), SE.out⟩
        · have o6 : ((q.op.toNat : Int) == 6) = true := by rw [ho]; rfl
          have hlI : ((q.data.length : Int) == 12) = false := by simp only [beq_eq_false_iff_ne, ne_eq]; omega
          have hA : s.answer img q.op q.result q.data = s := by unfold US.answer; simp [hres, hp, ho, hlen]
          rw [hA]
          clear hA
          clear h hb hda
          refine id ?_
          try (have Hlen := hide hlen; clear hlen)
          try clear hp
          try clear ho
          go_enter Try.func76, Try.ntmps76
          go_wp2_with fail
          go_end0
          exact ⟨⟨_, rfl⟩, H1.out, S1.out⟩
      · have o6 : ((q.op.toNat : Int) == 6) = false := by
          have : q.op.toNat ≠ 6 := fun h => ho (UInt8.toNat_inj.1 h)
          simp only [beq_eq_false_iff_ne, ne_eq]; omega
        have hA : s.answer img q.op q.result q.data = s := by unfold US.answer; simp [hres, hp, ho]
        rw [hA]
        clear hA
        clear h hb hda
        refine id ?_
        try (have Hlen := hide hlen; clear hlen)
        try clear hp
        try clear ho
        go_enter Try.func76, Try.ntmps76
        go_wp2_with fail
        go_end0
        exact ⟨⟨_, rfl⟩, H1.out, S1.out⟩
    · have p0 : ((s.phase : Int) == 0) = false := by rw [hp]; rfl
      have p1 : ((s.phase : Int) == 1) = false := by rw [hp]; rfl
      have p2 : ((s.phase : Int) == 2) = false := by rw [hp]; rfl
      have p3 : ((s.phase : Int) == 3) = true := by rw [hp]; rfl
      have p4 : ((s.phase : Int) == 4) = false := by rw [hp]; rfl
      have p5 : ((s.phase : Int) == 5) = false := by rw [hp]; rfl
      have p5n : ((s.phase : Int) != 5) = true := by rw [hp]; rfl
      by_cases ho : q.op = 3
      · by_cases hlen : q.data.length = 8
        · have o3 : ((q.op.toNat : Int) == 3) = true := by rw [ho]; rfl
          have hlI : ((q.data.length : Int) == 8) = true := by rw [hlen]; rfl
          have hA : s.answer img q.op q.result q.data = (if numS q.data 0 4 = s.from' + (objU img s.from').length ∧ numS q.data 4 4 = crcUpd s.sum (objU img s.from') then s.goTo 4 else s.goTo 0) := by unfold US.answer; simp [hres, hp, ho, hlen]
          rw [hA]
          clear hA
          obtain ⟨se, hse⟩ : ∃ x : US, x = (if numS q.data 0 4 = s.from' + (objU img s.from').length ∧ numS q.data 4 4 = crcUpd s.sum (objU img s.from') then s.goTo 4 else s.goTo 0) := ⟨_, rfl⟩
          rw [← hse]
          have Hse := hide hse
          clear hse
          have hfr := ok.here (.inl hp)
          clear h hb hda
          refine id ?_
          try (have Hlen := hide hlen; clear hlen)
          try clear hp
          try clear ho
          go_enter Try.func76, Try.ntmps76
          go_wp2_with fail
          refine wp_region_tail 7 [isV (.pointer (some ⟨p, 0, Option.none⟩)), isV (.pointer (some ⟨w.heap.size, 2, Option.none⟩)), isV (.slice da q.data.length dc), isV (u32v (numS q.data 0 4)), isV (.pointer (some ⟨w.heap.size, 2, Option.none⟩)), isV (.slice da q.data.length dc), isV (u32v (numS q.data 4 4))]
            (by simp only [List.take_succ_cons, List.take_zero]; rfl) (by simp only [List.drop_succ_cons, List.drop_zero]; rfl) (by kernel_rfl) (by kernel_rfl) (by kernel_rfl) (by decide) rfl ?keep ?todo ?rest
          case keep => exact ⟨Keep.isV _, Keep.isV _, Keep.isV _, Keep.isV _, Keep.isV _, Keep.isV _, Keep.isV _, trivial⟩
          case todo =>
            refine ⟨?_, ?_, ?_, ?_, ?_, ?_, ?_, trivial⟩
            · intro ev X hT hb hk hf
              have e0 : ev (.tmp 0) = .pointer (some ⟨p, 0, Option.none⟩) := hk.1
              exact OpOk.move rfl e0 ⟨rfl, Stay.refl _⟩
            · intro ev X hT hb hk hf
              have e0 : ev (.tmp 3) = .pointer (some ⟨w.heap.size, 0, Option.none⟩) := hk.1
              exact OpOk.run (v := .pointer (some ⟨w.heap.size, 2, Option.none⟩)) (W' := X) (by simp [execOp, e0, hb.1, hur, go_sem]) ⟨rfl, Stay.refl _⟩
            · intro ev X hT hb hk hf
              have e0 : ev (.tmp 83) = .pointer (some ⟨w.heap.size, 2, Option.none⟩) := hf.1
              have cW := M2.out X hT
              exact OpOk.run (v := .slice da q.data.length dc) (W' := X) (by simp [execOp, e0, cW, go_sem]) ⟨rfl, Stay.refl _⟩
            · intro ev X hT hb hk hf
              have e0 : ev (.tmp 84) = .slice da q.data.length dc := hf.1
              refine OpOk.enters (f := 105) (args := #[.slice da q.data.length dc, .int .i64 0]) (W' := X) (by simp [execOp, resolve, invoke, e0, hb.1, hb.2.1, go_sem]) ((unumber_any (.slice da q.data.length dc) q.data 0 X (HD.out.below hT) (by have := Hlen.out; omega) (by omega)).mono ?_)
              rintro e X2 ⟨rfl, h2⟩
              exact ⟨_, rfl, rfl, h2⟩
            · intro ev X hT hb hk hf
              have e0 : ev (.tmp 3) = .pointer (some ⟨w.heap.size, 0, Option.none⟩) := hk.1
              exact OpOk.run (v := .pointer (some ⟨w.heap.size, 2, Option.none⟩)) (W' := X) (by simp [execOp, e0, hb.1, hur, go_sem]) ⟨rfl, Stay.refl _⟩
            · intro ev X hT hb hk hf
              have e0 : ev (.tmp 86) = .pointer (some ⟨w.heap.size, 2, Option.none⟩) := hf.1
              have cW := M2.out X hT
              exact OpOk.run (v := .slice da q.data.length dc) (W' := X) (by simp [execOp, e0, cW, go_sem]) ⟨rfl, Stay.refl _⟩
            · intro ev X hT hb hk hf
              have e0 : ev (.tmp 87) = .slice da q.data.length dc := hf.1
              refine OpOk.enters (f := 105) (args := #[.slice da q.data.length dc, .int .i64 4]) (W' := X) (by simp [execOp, resolve, invoke, e0, hb.1, hb.2.1, go_sem]) ((unumber_any (.slice da q.data.length dc) q.data 4 X (HD.out.below hT) (by have := Hlen.out; omega) (by omega)).mono ?_)
              rintro e X2 ⟨rfl, h2⟩
              exact ⟨_, rfl, rfl, h2⟩
          case rest =>
            intro X hT
            rintro _ rfl _ rfl _ rfl _ rfl _ rfl _ rfl _ rfl
            have H2 := hide (H1.out.below hT)
            have S2 := hide (S1.out.trans (Str.below hT))
            clear hT
            go_wp2
            refine Rest.done ?_
            go_wp2_with fail
            refine (ufed_any p iv dp s mg mo mc img hl hmc F X H2.out (numS q.data 0 4) (numS q.data 4 4) (numS_lt _ _ _) (numS_lt _ _ _) ok.sum hmv hfr).mono ?_
            rintro e W9 ⟨⟨v, rfl⟩, h9, hs9⟩
            have HE := hide h9
            have SE := hide (S2.out.trans hs9)
            clear h9 hs9
            go_wp2_with fail
            go_end0
            exact ⟨⟨_, rfl⟩, (by rw [Hse.out]; exact HE.out), SE.out⟩
        · have o3 : ((q.op.toNat : Int) == 3) = true := by rw [ho]; rfl
          have hlI : ((q.data.length : Int) == 8) = false := by simp only [beq_eq_false_iff_ne, ne_eq]; omega
          have hA : s.answer img q.op q.result q.data = s := by unfold US.answer; simp [hres, hp, ho, hlen]
          rw [hA]
          clear hA
          clear h hb hda
          refine id ?_
          try (have Hlen := hide hlen; clear hlen)
          try clear hp
          try clear ho
          go_enter Try.func76, Try.ntmps76
          go_wp2_with fail
          go_end0
          exact ⟨⟨_, rfl⟩, H1.out, S1.out⟩
      · have o3 : ((q.op.toNat : Int) == 3) = false := by
          have : q.op.toNat ≠ 3 := fun h => ho (UInt8.toNat_inj.1 h)
          simp only [beq_eq_false_iff_ne, ne_eq]; omega
        have hA : s.answer img q.op q.result q.data = s := by unfold US.answer; simp [hres, hp, ho]
        rw [hA]
        clear hA
        clear h hb hda
        refine id ?_
        try (have Hlen := hide hlen; clear hlen)
        try clear hp
        try clear ho
        go_enter Try.func76, Try.ntmps76
        go_wp2_with fail
        go_end0
        exact ⟨⟨_, rfl⟩, H1.out, S1.out⟩
    · have p0 : ((s.phase : Int) == 0) = false := by rw [hp]; rfl
      have p1 : ((s.phase : Int) == 1) = false := by rw [hp]; rfl
      have p2 : ((s.phase : Int) == 2) = false := by rw [hp]; rfl
      have p3 : ((s.phase : Int) == 3) = false := by rw [hp]; rfl
      have p4 : ((s.phase : Int) == 4) = true := by rw [hp]; rfl
      have p5 : ((s.phase : Int) == 5) = false := by rw [hp]; rfl
      have p5n : ((s.phase : Int) != 5) = true := by rw [hp]; rfl
      by_cases ho : q.op = 4
      · have o4 : ((q.op.toNat : Int) == 4) = true := by rw [ho]; rfl
        have hA : s.answer img q.op q.result q.data = (if img.length ≤ s.from' + 1024 then ({ s with from' := s.from' + 1024, sum := crcUpd s.sum (objU img s.from') } : US).goTo 5 else ({ s with from' := s.from' + 1024, sum := crcUpd s.sum (objU img s.from') } : US).goTo 3) := by unfold US.answer; simp [hres, hp, ho]
        rw [hA]
        clear hA
        obtain ⟨se, hse⟩ : ∃ x : US, x = (if img.length ≤ s.from' + 1024 then ({ s with from' := s.from' + 1024, sum := crcUpd s.sum (objU img s.from') } : US).goTo 5 else ({ s with from' := s.from' + 1024, sum := crcUpd s.sum (objU img s.from') } : US).goTo 3) := ⟨_, rfl⟩
        rw [← hse]
        have Hse := hide hse
        clear hse
        have hfr := ok.here (.inr hp)
        clear h hb hda
        refine id ?_
        try (have Hlen := hide hlen; clear hlen)
        try clear hp
        try clear ho
        go_enter Try.func76, Try.ntmps76
        go_wp2_with fail
        refine (ucommitted_any p iv dp s mg mo mc img hl hmc F _ H1.out ok.sum hmv hfr).mono ?_
        rintro e W9 ⟨⟨v, rfl⟩, h9, hs9⟩
        have HE := hide h9
        have SE := hide (S1.out.trans hs9)
        clear h9 hs9
        go_wp2_with fail
        go_end0
        exact ⟨⟨_, rfl⟩, (by rw [Hse.out]; exact HE.out), SE.out⟩
      · have o4 : ((q.op.toNat : Int) == 4) = false := by
          have : q.op.toNat ≠ 4 := fun h => ho (UInt8.toNat_inj.1 h)
          simp only [beq_eq_false_iff_ne, ne_eq]; omega
        have hA : s.answer img q.op q.result q.data = s := by unfold US.answer; simp [hres, hp, ho]
        rw [hA]
        clear hA
        clear h hb hda
        refine id ?_
        try (have Hlen := hide hlen; clear hlen)
        try clear hp
        try clear ho
        go_enter Try.func76, Try.ntmps76
        go_wp2_with fail
        go_end0
        exact ⟨⟨_, rfl⟩, H1.out, S1.out⟩
    · have p0 : ((s.phase : Int) == 0) = false := by rw [hp]; rfl
      have p1 : ((s.phase : Int) == 1) = false := by rw [hp]; rfl
      have p2 : ((s.phase : Int) == 2) = false := by rw [hp]; rfl
      have p3 : ((s.phase : Int) == 3) = false := by rw [hp]; rfl
      have p4 : ((s.phase : Int) == 4) = false := by rw [hp]; rfl
      have p5 : ((s.phase : Int) == 5) = true := by rw [hp]; rfl
      have p5n : ((s.phase : Int) != 5) = false := by rw [hp]; rfl
      have hA : s.answer img q.op q.result q.data = s := by unfold US.answer; simp [hres, hp]
      rw [hA]
      clear hA
      clear h hb hda
      refine id ?_
      try (have Hlen := hide hlen; clear hlen)
      try clear hp
      try clear ho
      go_enter Try.func76, Try.ntmps76
      go_wp2_with fail
      go_end0
      exact ⟨⟨_, rfl⟩, H1.out, S1.out⟩
end Go.Proofs.Ytjmgnfpcieofkaa
