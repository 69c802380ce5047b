/- The law UploaderActs: whatever is heard, and however long nothing is: what is sent is what the document says. -/
import Derived.Test.YtjmgnfpcieofkaaUB5
namespace Go.Proofs.Ytjmgnfpcieofkaa
open Go.ChangeShapes Go.WideShapes Go.ChangeAt Go.RowKit
set_option linter.unusedVariables false
set_option linter.unusedSimpArgs false

theorem um5000 (t : Int) : ∃ k : Nat, k < 5000 ∧ (IntKind.u64.wrap t).tmod 5000 = (k : Int) := by
  have h0 : 0 ≤ IntKind.u64.wrap t := by rw [IntKind.wrap_u64]; omega
  refine ⟨((IntKind.u64.wrap t) % 5000).toNat, by omega, ?_⟩
  rw [Int.tmod_eq_emod_of_nonneg h0]
  omega
set_option maxRecDepth 100000 in
set_option maxHeartbeats 4000000 in
theorem upnew_bad (a1 a2 : Option Addr) (n1 c1 n2 c2 : Nat) (w : World) (h : n1 = 0 ∨ 128 < n1 ∨ n2 = 0 ∨ 4096 < n2) :
    Calls Try.prog 35 #[.slice a1 n1 c1, .slice a2 n2 c2] w fun e w' => e = .returned (.tuple #[.pointer Option.none, .int .i64 1]) ∧ Below w.heap.size w w' := by
  by_cases k1 : (n1 : Int) < 1
  · go_enter Try.func35, Try.ntmps35
    go_wp2_with fail
    go_ret2
    exact ⟨rfl, Below.refl _ _⟩
  by_cases k2 : 128 < (n1 : Int)
  · go_enter Try.func35, Try.ntmps35
    go_wp2_with fail
    go_ret2
    exact ⟨rfl, Below.refl _ _⟩
  by_cases k3 : (n2 : Int) < 1
  · go_enter Try.func35, Try.ntmps35
    go_wp2_with fail
    go_ret2
    exact ⟨rfl, Below.refl _ _⟩
  have k4 : 4096 < (n2 : Int) := by omega
  go_enter Try.func35, Try.ntmps35
  go_wp2_with fail
  go_ret2
  exact ⟨rfl, Below.refl _ _⟩
theorem dsOk0 : (⟨[], 70, false, false⟩ : DsS).Ok := ⟨by decide, by decide⟩
theorem mU_build (a1 a2 : Option Addr) (n1 c1 n2 c2 : Nat) (w : World) : (Instr.build 84 #[(0, .slice a1 n1 c1), (1, .slice a2 n2 c2)]).run Try.prog w = .ok (.agg (mC22 (.slice a1 n1 c1) (.slice a2 n2 c2) nilV US.new)) w := by kernel_rfl
theorem wpList_build_mU {ops : Array Oper} {rest : List Oper} {o : Oper} {a : Act} {w : World} {Q : Exit → Act → World → Prop} (hgd : o.guard = Option.none) (x0 x1 : Operand) (ho : o.op = .build 84 #[(0, x0), (1, x1)]) (a1 a2 : Option Addr) (n1 c1 n2 c2 : Nat)
    (h0 : a.eval x0 = .slice a1 n1 c1) (h1 : a.eval x1 = .slice a2 n2 c2) (hk : wpList Try.prog ops Q rest (a.put o.dst (.agg (mC22 (.slice a1 n1 c1) (.slice a2 n2 c2) nilV US.new))) w) : wpList Try.prog ops Q (o :: rest) a w := by
  have hr : (execOp a.eval o).run Try.prog w = .ok (.value (.agg (mC22 (.slice a1 n1 c1) (.slice a2 n2 c2) nilV US.new))) w := by
    unfold execOp
    rw [ho]
    simp only [List.map_toArray, List.map_cons, List.map_nil, h0, h1]
    rw [Sem.run_bind, mU_build]
    rfl
  exact wpList_plain hgd fun _ hK => by
    unfold Oper.wp
    simp only [hr]
    exact hK _ _ hk

set_option maxRecDepth 100000 in
set_option maxHeartbeats 32000000 in
theorem walk_UploaderActs (w : World) (v0 : Value) (init : List UInt8) (b0 : IsBytes w v0 init) (v1 : Value) (img : List UInt8) (b1 : IsBytes w v1 img)
    (v2 : Value) (L : List AcU) (b2 : IsRowsC 5 auC w v2 L) (g2 : ∀ y ∈ L, y.Good w) :
    Calls Try.prog 7 #[v0, v1, v2] w fun e w' => e = .returned (.bool true) ∧ Below w.heap.size w w' := by
  have hua := Try.underlying86
  have hum := Try.underlying84
  have hui := Try.underlying3
  have hsu := Try.underlying33
  have hsb := Try.underlying5
  have hst := Try.underlying9
  have hz := au_hz
  have hlive := lives22_any w
  have HI0 := hide b0
  have HM0 := hide b1
  obtain ⟨a0, c0, rfl, hc0, hm0, _, _⟩ := b0
  obtain ⟨a1, c1, rfl, hc1, hm1, _, _⟩ := b1
  obtain ⟨la, lc, rfl, hlc, hlm, hcell⟩ := b2
  have B0 := hide (show IsRowsC 5 auC w (.slice la L.length lc) L from ⟨_, _, rfl, hlc, hlm, hcell⟩)
  have C0 := hide hcell
  have G0 := hide g2
  clear hcell g2
  unfold maxLen at hlm hm0 hm1
  go_enter Try.func7, Try.ntmps7
  go_wp2_with fail
  refine hlive.mono ?_
  clear hlive
  rintro e w1 ⟨rfl, hb⟩
  by_cases hL : 60 < L.length
  · have hLI : 60 < (L.length : Int) := by omega
    have hl2 := lives22_any w1
    have HB := hide hb
    clear hb
    go_wp2_with fail
    refine hl2.mono ?_
    clear hl2
    rintro e w2 ⟨rfl, hb2⟩
    have HB2 := hide (HB.out.trans (hb2.mono HB.out.size))
    clear hb2
    go_wp2_with fail
    go_ret
    exact ⟨rfl, HB2.out⟩
  by_cases h200 : 200 < init.length
  · have hLI : 200 < (init.length : Int) := by omega
    have hl2 := lives22_any w1
    have HB := hide hb
    clear hb
    go_wp2_with fail
    refine hl2.mono ?_
    clear hl2
    rintro e w2 ⟨rfl, hb2⟩
    have HB2 := hide (HB.out.trans (hb2.mono HB.out.size))
    clear hb2
    go_wp2_with fail
    go_ret
    exact ⟨rfl, HB2.out⟩
  by_cases h5000 : 5000 < img.length
  · have hLI : 5000 < (img.length : Int) := by omega
    have hl2 := lives22_any w1
    have HB := hide hb
    clear hb
    go_wp2_with fail
    refine hl2.mono ?_
    clear hl2
    rintro e w2 ⟨rfl, hb2⟩
    have HB2 := hide (HB.out.trans (hb2.mono HB.out.size))
    clear hb2
    go_wp2_with fail
    go_ret
    exact ⟨rfl, HB2.out⟩
  have HB := hide hb
  clear hb
  by_cases h9 : init.length = 0
  · obtain rfl : init = [] := List.eq_nil_of_length_eq_zero h9
    clear h9 h200
    simp only [List.length_nil] at *
    go_wp2_with fail
    refine (upnew_bad _ _ _ _ _ _ w1 (.inl rfl)).mono ?_
    rintro e w2 ⟨rfl, hb2⟩
    have HB2 := hide (HB.out.trans (hb2.mono HB.out.size))
    clear hb2
    go_wp2_with fail
    go_ret
    exact ⟨rfl, HB2.out⟩
  have h9I : ¬ (init.length : Int) = 0 := by omega
  have h9J : ((init.length : Int) == 0) = false := by simpa using h9
  by_cases h9 : 128 < init.length
  · have hLI : 128 < (init.length : Int) := by omega
    go_wp2_with fail
    refine (upnew_bad _ _ _ _ _ _ w1 (.inr (.inl h9))).mono ?_
    rintro e w2 ⟨rfl, hb2⟩
    have HB2 := hide (HB.out.trans (hb2.mono HB.out.size))
    clear hb2
    go_wp2_with fail
    go_ret
    exact ⟨rfl, HB2.out⟩
  by_cases h8 : img.length = 0
  · obtain rfl : img = [] := List.eq_nil_of_length_eq_zero h8
    clear h8 h5000
    simp only [List.length_nil] at *
    go_wp2_with fail
    refine (upnew_bad _ _ _ _ _ _ w1 (.inr (.inr (.inl rfl)))).mono ?_
    rintro e w2 ⟨rfl, hb2⟩
    have HB2 := hide (HB.out.trans (hb2.mono HB.out.size))
    clear hb2
    go_wp2_with fail
    go_ret
    exact ⟨rfl, HB2.out⟩
  have h8I : ¬ (img.length : Int) = 0 := by omega
  have h8J : ((img.length : Int) == 0) = false := by simpa using h8
  by_cases h9 : 4096 < img.length
  · have hLI : 4096 < (img.length : Int) := by omega
    go_wp2_with fail
    refine (upnew_bad _ _ _ _ _ _ w1 (.inr (.inr (.inr h9)))).mono ?_
    rintro e w2 ⟨rfl, hb2⟩
    have HB2 := hide (HB.out.trans (hb2.mono HB.out.size))
    clear hb2
    go_wp2_with fail
    go_ret
    exact ⟨rfl, HB2.out⟩
  obtain ⟨mg, mo, c9, he, _⟩ := HM0.out.at 0 (by omega)
  simp only [Value.slice.injEq] at he
  obtain ⟨rfl, -, -⟩ := he
  clear c9
  generalize c1 = mc at *
  have HS1 := hide (Str.below HB.out)
  have hE := upnewf_any _ _ init img w1 (HI0.out.below HB.out) (HM0.out.below HB.out) (by omega) (by omega) (by omega) (by omega)
  have HA1 := hide ((on_all w).below HB.out)
  go_wp2_with fail
  refine hE.mono ?_
  clear hE
  rintro e w2 ⟨u, iv, mv, dp, rfl, h2, hs2⟩
  have h2 : (blk u (.cells (uC iv mv dp US.new) 126 (0, 0)) * (Dec dp ⟨[], 70, false, false⟩ * (ownR iv init * (ownR mv img * all w)))).on w2 := by
    have h9 := h2
    rw [show ∀ A B C D E : SP, A * (B * (C * (D * E))) = (A * (B * (C * D))) * E from fun A B C D E => by ac_rfl] at h9 ⊢
    exact on_all_to h9 HA1.out
  have hmv := own_bytes h2.right.right.right
  have hiv := own_bytes h2.right.right
  obtain ⟨ug, uo, uc, rfl, _⟩ := hmv.at 0 (by omega)
  have hiS : ∃ ig io ic, iv = .slice (some ⟨ig, io, Option.none⟩) init.length ic ∧ init.length ≤ ic ∧ ic ≤ 9223372036854775807 := by
    obtain ⟨ig, io, ic, rfl, _⟩ := hiv.at 0 (by omega)
    obtain ⟨_, _, e, e1, e2, _⟩ := hiv
    simp only [Value.slice.injEq] at e
    obtain ⟨_, _, rfl⟩ := e
    exact ⟨_, _, _, rfl, e1, by unfold maxLen at e2; omega⟩
  have huc : img.length ≤ uc ∧ uc ≤ 9223372036854775807 := by
    obtain ⟨_, _, e, e1, e2, _⟩ := hmv
    simp only [Value.slice.injEq] at e
    obtain ⟨_, _, rfl⟩ := e
    exact ⟨e1, by unfold maxLen at e2; omega⟩
  have HiS := hide hiS
  have h3 := h2.alloc (.cells (mC22 (.slice a0 init.length c0) (.slice (some ⟨mg, mo, Option.none⟩) img.length mc) nilV US.new) 84)
  have H3 : Hid (((blk u (.cells (uC iv (.slice (some ⟨ug, uo, Option.none⟩) img.length uc) dp US.new) 126 (0, 0)) * (Dec dp ⟨[], 70, false, false⟩ * (blk w2.heap.size (.cells (mC22 (.slice a0 init.length c0) (.slice (some ⟨mg, mo, Option.none⟩) img.length mc) nilV US.new) 84 (0, 0)) * (RestS nilV [] * (ownR iv init * (ownR (.slice (some ⟨ug, uo, Option.none⟩) img.length uc) img * all w))))))).on (w2.alloc (.cells (mC22 (.slice a0 init.length c0) (.slice (some ⟨mg, mo, Option.none⟩) img.length mc) nilV US.new) 84))) := hide (by
    have h9 : (RestS nilV [] * (blk w2.heap.size (.cells (mC22 (.slice a0 init.length c0) (.slice (some ⟨mg, mo, Option.none⟩) img.length mc) nilV US.new) 84 (0, 0)) * _)).on _ := RestS.nil h3
    rw [show ∀ A B C D E : SP, A * (B * (C * (D * E))) = C * (D * (B * (A * E))) from fun A B C D E => by ac_rfl] at h9
    exact h9)
  have S3 := hide ((HS1.out.trans hs2).alloc (.cells (mC22 (.slice a0 init.length c0) (.slice (some ⟨mg, mo, Option.none⟩) img.length mc) nilV US.new) 84))
  clear h2 h3 hs2 hmv hiv hiS HA1 HS1 HB
  go_wp2_with (refine wpList_build_mU rfl _ _ rfl a0 (some ⟨mg, mo, Option.none⟩) init.length c0 img.length mc rfl rfl ?_)
  generalize w2.alloc (.cells (mC22 (.slice a0 init.length c0) (.slice (some ⟨mg, mo, Option.none⟩) img.length mc) nilV US.new) 84) = W3 at *
  generalize w2.heap.size = m at *
  have Hio := hide (show (US.new).Ok img from ⟨by decide, by decide, by decide, by decide, fun h => by rcases h with h | h <;> cases h⟩)
  go_loopw [70] (fun i wr => ∃ (j : Nat) (s : US) (dd : DsS) (rest : List UInt8) (rv : Value), j ≤ L.length ∧ i = .int .i64 j ∧ s.Ok img ∧ s.sends ≤ j ∧ dd.Ok ∧ dd = (run ⟨[], 70, false, false⟩ rest).2 ∧ rest.length ≤ 1000 * j ∧ ((blk u (.cells (uC iv (.slice (some ⟨ug, uo, Option.none⟩) img.length uc) dp s) 126 (0, 0)) * (Dec dp dd * (blk m (.cells (mC22 (.slice a0 init.length c0) (.slice (some ⟨mg, mo, Option.none⟩) img.length mc) rv s) 84 (0, 0)) * (RestS rv rest * (ownR iv init * (ownR (.slice (some ⟨ug, uo, Option.none⟩) img.length uc) img * all w))))))).on wr ∧ Str w wr) (fun i _ => L.length - (intOf i).toNat)
  case atStart => exact ⟨0, US.new, ⟨[], 70, false, false⟩, [], nilV, by omega, rfl, Hio.out, Nat.le_refl _, dsOk0, rfl, Nat.le_refl _, H3.out, S3.out⟩
  case round =>
    clear H3 S3 Hio
    obtain ⟨j, s, dd, rest, rv, hj, rfl, hok, hsn, hdd, hde, hrl, hw, hstr⟩ := hrel
    by_cases hjl : j < L.length
    · obtain ⟨y, hju⟩ : ∃ y, L[j]? = some y := ⟨_, List.getElem?_eq_getElem hjl⟩
      have hB := all_below hw.right.right.right.right.right.right hstr
      have hgu := G0.out _ (List.mem_of_getElem? hju)
      obtain ⟨b, off, rfl, _⟩ := C0.out _ _ hju
      have hcx := B0.out.cell hB j hju
      obtain ⟨yk, yo, yr, yn, yd, ydv⟩ := y
      obtain ⟨hy1, hy2, hy3⟩ := hgu
      simp only at hy1 hy2 hy3
      have HD := hide hy3
      obtain ⟨da, dc, rfl, hdc, hdm, _, _⟩ := hy3
      unfold maxLen at hdm
      have Hcx := hide hcx
      have h1 := hw.alloc (.cells (auC zeroAU) 86)
      have h5 := h1.setRow (auC ⟨yk, yo, yr, yn, yd, .slice da yd.length dc⟩)
      have gA := hide (on_blk_mul h1)
      have x0 : ((wr.alloc (.cells (auC zeroAU) 86)).setRow wr.heap.size (auC ⟨yk, yo, yr, yn, yd, .slice da yd.length dc⟩)).cell? ⟨wr.heap.size, 0, Option.none⟩ = some (vb yk) := cell_of_row _ _ 0 _ _ _ (on_blk_mul h5)
      have x1 : ((wr.alloc (.cells (auC zeroAU) 86)).setRow wr.heap.size (auC ⟨yk, yo, yr, yn, yd, .slice da yd.length dc⟩)).cell? ⟨wr.heap.size, 1, Option.none⟩ = some (vb yo) := cell_of_row _ _ 1 _ _ _ (on_blk_mul h5)
      have x2 : ((wr.alloc (.cells (auC zeroAU) 86)).setRow wr.heap.size (auC ⟨yk, yo, yr, yn, yd, .slice da yd.length dc⟩)).cell? ⟨wr.heap.size, 2, Option.none⟩ = some (vb yr) := cell_of_row _ _ 2 _ _ _ (on_blk_mul h5)
      have x3 : ((wr.alloc (.cells (auC zeroAU) 86)).setRow wr.heap.size (auC ⟨yk, yo, yr, yn, yd, .slice da yd.length dc⟩)).cell? ⟨wr.heap.size, 3, Option.none⟩ = some (.int .i64 yn) := cell_of_row _ _ 3 _ _ _ (on_blk_mul h5)
      have x4 : ((wr.alloc (.cells (auC zeroAU) 86)).setRow wr.heap.size (auC ⟨yk, yo, yr, yn, yd, .slice da yd.length dc⟩)).cell? ⟨wr.heap.size, 4, Option.none⟩ = some (.slice da yd.length dc) := cell_of_row _ _ 4 _ _ _ (on_blk_mul h5)
      have H6 := hide h5.right
      have S6 := hide ((hstr.alloc (.cells (auC zeroAU) 86)).setRow wr.heap.size (auC ⟨yk, yo, yr, yn, yd, .slice da yd.length dc⟩))
      have Hone := hide (au_one yk yo yr yn yd da yd.length dc)
      have Hsz := hide (au_info ⟨yk, yo, yr, yn, yd, .slice da yd.length dc⟩)
      have Hde := hide hde
      have Hju := hide hju
      clear hw hstr hB hcx h1 h5 hju hde
      have hstop : ∀ p : Prop, Hid p → p := fun _ h => h.out
      go_wp2_with (first
        | (refine wpList_load_part rfl _ _ rfl b (off + j * 5) rfl (auC ⟨yk, yo, yr, yn, yd, .slice da yd.length dc⟩) _ Hcx.out hua rfl Hsz.out ?_)
        | (refine wpList_store_row rfl _ _ _ rfl wr.heap.size (auC ⟨yk, yo, yr, yn, yd, .slice da yd.length dc⟩) rfl rfl _ _ gA.out Hsz.out rfl Hone.out ?_; refine hstop _ ?_))
      refine hide ?_
      clear hstop gA Hone Hcx Hsz
      generalize (wr.alloc (.cells (auC zeroAU) 86)).setRow wr.heap.size (auC ⟨yk, yo, yr, yn, yd, .slice da yd.length dc⟩) = W6 at *
      generalize wr.heap.size = g11 at *
      by_cases hd200 : 200 < yd.length
      · have hLI : 200 < (yd.length : Int) := by omega
        have hW6 := all_below H6.out.right.right.right.right.right.right S6.out
        go_wp2_with fail
        go_ret
        exact ⟨rfl, hW6⟩
      have hdI : decide ((200 : Int) < (yd.length : Int)) = false := by simp; omega
      obtain ⟨k, hk, hqk⟩ := um5000 yn
      have hkw : wrap64 (k : Int) = (k : Int) := IntWalk.wrap64_in _ (by omega)
      have hqq : wrap64 ((IntKind.u64.wrap yn).tmod 5000) = (k : Int) := by rw [hqk, hkw]
      clear hqk hkw
      have hk8 := UInt8.toNat_lt yk
      obtain ⟨kd, hkd, hk4⟩ : ∃ kd : Nat, kd < 5 ∧ ((yk.toNat : Nat) : Int).tmod 5 = (kd : Int) := ⟨yk.toNat % 5, Nat.mod_lt _ (by decide), by rw [Int.tmod_eq_emod_of_nonneg (by omega)]; omega⟩
      have Huc := hide huc
      have hsn2 : s.sends ≤ 100000 := by omega
      clear huc
      rcases (show kd = 0 ∨ kd = 1 ∨ kd = 2 ∨ kd = 3 ∨ kd = 4 by omega) with rfl | rfl | rfl | rfl | rfl
      · as_aux_lemma =>
          rw [show ((0 : Nat) : Int) = 0 from rfl] at hk4
          have HSu := hide (fun X hX => usend_any u iv dp s ug uo uc init img ⟨by omega, by omega⟩ (by omega) Huc.out.1 Huc.out.2 (blk m (.cells (mC22 (.slice a0 init.length c0) (.slice (some ⟨mg, mo, Option.none⟩) img.length mc) rv s) 84 (0, 0)) * (Dec dp dd * (RestS rv rest * (ownR iv init * (ownR (.slice (some ⟨ug, uo, Option.none⟩) img.length uc) img * all w))))) X hX HiS.out (fun W hW => own_bytes hW.right.right.right) (fun W hW => own_bytes hW.right.right.right.right) hok hsn2)
          have HSm := hide (fun v X hX => msend_any m (.slice a0 init.length c0) rv s mg mo mc init img (by omega) (by omega) hc1 (ownR v (s.out init img) * (blk u (.cells (uC iv (.slice (some ⟨ug, uo, Option.none⟩) img.length uc) dp s.send) 126 (0, 0)) * (Dec dp dd * (RestS rv rest * (ownR iv init * (ownR (.slice (some ⟨ug, uo, Option.none⟩) img.length uc) img * all w)))))) X hX (fun W hW => HI0.out.all hW.right.right.right.right.right.right) (fun W hW => HM0.out.all hW.right.right.right.right.right.right) hok hsn2)
          go_wp2_with fail
          refine Multi2.wp_region_multi [1, 4] [1, 4] [] [isV (ptrV u), (fun _ _ => True), isV (.string (strOf (s.out init img))), isV (ptrV m), (fun _ _ => True), isV (.string (strOf (s.out init img))), isV (.bool false)]
            (by kernel_rfl) (by kernel_rfl) (by kernel_rfl) trivial (fun f sv X => SendI (blk u (.cells (uC iv (.slice (some ⟨ug, uo, Option.none⟩) img.length uc) dp s) 126 (0, 0))) (blk u (.cells (uC iv (.slice (some ⟨ug, uo, Option.none⟩) img.length uc) dp s.send) 126 (0, 0))) (blk m (.cells (mC22 (.slice a0 init.length c0) (.slice (some ⟨mg, mo, Option.none⟩) img.length mc) rv s) 84 (0, 0))) (blk m (.cells (mC22 (.slice a0 init.length c0) (.slice (some ⟨mg, mo, Option.none⟩) img.length mc) rv s.send) 84 (0, 0))) (s.out init img) (Dec dp dd * (RestS rv rest * (ownR iv init * (ownR (.slice (some ⟨ug, uo, Option.none⟩) img.length uc) img * all w)))) w (f 1) (f 4) (sv 1) (sv 4) X) (fun _ => ⟨by
              rw [if_neg (by decide), if_neg (by decide)]
              have h9 := H6.out
              rw [show ∀ A B C D : SP, A * (B * (C * D)) = A * (C * (B * D)) from fun A B C D => by ac_rfl] at h9
              exact SP.on.drew h9, Str.drew S6.out⟩) (fun f s a b h st => SendI.stay h st) (fun f g s2 t X h h9 hI => by
              have e1 := h 1 rfl
              have e4 := h 4 rfl
              have i1 := h9 1 rfl
              have i4 := h9 4 rfl
              show SendI (blk u (.cells (uC iv (.slice (some ⟨ug, uo, Option.none⟩) img.length uc) dp s) 126 (0, 0))) (blk u (.cells (uC iv (.slice (some ⟨ug, uo, Option.none⟩) img.length uc) dp s.send) 126 (0, 0))) (blk m (.cells (mC22 (.slice a0 init.length c0) (.slice (some ⟨mg, mo, Option.none⟩) img.length mc) rv s) 84 (0, 0))) (blk m (.cells (mC22 (.slice a0 init.length c0) (.slice (some ⟨mg, mo, Option.none⟩) img.length mc) rv s.send) 84 (0, 0))) (s.out init img) (Dec dp dd * (RestS rv rest * (ownR iv init * (ownR (.slice (some ⟨ug, uo, Option.none⟩) img.length uc) img * all w)))) w (g 1) (g 4) (t 1) (t 4) X
              rw [← e1, ← e4]
              exact SendI.same i1 i4 hI) ?keep ?todo ?rest (by decide) (by decide)
          case keep => exact ⟨Keep.isV _, fun _ _ _ h _ => h, Keep.isV _, Keep.isV _, fun _ _ _ h _ => h, Keep.isV _, Keep.isV _, trivial⟩
          case todo =>
            refine ⟨?_, ?_, ?_, ?_, ?_, ?_, ?_, trivial⟩
            · intro f hf0 hw hn ev X hT hb hk hf
              have e0 : ev (.tmp 7) = ptrV u := by have h9 := hk.1; rw [if_pos (by kernel_rfl)] at h9; exact h9
              exact OpOk.move rfl e0 (Multi2.ended_stay rfl rfl (Stay.refl _))
            · intro f hf0 hw hn ev X hT hb hk hf
              have e0 : ev (.tmp 92) = ptrV u := hf.1
              have f4 : f 4 = false := hn 4 (by kernel_rfl)
              have hI : SendI (blk u (.cells (uC iv (.slice (some ⟨ug, uo, Option.none⟩) img.length uc) dp s) 126 (0, 0))) (blk u (.cells (uC iv (.slice (some ⟨ug, uo, Option.none⟩) img.length uc) dp s.send) 126 (0, 0))) (blk m (.cells (mC22 (.slice a0 init.length c0) (.slice (some ⟨mg, mo, Option.none⟩) img.length mc) rv s) 84 (0, 0))) (blk m (.cells (mC22 (.slice a0 init.length c0) (.slice (some ⟨mg, mo, Option.none⟩) img.length mc) rv s.send) 84 (0, 0))) (s.out init img) (Dec dp dd * (RestS rv rest * (ownR iv init * (ownR (.slice (some ⟨ug, uo, Option.none⟩) img.length uc) img * all w)))) w (f 1) (f 4) (ev (.tmp 93)) (ev (.tmp 96)) X := hT
              rw [hf0, f4] at hI
              obtain ⟨hX, hput⟩ := hI.one
              refine OpOk.enters (f := 36) (args := #[ptrV u]) (W' := X) (by simp [execOp, resolve, invoke, e0, hb.1, hb.2.1, go_sem]) ((HSu.out X hX).mono ?_)
              rintro e Y ⟨v, rfl, h1, h2⟩
              exact ⟨_, rfl, Multi2.ended_turn rfl trivial (by
                show SendI (blk u (.cells (uC iv (.slice (some ⟨ug, uo, Option.none⟩) img.length uc) dp s) 126 (0, 0))) (blk u (.cells (uC iv (.slice (some ⟨ug, uo, Option.none⟩) img.length uc) dp s.send) 126 (0, 0))) (blk m (.cells (mC22 (.slice a0 init.length c0) (.slice (some ⟨mg, mo, Option.none⟩) img.length mc) rv s) 84 (0, 0))) (blk m (.cells (mC22 (.slice a0 init.length c0) (.slice (some ⟨mg, mo, Option.none⟩) img.length mc) rv s.send) 84 (0, 0))) (s.out init img) (Dec dp dd * (RestS rv rest * (ownR iv init * (ownR (.slice (some ⟨ug, uo, Option.none⟩) img.length uc) img * all w)))) w true (f 4) v (ev (.tmp 96)) _
                rw [f4]
                exact hput v Y h1 h2) (Multi2.free_keep (by
                  intro P hP
                  simp only [List.mem_cons, List.not_mem_nil, or_false] at hP
                  rcases hP with rfl | rfl | rfl | rfl | rfl | rfl | rfl <;> exact fun _ _ _ h => h) _ _)⟩
            · intro f hf0 hw hn ev X hT hb hk hf
              have fi : f 1 = true := hw 1 (by kernel_rfl)
              have hI : SendI (blk u (.cells (uC iv (.slice (some ⟨ug, uo, Option.none⟩) img.length uc) dp s) 126 (0, 0))) (blk u (.cells (uC iv (.slice (some ⟨ug, uo, Option.none⟩) img.length uc) dp s.send) 126 (0, 0))) (blk m (.cells (mC22 (.slice a0 init.length c0) (.slice (some ⟨mg, mo, Option.none⟩) img.length mc) rv s) 84 (0, 0))) (blk m (.cells (mC22 (.slice a0 init.length c0) (.slice (some ⟨mg, mo, Option.none⟩) img.length mc) rv s.send) 84 (0, 0))) (s.out init img) (Dec dp dd * (RestS rv rest * (ownR iv init * (ownR (.slice (some ⟨ug, uo, Option.none⟩) img.length uc) img * all w)))) w (f 1) (f 4) (ev (.tmp 93)) (ev (.tmp 96)) X := hT
              rw [fi] at hI
              obtain ⟨ba, bc, be, _, _, bl, _⟩ := hI.get1
              exact OpOk.convert rfl be (run_string_of (P := Try.prog) (c := bc) hsu hsb bl _ hst) (Multi2.ended_stay rfl rfl (Stay.refl _))
            · intro f hf0 hw hn ev X hT hb hk hf
              have e0 : ev (.tmp 9) = ptrV m := by have h9 := hk.1; rw [if_pos (by kernel_rfl)] at h9; exact h9
              exact OpOk.move rfl e0 (Multi2.ended_stay rfl rfl (Stay.refl _))
            · intro f hf0 hw hn ev X hT hb hk hf
              have e0 : ev (.tmp 95) = ptrV m := hf.1
              have f1 : f 1 = true := hw 1 (by kernel_rfl)
              have hI : SendI (blk u (.cells (uC iv (.slice (some ⟨ug, uo, Option.none⟩) img.length uc) dp s) 126 (0, 0))) (blk u (.cells (uC iv (.slice (some ⟨ug, uo, Option.none⟩) img.length uc) dp s.send) 126 (0, 0))) (blk m (.cells (mC22 (.slice a0 init.length c0) (.slice (some ⟨mg, mo, Option.none⟩) img.length mc) rv s) 84 (0, 0))) (blk m (.cells (mC22 (.slice a0 init.length c0) (.slice (some ⟨mg, mo, Option.none⟩) img.length mc) rv s.send) 84 (0, 0))) (s.out init img) (Dec dp dd * (RestS rv rest * (ownR iv init * (ownR (.slice (some ⟨ug, uo, Option.none⟩) img.length uc) img * all w)))) w (f 1) (f 4) (ev (.tmp 93)) (ev (.tmp 96)) X := hT
              rw [hf0, f1] at hI
              obtain ⟨hX, hput⟩ := hI.two
              refine OpOk.enters (f := 37) (args := #[ptrV m]) (W' := X) (by simp [execOp, resolve, invoke, e0, hb.1, hb.2.1, go_sem]) ((HSm.out _ X hX).mono ?_)
              rintro e Y ⟨v, rfl, h1, h2⟩
              exact ⟨_, rfl, Multi2.ended_turn rfl trivial (by
                show SendI (blk u (.cells (uC iv (.slice (some ⟨ug, uo, Option.none⟩) img.length uc) dp s) 126 (0, 0))) (blk u (.cells (uC iv (.slice (some ⟨ug, uo, Option.none⟩) img.length uc) dp s.send) 126 (0, 0))) (blk m (.cells (mC22 (.slice a0 init.length c0) (.slice (some ⟨mg, mo, Option.none⟩) img.length mc) rv s) 84 (0, 0))) (blk m (.cells (mC22 (.slice a0 init.length c0) (.slice (some ⟨mg, mo, Option.none⟩) img.length mc) rv s.send) 84 (0, 0))) (s.out init img) (Dec dp dd * (RestS rv rest * (ownR iv init * (ownR (.slice (some ⟨ug, uo, Option.none⟩) img.length uc) img * all w)))) w (f 1) true (ev (.tmp 93)) v _
                rw [f1]
                exact hput v Y h1 h2) (Multi2.free_keep (by
                  intro P hP
                  simp only [List.mem_cons, List.not_mem_nil, or_false] at hP
                  rcases hP with rfl | rfl | rfl | rfl | rfl | rfl | rfl <;> exact fun _ _ _ h => h) _ _)⟩
            · intro f hf0 hw hn ev X hT hb hk hf
              have fi : f 4 = true := hw 4 (by kernel_rfl)
              have hI : SendI (blk u (.cells (uC iv (.slice (some ⟨ug, uo, Option.none⟩) img.length uc) dp s) 126 (0, 0))) (blk u (.cells (uC iv (.slice (some ⟨ug, uo, Option.none⟩) img.length uc) dp s.send) 126 (0, 0))) (blk m (.cells (mC22 (.slice a0 init.length c0) (.slice (some ⟨mg, mo, Option.none⟩) img.length mc) rv s) 84 (0, 0))) (blk m (.cells (mC22 (.slice a0 init.length c0) (.slice (some ⟨mg, mo, Option.none⟩) img.length mc) rv s.send) 84 (0, 0))) (s.out init img) (Dec dp dd * (RestS rv rest * (ownR iv init * (ownR (.slice (some ⟨ug, uo, Option.none⟩) img.length uc) img * all w)))) w (f 1) (f 4) (ev (.tmp 93)) (ev (.tmp 96)) X := hT
              rw [fi] at hI
              obtain ⟨ba, bc, be, _, _, bl, _⟩ := hI.get4
              exact OpOk.convert rfl be (run_string_of (P := Try.prog) (c := bc) hsu hsb bl _ hst) (Multi2.ended_stay rfl rfl (Stay.refl _))
            · intro f hf0 hw hn ev X hT hb hk hf
              have e0 : ev (.tmp 94) = .string (strOf (s.out init img)) := hf.1
              have e1 : ev (.tmp 97) = .string (strOf (s.out init img)) := hf.2.1
              exact OpOk.run (v := .bool false) (W' := X) (by simp [execOp, e0, e1, hb.1, hb.2.1, hb.2.2, go_sem]) (Multi2.ended_stay rfl rfl (Stay.refl _))
          case rest =>
            intro X sv hI
            rintro _ ⟨-, rfl⟩ v93 - _ ⟨-, rfl⟩ _ ⟨-, rfl⟩ v96 - _ ⟨-, rfl⟩ _ ⟨-, rfl⟩
            have hF := SendI.done (show SendI (blk u (.cells (uC iv (.slice (some ⟨ug, uo, Option.none⟩) img.length uc) dp s) 126 (0, 0))) (blk u (.cells (uC iv (.slice (some ⟨ug, uo, Option.none⟩) img.length uc) dp s.send) 126 (0, 0))) (blk m (.cells (mC22 (.slice a0 init.length c0) (.slice (some ⟨mg, mo, Option.none⟩) img.length mc) rv s) 84 (0, 0))) (blk m (.cells (mC22 (.slice a0 init.length c0) (.slice (some ⟨mg, mo, Option.none⟩) img.length mc) rv s.send) 84 (0, 0))) (s.out init img) (Dec dp dd * (RestS rv rest * (ownR iv init * (ownR (.slice (some ⟨ug, uo, Option.none⟩) img.length uc) img * all w)))) w true true (sv 1) (sv 4) X from hI)
            have hF1 := hF.1
            rw [show ∀ A B C D : SP, A * (C * (B * D)) = A * (B * (C * D)) from fun A B C D => by ac_rfl] at hF1
            have H8 : Hid (((blk u (.cells (uC iv (.slice (some ⟨ug, uo, Option.none⟩) img.length uc) dp s.send) 126 (0, 0)) * (Dec dp dd * (blk m (.cells (mC22 (.slice a0 init.length c0) (.slice (some ⟨mg, mo, Option.none⟩) img.length mc) rv s.send) 84 (0, 0)) * (RestS rv rest * (ownR iv init * (ownR (.slice (some ⟨ug, uo, Option.none⟩) img.length uc) img * all w))))))).on X) := hide hF1
            have S8z := hide hF.2
            clear hI hF hF1 HSu HSm
            have hok2 := US.send_ok hok
            have hss : s.send.sends ≤ j + 1 := Nat.le_trans (US.send_sends s) (by omega)
            clear H6 S6 hsn2
            generalize s.out init img = ob at *
            generalize s.send = s9 at *
            go_wp2
            refine Rest.done ?_
            have hU := hide (uhear_any u iv dp s9 ug uo uc img (by omega) Huc.out.1 dd (blk m (.cells (mC22 (.slice a0 init.length c0) (.slice (some ⟨mg, mo, Option.none⟩) img.length mc) rv s9) 84 (0, 0)) * (RestS rv rest * (ownR iv init * (ownR (.slice (some ⟨ug, uo, Option.none⟩) img.length uc) img * all w)))) X H8.out (fun W hW => own_bytes hW.right.right.right) hok2 hdd (.slice Option.none 0 0) ([]) (by have := (show ([] : List UInt8).length ≤ 200 by decide); omega) (fun W hW => IsBytes.nil _))
            have hM := hide (fun X hX => mbytes_any m (.slice a0 init.length c0) rv s9 mg mo mc img (by omega) hc1 rest (blk u (.cells (uC iv (.slice (some ⟨ug, uo, Option.none⟩) img.length uc) dp (s9.hears img (run dd ([])).1)) 126 (0, 0)) * (Dec dp (run dd ([])).2 * (ownR iv init * (ownR (.slice (some ⟨ug, uo, Option.none⟩) img.length uc) img * all w)))) X hX (fun W hW => HM0.out.all hW.right.right.right.right) hok2 (.slice Option.none 0 0) ([]) (by have := (show ([] : List UInt8).length ≤ 200 by decide); omega) (by omega) (fun W hW => IsBytes.nil _))
            go_wp2_with fail
            refine hU.out.mono ?_
            clear hU H8 x0 x1 x2 x3 x4
            rintro e W8 ⟨⟨_, rfl⟩, h8, hs8⟩
            have S8 := hide (S8z.out.trans hs8)
            have hM2 := hide (hM.out W8 (by
              rw [show ∀ A B C D E : SP, A * (B * (C * (D * E))) = C * (D * (A * (B * E))) from fun A B C D E => by ac_rfl] at h8
              exact h8))
            clear h8 hs8 hM S8z
            go_wp2_with fail
            refine hM2.out.mono ?_
            clear hM2
            rintro e W9 ⟨⟨_, rfl⟩, ⟨rv2, h9⟩, hs9⟩
            have S9 := hide (S8.out.trans hs9)
            have hlast := (run_last 70 (rest ++ ([])).length.succ (rest ++ ([])) (Nat.lt_succ_self _)).2
            rw [run_append] at hlast
            have hlast : (run (run ⟨[], 70, false, false⟩ rest).2 ([])).2 = (run ⟨[], 70, false, false⟩ (lastP (rest ++ ([])))).2 := hlast
            rw [← Hde.out] at h9 hlast
            have Hl := hide hlast
            have Ho2 := hide (US.hears_ok (show img.length ≤ 4096 by omega) (run dd ([])).1 hok2)
            have hs2 := US.hears_sends img (run dd ([])).1 s9
            have Hd2 := hide (run_ok hdd ([]))
            have hrl2 : (lastP (rest ++ ([]))).length ≤ 1000 * (j + 1) := by
              have h7 := lastP_len (rest ++ ([]))
              have h6 := (show ([] : List UInt8).length ≤ 200 by decide)
              rw [List.length_append] at h7
              omega
            rw [show ∀ A B C D E : SP, A * (B * (C * (D * E))) = C * (D * (A * (B * E))) from fun A B C D E => by ac_rfl] at h9
            have hsn9 : (s9.hears img (run dd ([])).1).sends ≤ j + 1 := by rw [hs2]; have := hss; omega
            clear hs2 hlast Hde
            generalize s9.hears img (run dd ([])).1 = s2 at *
            generalize (run dd ([])).2 = dd2 at *
            generalize lastP (rest ++ ([])) = rest2 at *
            have H9 := hide h9
            have hD := hide (udone_any u iv _ dp s2 _ W9 h9)
            clear h9 hs9 S8
            go_wp2_with fail
            refine hD.out.mono ?_
            clear hD
            rintro e W10 ⟨rfl, hb10⟩
            have h10 := H9.out.below hb10
            have S10 := hide (S9.out.trans (Str.below hb10))
            have gM := on_blk_mul h10.right.right
            have c2 : W10.cell? ⟨m, 2, Option.none⟩ = some (.int .i64 (s2.phase : Int)) := cell_of_row _ _ 2 _ _ _ gM
            have c7 : W10.cell? ⟨m, 7, Option.none⟩ = some (.int .i64 (s2.sends : Int)) := cell_of_row _ _ 7 _ _ _ gM
            have hpe : (((s2.phase : Nat) : Int) == 5) = (s2.phase == 5) := by
              rw [Bool.eq_iff_iff, beq_iff_eq, beq_iff_eq]
              omega
            have H10 := hide h10
            clear hb10 h10 gM H9 S9
            generalize (s2.phase == 5) = pb at *
            go_wp2_with fail
            exact ⟨⟨j + 1, s2, dd2, rest2, rv2, by omega, by simp, Ho2.out, hsn9, Hd2.out, Hl.out, hrl2, H10.out, S10.out⟩, by simp [intOf]; omega⟩
      · as_aux_lemma =>
          rw [show ((1 : Nat) : Int) = 1 from rfl] at hk4
          have hU := hide (uhear_any u iv dp s ug uo uc img (by omega) Huc.out.1 dd (blk m (.cells (mC22 (.slice a0 init.length c0) (.slice (some ⟨mg, mo, Option.none⟩) img.length mc) rv s) 84 (0, 0)) * (RestS rv rest * (ownR iv init * (ownR (.slice (some ⟨ug, uo, Option.none⟩) img.length uc) img * all w)))) W6 H6.out (fun W hW => own_bytes hW.right.right.right) hok hdd (.slice da yd.length dc) (yd) (by have := hd200; omega) (fun W hW => HD.out.all hW.right.right.right.right))
          have hM := hide (fun X hX => mbytes_any m (.slice a0 init.length c0) rv s mg mo mc img (by omega) hc1 rest (blk u (.cells (uC iv (.slice (some ⟨ug, uo, Option.none⟩) img.length uc) dp (s.hears img (run dd (yd)).1)) 126 (0, 0)) * (Dec dp (run dd (yd)).2 * (ownR iv init * (ownR (.slice (some ⟨ug, uo, Option.none⟩) img.length uc) img * all w)))) X hX (fun W hW => HM0.out.all hW.right.right.right.right) hok (.slice da yd.length dc) (yd) (by have := hd200; omega) (by omega) (fun W hW => HD.out.all hW.right.right.right.right))
          go_wp2_with fail
          refine hU.out.mono ?_
          clear hU H6 x0 x1 x2 x3 x4
          rintro e W8 ⟨⟨_, rfl⟩, h8, hs8⟩
          have S8 := hide (S6.out.trans hs8)
          have hM2 := hide (hM.out W8 (by
            rw [show ∀ A B C D E : SP, A * (B * (C * (D * E))) = C * (D * (A * (B * E))) from fun A B C D E => by ac_rfl] at h8
            exact h8))
          clear h8 hs8 hM S6
          go_wp2_with fail
          refine hM2.out.mono ?_
          clear hM2
          rintro e W9 ⟨⟨_, rfl⟩, ⟨rv2, h9⟩, hs9⟩
          have S9 := hide (S8.out.trans hs9)
          have hlast := (run_last 70 (rest ++ (yd)).length.succ (rest ++ (yd)) (Nat.lt_succ_self _)).2
          rw [run_append] at hlast
          have hlast : (run (run ⟨[], 70, false, false⟩ rest).2 (yd)).2 = (run ⟨[], 70, false, false⟩ (lastP (rest ++ (yd)))).2 := hlast
          rw [← Hde.out] at h9 hlast
          have Hl := hide hlast
          have Ho2 := hide (US.hears_ok (show img.length ≤ 4096 by omega) (run dd (yd)).1 hok)
          have hs2 := US.hears_sends img (run dd (yd)).1 s
          have Hd2 := hide (run_ok hdd (yd))
          have hrl2 : (lastP (rest ++ (yd))).length ≤ 1000 * (j + 1) := by
            have h7 := lastP_len (rest ++ (yd))
            have h6 := hd200
            rw [List.length_append] at h7
            omega
          rw [show ∀ A B C D E : SP, A * (B * (C * (D * E))) = C * (D * (A * (B * E))) from fun A B C D E => by ac_rfl] at h9
          have hsn9 : (s.hears img (run dd (yd)).1).sends ≤ j + 1 := by rw [hs2]; have := hsn; omega
          clear hs2 hlast Hde
          generalize s.hears img (run dd (yd)).1 = s2 at *
          generalize (run dd (yd)).2 = dd2 at *
          generalize lastP (rest ++ (yd)) = rest2 at *
          have H9 := hide h9
          have hD := hide (udone_any u iv _ dp s2 _ W9 h9)
          clear h9 hs9 S8
          go_wp2_with fail
          refine hD.out.mono ?_
          clear hD
          rintro e W10 ⟨rfl, hb10⟩
          have h10 := H9.out.below hb10
          have S10 := hide (S9.out.trans (Str.below hb10))
          have gM := on_blk_mul h10.right.right
          have c2 : W10.cell? ⟨m, 2, Option.none⟩ = some (.int .i64 (s2.phase : Int)) := cell_of_row _ _ 2 _ _ _ gM
          have c7 : W10.cell? ⟨m, 7, Option.none⟩ = some (.int .i64 (s2.sends : Int)) := cell_of_row _ _ 7 _ _ _ gM
          have hpe : (((s2.phase : Nat) : Int) == 5) = (s2.phase == 5) := by
            rw [Bool.eq_iff_iff, beq_iff_eq, beq_iff_eq]
            omega
          have H10 := hide h10
          clear hb10 h10 gM H9 S9
          generalize (s2.phase == 5) = pb at *
          go_wp2_with fail
          exact ⟨⟨j + 1, s2, dd2, rest2, rv2, by omega, by simp, Ho2.out, hsn9, Hd2.out, Hl.out, hrl2, H10.out, S10.out⟩, by simp [intOf]; omega⟩
      · as_aux_lemma =>
          rw [show ((2 : Nat) : Int) = 2 from rfl] at hk4
          obtain ⟨p1, hp1⟩ : ∃ p1 : UInt8, ((yo.toNat : Nat) : Int).tmod 16 = ((p1.toNat : Nat) : Int) := ⟨yo % 16, by rw [Int.tmod_eq_emod_of_nonneg (by omega), UInt8.toNat_mod]; rfl⟩
          obtain ⟨p2, hp2⟩ : ∃ p2 : UInt8, ((yr.toNat : Nat) : Int).tmod 12 = ((p2.toNat : Nat) : Int) := ⟨yr % 12, by rw [Int.tmod_eq_emod_of_nonneg (by omega), UInt8.toNat_mod]; rfl⟩
          have hv : (vbs [96, p1, p2]).toArray = #[.int .u8 96, vb p1, vb p2] := by simp [vbs, vb]
          have hown := own_new 5 1 3 (vbs [96, p1, p2]) H6.out rfl (by decide)
          rw [hv] at hown
          have H7 := hide hown
          have S7 := hide (S6.out.alloc (.cells #[.int .u8 96, vb p1, vb p2] 5))
          have x4b : (W6.alloc (.cells #[.int .u8 96, vb p1, vb p2] 5)).cell? ⟨g11, 4, Option.none⟩ = some (.slice da yd.length dc) := (((Below.refl W6.heap.size W6).alloc (Nat.le_refl _) _).cell (p := ⟨g11, 4, Option.none⟩) (World.block_lt_of_cell? _ _ x4)).trans x4
          clear hown hv S6
          go_wp2_with (at_builtin; go_loud (refine wpList_append_bytes (F := (blk u (.cells (uC iv (.slice (some ⟨ug, uo, Option.none⟩) img.length uc) dp s) 126 (0, 0)) * (Dec dp dd * (blk m (.cells (mC22 (.slice a0 init.length c0) (.slice (some ⟨mg, mo, Option.none⟩) img.length mc) rv s) 84 (0, 0)) * (RestS rv rest * (ownR iv init * (ownR (.slice (some ⟨ug, uo, Option.none⟩) img.length uc) img * all w))))))) rfl _ _ 33 rfl 5 hsu infoByte _ [96, p1, p2] yd rfl H7.out _ rfl (HD.out.all H7.out.right.right.right.right.right.right.right) (by simp; omega) ?_); intro v8 w8 ho8 hs8; obtain ⟨zv, hz⟩ : ∃ z, z = [96, p1, p2] ++ yd := ⟨_, rfl⟩; rw [← hz] at ho8; obtain ⟨av8, cv8, rfl, _, _, _, _⟩ := own_value ho8; have H8 := hide ho8; have S8 := hide (S7.out.trans hs8); have HZ := hide hz; clear ho8 hs8 hz)
          have hzl : zv.length ≤ 203 := by rw [HZ.out]; simp; omega
          have hE := hide (refEncode_any _ zv _ (own_bytes H8.out) (by omega))
          have hfl : (frame zv).length ≤ 500 := by
            have h7 := frame_le zv
            omega
          refine hE.out.mono ?_
          clear hE
          rintro e W7b ⟨v9, rfl, ho, hs⟩
          have h9 := on_all_to ho H8.out.right
          have S7b := hide (S8.out.trans hs)
          rw [show ∀ A B C D E F9 : SP, A * (B * (C * (D * (E * F9)))) = B * (C * (D * (E * (A * F9)))) from fun A B C D E F9 => by ac_rfl] at h9
          obtain ⟨va, vc, rfl, _, _, _, _⟩ := own_value ho
          have H7b := hide h9
          clear h9 ho hs S8 H8 H7 S7 H6 x4b
          generalize frame zv = fb at *
          have hU := hide (uhear_any u iv dp s ug uo uc img (by omega) Huc.out.1 dd (blk m (.cells (mC22 (.slice a0 init.length c0) (.slice (some ⟨mg, mo, Option.none⟩) img.length mc) rv s) 84 (0, 0)) * (RestS rv rest * (ownR (.slice va fb.length vc) (fb) * (ownR iv init * (ownR (.slice (some ⟨ug, uo, Option.none⟩) img.length uc) img * all w))))) W7b H7b.out (fun W hW => own_bytes hW.right.right.right.right) hok hdd (.slice va fb.length vc) (fb) (by have := hfl; omega) (fun W hW => own_bytes hW.right.right))
          have hM := hide (fun X hX => mbytes_any m (.slice a0 init.length c0) rv s mg mo mc img (by omega) hc1 rest (blk u (.cells (uC iv (.slice (some ⟨ug, uo, Option.none⟩) img.length uc) dp (s.hears img (run dd (fb)).1)) 126 (0, 0)) * (Dec dp (run dd (fb)).2 * (ownR (.slice va fb.length vc) (fb) * (ownR iv init * (ownR (.slice (some ⟨ug, uo, Option.none⟩) img.length uc) img * all w))))) X hX (fun W hW => HM0.out.all hW.right.right.right.right.right) hok (.slice va fb.length vc) (fb) (by have := hfl; omega) (by omega) (fun W hW => own_bytes hW.right.right))
          go_wp2_with fail
          refine hU.out.mono ?_
          clear hU H7b x0 x1 x2 x3 x4
          rintro e W8 ⟨⟨_, rfl⟩, h8, hs8⟩
          have S8 := hide (S7b.out.trans hs8)
          have hM2 := hide (hM.out W8 (by
            rw [show ∀ A B C D E : SP, A * (B * (C * (D * E))) = C * (D * (A * (B * E))) from fun A B C D E => by ac_rfl] at h8
            exact h8))
          clear h8 hs8 hM S7b
          go_wp2_with fail
          refine hM2.out.mono ?_
          clear hM2
          rintro e W9 ⟨⟨_, rfl⟩, ⟨rv2, h9⟩, hs9⟩
          have S9 := hide (S8.out.trans hs9)
          have hlast := (run_last 70 (rest ++ (fb)).length.succ (rest ++ (fb)) (Nat.lt_succ_self _)).2
          rw [run_append] at hlast
          have hlast : (run (run ⟨[], 70, false, false⟩ rest).2 (fb)).2 = (run ⟨[], 70, false, false⟩ (lastP (rest ++ (fb)))).2 := hlast
          rw [← Hde.out] at h9 hlast
          have Hl := hide hlast
          have Ho2 := hide (US.hears_ok (show img.length ≤ 4096 by omega) (run dd (fb)).1 hok)
          have hs2 := US.hears_sends img (run dd (fb)).1 s
          have Hd2 := hide (run_ok hdd (fb))
          have hrl2 : (lastP (rest ++ (fb))).length ≤ 1000 * (j + 1) := by
            have h7 := lastP_len (rest ++ (fb))
            have h6 := hfl
            rw [List.length_append] at h7
            omega
          rw [show ∀ A B C D E : SP, A * (B * (C * (D * E))) = C * (D * (A * (B * E))) from fun A B C D E => by ac_rfl] at h9
          have hsn9 : (s.hears img (run dd (fb)).1).sends ≤ j + 1 := by rw [hs2]; have := hsn; omega
          clear hs2 hlast Hde
          generalize s.hears img (run dd (fb)).1 = s2 at *
          generalize (run dd (fb)).2 = dd2 at *
          generalize lastP (rest ++ (fb)) = rest2 at *
          have H9 := hide h9
          have hD := hide (udone_any u iv _ dp s2 _ W9 h9)
          clear h9 hs9 S8
          go_wp2_with fail
          refine hD.out.mono ?_
          clear hD
          rintro e W10 ⟨rfl, hb10⟩
          have h10 := H9.out.below hb10
          have S10 := hide (S9.out.trans (Str.below hb10))
          have gM := on_blk_mul h10.right.right
          have c2 : W10.cell? ⟨m, 2, Option.none⟩ = some (.int .i64 (s2.phase : Int)) := cell_of_row _ _ 2 _ _ _ gM
          have c7 : W10.cell? ⟨m, 7, Option.none⟩ = some (.int .i64 (s2.sends : Int)) := cell_of_row _ _ 7 _ _ _ gM
          have hpe : (((s2.phase : Nat) : Int) == 5) = (s2.phase == 5) := by
            rw [Bool.eq_iff_iff, beq_iff_eq, beq_iff_eq]
            omega
          have H10 := hide h10
          clear hb10 h10 gM H9 S9
          generalize (s2.phase == 5) = pb at *
          go_wp2_with fail
          exact ⟨⟨j + 1, s2, dd2, rest2, rv2, by omega, by simp, Ho2.out, hsn9, Hd2.out, Hl.out, hrl2, (SP.le.on (SP.le.mul (SP.le.refl _) (SP.le.mul (SP.le.refl _) (SP.le.mul (SP.le.refl _) (SP.le.mul (SP.le.refl _) (SP.le_right _ _))))) H10.out), S10.out⟩, by simp [intOf]; omega⟩
      · as_aux_lemma =>
          rw [show ((3 : Nat) : Int) = 3 from rfl] at hk4
          obtain ⟨r, hr, hrm⟩ : ∃ r : Nat, r < 12 ∧ (k : Int).tmod 12 = (r : Int) := ⟨k % 12, Nat.mod_lt _ (by decide), by rw [Int.tmod_eq_emod_of_nonneg (by omega)]; omega⟩
          go_wp2_with fail
          clear hqq
          go_loopw [120] (fun i wr => ∃ (q : Nat) (s' : US), q ≤ r ∧ i = .int .i64 q ∧ s'.Ok img ∧ s'.sends = s.sends ∧ ((blk u (.cells (uC iv (.slice (some ⟨ug, uo, Option.none⟩) img.length uc) dp s') 126 (0, 0)) * (Dec dp dd * (blk m (.cells (mC22 (.slice a0 init.length c0) (.slice (some ⟨mg, mo, Option.none⟩) img.length mc) rv s') 84 (0, 0)) * (RestS rv rest * (ownR iv init * (ownR (.slice (some ⟨ug, uo, Option.none⟩) img.length uc) img * all w))))))).on wr ∧ Str w wr) (fun i _ => r - (intOf i).toNat)
          case atStart => exact ⟨0, s, by omega, rfl, hok, rfl, H6.out, S6.out⟩
          case round =>
            clear H6 S6
            obtain ⟨q, s', hq, rfl, hok', hsn', hw', hs'⟩ := hrel
            by_cases hqr : q < r
            · have hT1 := hide (utick_any u iv _ dp s' hok'.waited _ wr hw')
              have hT2 := hide (fun X hX => mtick_any m (.slice a0 init.length c0) (.slice (some ⟨mg, mo, Option.none⟩) img.length mc) rv s' hok'.waited (blk u (.cells (uC iv (.slice (some ⟨ug, uo, Option.none⟩) img.length uc) dp s'.tick) 126 (0, 0)) * (Dec dp dd * (RestS rv rest * (ownR iv init * (ownR (.slice (some ⟨ug, uo, Option.none⟩) img.length uc) img * all w))))) X hX)
              have Hs' := hide hs'
              have Hsn' := hide hsn'
              clear hw' hs' x0 x1 x2 x3 x4 hsn'
              go_wp2_with fail
              refine hT1.out.mono ?_
              clear hT1
              rintro e w7 ⟨⟨_, rfl⟩, h7, hs7⟩
              have S7 := hide (Hs'.out.trans hs7)
              have hT3 := hide (hT2.out w7 (by
                rw [show ∀ A B C D : SP, A * (B * (C * D)) = C * (A * (B * D)) from fun A B C D => by ac_rfl] at h7
                exact h7))
              clear h7 hs7 hT2 Hs'
              go_wp2_with fail
              refine hT3.out.mono ?_
              clear hT3
              rintro e w8 ⟨⟨_, rfl⟩, h8, hs8⟩
              have S8 := hide (S7.out.trans hs8)
              rw [show ∀ A B C D : SP, C * (A * (B * D)) = A * (B * (C * D)) from fun A B C D => by ac_rfl] at h8
              have H8 := hide h8
              have Hok2 := hide (US.tick_ok hok')
              have Hsn2 := hide ((US.tick_sends s').trans Hsn'.out)
              clear h8 hs8 S7
              generalize s'.tick = s9 at *
              go_wp2_with fail
              exact ⟨⟨q + 1, s9, by omega, by simp, Hok2.out, Hsn2.out, H8.out, S8.out⟩, by simp [intOf]; omega⟩
            · have hsn9 : s'.sends ≤ j := by omega
              have Hw' := hide hw'
              have Hs' := hide hs'
              clear hw' hs' hsn'
              have hU := hide (uhear_any u iv dp s' ug uo uc img (by omega) Huc.out.1 dd (blk m (.cells (mC22 (.slice a0 init.length c0) (.slice (some ⟨mg, mo, Option.none⟩) img.length mc) rv s') 84 (0, 0)) * (RestS rv rest * (ownR iv init * (ownR (.slice (some ⟨ug, uo, Option.none⟩) img.length uc) img * all w)))) wr Hw'.out (fun W hW => own_bytes hW.right.right.right) hok' hdd (.slice Option.none 0 0) ([]) (by have := (show ([] : List UInt8).length ≤ 200 by decide); omega) (fun W hW => IsBytes.nil _))
              have hM := hide (fun X hX => mbytes_any m (.slice a0 init.length c0) rv s' mg mo mc img (by omega) hc1 rest (blk u (.cells (uC iv (.slice (some ⟨ug, uo, Option.none⟩) img.length uc) dp (s'.hears img (run dd ([])).1)) 126 (0, 0)) * (Dec dp (run dd ([])).2 * (ownR iv init * (ownR (.slice (some ⟨ug, uo, Option.none⟩) img.length uc) img * all w)))) X hX (fun W hW => HM0.out.all hW.right.right.right.right) hok' (.slice Option.none 0 0) ([]) (by have := (show ([] : List UInt8).length ≤ 200 by decide); omega) (by omega) (fun W hW => IsBytes.nil _))
              go_wp2_with fail
              refine hU.out.mono ?_
              clear hU Hw' x0 x1 x2 x3 x4
              rintro e W8 ⟨⟨_, rfl⟩, h8, hs8⟩
              have S8 := hide (Hs'.out.trans hs8)
              have hM2 := hide (hM.out W8 (by
                rw [show ∀ A B C D E : SP, A * (B * (C * (D * E))) = C * (D * (A * (B * E))) from fun A B C D E => by ac_rfl] at h8
                exact h8))
              clear h8 hs8 hM Hs'
              go_wp2_with fail
              refine hM2.out.mono ?_
              clear hM2
              rintro e W9 ⟨⟨_, rfl⟩, ⟨rv2, h9⟩, hs9⟩
              have S9 := hide (S8.out.trans hs9)
              have hlast := (run_last 70 (rest ++ ([])).length.succ (rest ++ ([])) (Nat.lt_succ_self _)).2
              rw [run_append] at hlast
              have hlast : (run (run ⟨[], 70, false, false⟩ rest).2 ([])).2 = (run ⟨[], 70, false, false⟩ (lastP (rest ++ ([])))).2 := hlast
              rw [← Hde.out] at h9 hlast
              have Hl := hide hlast
              have Ho2 := hide (US.hears_ok (show img.length ≤ 4096 by omega) (run dd ([])).1 hok')
              have hs2 := US.hears_sends img (run dd ([])).1 s'
              have Hd2 := hide (run_ok hdd ([]))
              have hrl2 : (lastP (rest ++ ([]))).length ≤ 1000 * (j + 1) := by
                have h7 := lastP_len (rest ++ ([]))
                have h6 := (show ([] : List UInt8).length ≤ 200 by decide)
                rw [List.length_append] at h7
                omega
              rw [show ∀ A B C D E : SP, A * (B * (C * (D * E))) = C * (D * (A * (B * E))) from fun A B C D E => by ac_rfl] at h9
              have hsn9 : (s'.hears img (run dd ([])).1).sends ≤ j + 1 := by rw [hs2]; have := hsn9; omega
              clear hs2 hlast Hde
              generalize s'.hears img (run dd ([])).1 = s2 at *
              generalize (run dd ([])).2 = dd2 at *
              generalize lastP (rest ++ ([])) = rest2 at *
              have H9 := hide h9
              have hD := hide (udone_any u iv _ dp s2 _ W9 h9)
              clear h9 hs9 S8
              go_wp2_with fail
              refine hD.out.mono ?_
              clear hD
              rintro e W10 ⟨rfl, hb10⟩
              have h10 := H9.out.below hb10
              have S10 := hide (S9.out.trans (Str.below hb10))
              have gM := on_blk_mul h10.right.right
              have c2 : W10.cell? ⟨m, 2, Option.none⟩ = some (.int .i64 (s2.phase : Int)) := cell_of_row _ _ 2 _ _ _ gM
              have c7 : W10.cell? ⟨m, 7, Option.none⟩ = some (.int .i64 (s2.sends : Int)) := cell_of_row _ _ 7 _ _ _ gM
              have hpe : (((s2.phase : Nat) : Int) == 5) = (s2.phase == 5) := by
                rw [Bool.eq_iff_iff, beq_iff_eq, beq_iff_eq]
                omega
              have H10 := hide h10
              clear hb10 h10 gM H9 S9
              generalize (s2.phase == 5) = pb at *
              go_wp2_with fail
              exact ⟨⟨j + 1, s2, dd2, rest2, rv2, by omega, by simp, Ho2.out, hsn9, Hd2.out, Hl.out, hrl2, H10.out, S10.out⟩, by simp [intOf]; omega⟩
      · as_aux_lemma =>
          rw [show ((4 : Nat) : Int) = 4 from rfl] at hk4
          have hWn := hide (mwanted_any m (.slice a0 init.length c0) rv s mg mo mc img (by omega) hc1 (RestS rv rest * (blk u (.cells (uC iv (.slice (some ⟨ug, uo, Option.none⟩) img.length uc) dp s) 126 (0, 0)) * (Dec dp dd * (ownR iv init * (ownR (.slice (some ⟨ug, uo, Option.none⟩) img.length uc) img * all w))))) W6 (by
            have h9 := H6.out
            rw [show ∀ A B C D E : SP, A * (B * (C * (D * E))) = C * (D * (A * (B * E))) from fun A B C D E => by ac_rfl] at h9
            exact h9) (fun W hW => HM0.out.all hW.right.right.right.right.right) hok k (by omega))
          clear H6
          go_wp2_with fail
          refine hWn.out.mono ?_
          clear hWn
          rintro e W7 ⟨v7, rfl, d, hdl, hb7, h7, hs7⟩
          have S7 := hide (S6.out.trans hs7)
          have hE := hide (refEncode_any v7 d W7 hb7 (by omega))
          obtain ⟨va7, vc7, rfl, _, _, _, _⟩ := hb7
          rw [show ∀ A B C D E : SP, C * (D * (A * (B * E))) = A * (B * (C * (D * E))) from fun A B C D E => by ac_rfl] at h7
          have H7 := hide h7
          clear h7 hs7 S6
          go_wp2_with fail
          have hfl : (frame d).length ≤ 500 := by
            have h7 := frame_le d
            omega
          refine hE.out.mono ?_
          clear hE
          rintro e W7b ⟨v9, rfl, ho, hs⟩
          have h9 := on_all_to ho H7.out
          have S7b := hide (S7.out.trans hs)
          rw [show ∀ A B C D E F9 : SP, A * (B * (C * (D * (E * F9)))) = B * (C * (D * (E * (A * F9)))) from fun A B C D E F9 => by ac_rfl] at h9
          obtain ⟨va, vc, rfl, _, _, _, _⟩ := own_value ho
          have H7b := hide h9
          clear h9 ho hs S7 H7
          generalize frame d = fb at *
          have hU := hide (uhear_any u iv dp s ug uo uc img (by omega) Huc.out.1 dd (blk m (.cells (mC22 (.slice a0 init.length c0) (.slice (some ⟨mg, mo, Option.none⟩) img.length mc) rv s) 84 (0, 0)) * (RestS rv rest * (ownR (.slice va fb.length vc) (fb) * (ownR iv init * (ownR (.slice (some ⟨ug, uo, Option.none⟩) img.length uc) img * all w))))) W7b H7b.out (fun W hW => own_bytes hW.right.right.right.right) hok hdd (.slice va fb.length vc) (fb) (by have := hfl; omega) (fun W hW => own_bytes hW.right.right))
          have hM := hide (fun X hX => mbytes_any m (.slice a0 init.length c0) rv s mg mo mc img (by omega) hc1 rest (blk u (.cells (uC iv (.slice (some ⟨ug, uo, Option.none⟩) img.length uc) dp (s.hears img (run dd (fb)).1)) 126 (0, 0)) * (Dec dp (run dd (fb)).2 * (ownR (.slice va fb.length vc) (fb) * (ownR iv init * (ownR (.slice (some ⟨ug, uo, Option.none⟩) img.length uc) img * all w))))) X hX (fun W hW => HM0.out.all hW.right.right.right.right.right) hok (.slice va fb.length vc) (fb) (by have := hfl; omega) (by omega) (fun W hW => own_bytes hW.right.right))
          go_wp2_with fail
          refine hU.out.mono ?_
          clear hU H7b x0 x1 x2 x3 x4
          rintro e W8 ⟨⟨_, rfl⟩, h8, hs8⟩
          have S8 := hide (S7b.out.trans hs8)
          have hM2 := hide (hM.out W8 (by
            rw [show ∀ A B C D E : SP, A * (B * (C * (D * E))) = C * (D * (A * (B * E))) from fun A B C D E => by ac_rfl] at h8
            exact h8))
          clear h8 hs8 hM S7b
          go_wp2_with fail
          refine hM2.out.mono ?_
          clear hM2
          rintro e W9 ⟨⟨_, rfl⟩, ⟨rv2, h9⟩, hs9⟩
          have S9 := hide (S8.out.trans hs9)
          have hlast := (run_last 70 (rest ++ (fb)).length.succ (rest ++ (fb)) (Nat.lt_succ_self _)).2
          rw [run_append] at hlast
          have hlast : (run (run ⟨[], 70, false, false⟩ rest).2 (fb)).2 = (run ⟨[], 70, false, false⟩ (lastP (rest ++ (fb)))).2 := hlast
          rw [← Hde.out] at h9 hlast
          have Hl := hide hlast
          have Ho2 := hide (US.hears_ok (show img.length ≤ 4096 by omega) (run dd (fb)).1 hok)
          have hs2 := US.hears_sends img (run dd (fb)).1 s
          have Hd2 := hide (run_ok hdd (fb))
          have hrl2 : (lastP (rest ++ (fb))).length ≤ 1000 * (j + 1) := by
            have h7 := lastP_len (rest ++ (fb))
            have h6 := hfl
            rw [List.length_append] at h7
            omega
          rw [show ∀ A B C D E : SP, A * (B * (C * (D * E))) = C * (D * (A * (B * E))) from fun A B C D E => by ac_rfl] at h9
          have hsn9 : (s.hears img (run dd (fb)).1).sends ≤ j + 1 := by rw [hs2]; have := hsn; omega
          clear hs2 hlast Hde
          generalize s.hears img (run dd (fb)).1 = s2 at *
          generalize (run dd (fb)).2 = dd2 at *
          generalize lastP (rest ++ (fb)) = rest2 at *
          have H9 := hide h9
          have hD := hide (udone_any u iv _ dp s2 _ W9 h9)
          clear h9 hs9 S8
          go_wp2_with fail
          refine hD.out.mono ?_
          clear hD
          rintro e W10 ⟨rfl, hb10⟩
          have h10 := H9.out.below hb10
          have S10 := hide (S9.out.trans (Str.below hb10))
          have gM := on_blk_mul h10.right.right
          have c2 : W10.cell? ⟨m, 2, Option.none⟩ = some (.int .i64 (s2.phase : Int)) := cell_of_row _ _ 2 _ _ _ gM
          have c7 : W10.cell? ⟨m, 7, Option.none⟩ = some (.int .i64 (s2.sends : Int)) := cell_of_row _ _ 7 _ _ _ gM
          have hpe : (((s2.phase : Nat) : Int) == 5) = (s2.phase == 5) := by
            rw [Bool.eq_iff_iff, beq_iff_eq, beq_iff_eq]
            omega
          have H10 := hide h10
          clear hb10 h10 gM H9 S9
          generalize (s2.phase == 5) = pb at *
          go_wp2_with fail
          exact ⟨⟨j + 1, s2, dd2, rest2, rv2, by omega, by simp, Ho2.out, hsn9, Hd2.out, Hl.out, hrl2, (SP.le.on (SP.le.mul (SP.le.refl _) (SP.le.mul (SP.le.refl _) (SP.le.mul (SP.le.refl _) (SP.le.mul (SP.le.refl _) (SP.le_right _ _))))) H10.out), S10.out⟩, by simp [intOf]; omega⟩
    · have hjb : j = L.length := by omega
      subst hjb
      have H6 := hide hw
      have S6 := hide hstr
      have Huc := hide huc
      have hsn2 : s.sends ≤ 100000 := by omega
      clear hw hstr huc
      have HSu := hide (fun X hX => usend_any u iv dp s ug uo uc init img ⟨by omega, by omega⟩ (by omega) Huc.out.1 Huc.out.2 (blk m (.cells (mC22 (.slice a0 init.length c0) (.slice (some ⟨mg, mo, Option.none⟩) img.length mc) rv s) 84 (0, 0)) * (Dec dp dd * (RestS rv rest * (ownR iv init * (ownR (.slice (some ⟨ug, uo, Option.none⟩) img.length uc) img * all w))))) X hX HiS.out (fun W hW => own_bytes hW.right.right.right) (fun W hW => own_bytes hW.right.right.right.right) hok hsn2)
      have HSm := hide (fun v X hX => msend_any m (.slice a0 init.length c0) rv s mg mo mc init img (by omega) (by omega) hc1 (ownR v (s.out init img) * (blk u (.cells (uC iv (.slice (some ⟨ug, uo, Option.none⟩) img.length uc) dp s.send) 126 (0, 0)) * (Dec dp dd * (RestS rv rest * (ownR iv init * (ownR (.slice (some ⟨ug, uo, Option.none⟩) img.length uc) img * all w)))))) X hX (fun W hW => HI0.out.all hW.right.right.right.right.right.right) (fun W hW => HM0.out.all hW.right.right.right.right.right.right) hok hsn2)
      go_wp2_with fail
      refine Multi2.wp_region_multi [4, 7] [4, 7] [] [isV (.int .i64 0), isV (.bool true), isV (.bool true), isV (ptrV u), (fun _ _ => True), isV (.string (strOf (s.out init img))), isV (ptrV m), (fun _ _ => True), isV (.string (strOf (s.out init img))), isV (.bool true), isV (.bool true), isV (.bool true)]
        (by kernel_rfl) (by kernel_rfl) (by kernel_rfl) trivial (fun f sv X => SendI (blk u (.cells (uC iv (.slice (some ⟨ug, uo, Option.none⟩) img.length uc) dp s) 126 (0, 0))) (blk u (.cells (uC iv (.slice (some ⟨ug, uo, Option.none⟩) img.length uc) dp s.send) 126 (0, 0))) (blk m (.cells (mC22 (.slice a0 init.length c0) (.slice (some ⟨mg, mo, Option.none⟩) img.length mc) rv s) 84 (0, 0))) (blk m (.cells (mC22 (.slice a0 init.length c0) (.slice (some ⟨mg, mo, Option.none⟩) img.length mc) rv s.send) 84 (0, 0))) (s.out init img) (Dec dp dd * (RestS rv rest * (ownR iv init * (ownR (.slice (some ⟨ug, uo, Option.none⟩) img.length uc) img * all w)))) w (f 4) (f 7) (sv 4) (sv 7) X) (fun _ => ⟨by
          rw [if_neg (by decide), if_neg (by decide)]
          have h9 := H6.out
          rw [show ∀ A B C D : SP, A * (B * (C * D)) = A * (C * (B * D)) from fun A B C D => by ac_rfl] at h9
          exact SP.on.drew h9, Str.drew S6.out⟩) (fun f s a b h st => SendI.stay h st) (fun f g s2 t X h h9 hI => by
          have e1 := h 4 rfl
          have e4 := h 7 rfl
          have i1 := h9 4 rfl
          have i4 := h9 7 rfl
          show SendI (blk u (.cells (uC iv (.slice (some ⟨ug, uo, Option.none⟩) img.length uc) dp s) 126 (0, 0))) (blk u (.cells (uC iv (.slice (some ⟨ug, uo, Option.none⟩) img.length uc) dp s.send) 126 (0, 0))) (blk m (.cells (mC22 (.slice a0 init.length c0) (.slice (some ⟨mg, mo, Option.none⟩) img.length mc) rv s) 84 (0, 0))) (blk m (.cells (mC22 (.slice a0 init.length c0) (.slice (some ⟨mg, mo, Option.none⟩) img.length mc) rv s.send) 84 (0, 0))) (s.out init img) (Dec dp dd * (RestS rv rest * (ownR iv init * (ownR (.slice (some ⟨ug, uo, Option.none⟩) img.length uc) img * all w)))) w (g 4) (g 7) (t 4) (t 7) X
          rw [← e1, ← e4]
          exact SendI.same i1 i4 hI) ?keep ?todo ?rest (by decide) (by decide)
      case keep => exact ⟨Keep.isV _, Keep.isV _, Keep.isV _, Keep.isV _, fun _ _ _ h _ => h, Keep.isV _, Keep.isV _, fun _ _ _ h _ => h, Keep.isV _, Keep.isV _, Keep.isV _, Keep.isV _, trivial⟩
      case todo =>
        refine ⟨?_, ?_, ?_, ?_, ?_, ?_, ?_, ?_, ?_, ?_, ?_, ?_, trivial⟩
        · intro f hf0 hw hn ev X hT hb hk hf
          have e0 : ev (.tmp 8) = .int .i64 0 := by have h9 := hk.1; rw [if_pos (by kernel_rfl)] at h9; exact h9
          exact OpOk.move rfl e0 (Multi2.ended_stay rfl rfl (Stay.refl _))
        · intro f hf0 hw hn ev X hT hb hk hf
          have e0 : ev (.tmp 154) = .int .i64 0 := hf.1
          exact OpOk.run (v := .bool true) (W' := X) (by simp [execOp, e0, hb.1, hb.2.1, hb.2.2, go_sem]) (Multi2.ended_stay rfl rfl (Stay.refl _))
        · intro f hf0 hw hn ev X hT hb hk hf
          have e0 : ev (.tmp 155) = .bool true := hf.1
          exact OpOk.run (v := .bool true) (W' := X) (by simp [execOp, e0, hb.1, hb.2.1, hb.2.2, go_sem]) (Multi2.ended_stay rfl rfl (Stay.refl _))
        · intro f hf0 hw hn ev X hT hb hk hf
          refine ⟨true, hf.1, fun _ => ?_, fun h => absurd rfl h⟩
          have e0 : ev (.tmp 7) = ptrV u := by have h9 := hk.1; rw [if_pos (by kernel_rfl)] at h9; exact h9
          exact OpOk.move rfl e0 (Multi2.ended_stay rfl rfl (Stay.refl _))
        · intro f hf0 hw hn ev X hT hb hk hf
          refine ⟨true, hf.2.1, fun _ => ?_, fun h => absurd rfl h⟩
          have e0 : ev (.tmp 157) = ptrV u := hf.1
          have f4 : f 7 = false := hn 7 (by kernel_rfl)
          have hI : SendI (blk u (.cells (uC iv (.slice (some ⟨ug, uo, Option.none⟩) img.length uc) dp s) 126 (0, 0))) (blk u (.cells (uC iv (.slice (some ⟨ug, uo, Option.none⟩) img.length uc) dp s.send) 126 (0, 0))) (blk m (.cells (mC22 (.slice a0 init.length c0) (.slice (some ⟨mg, mo, Option.none⟩) img.length mc) rv s) 84 (0, 0))) (blk m (.cells (mC22 (.slice a0 init.length c0) (.slice (some ⟨mg, mo, Option.none⟩) img.length mc) rv s.send) 84 (0, 0))) (s.out init img) (Dec dp dd * (RestS rv rest * (ownR iv init * (ownR (.slice (some ⟨ug, uo, Option.none⟩) img.length uc) img * all w)))) w (f 4) (f 7) (ev (.tmp 158)) (ev (.tmp 161)) X := hT
          rw [hf0, f4] at hI
          obtain ⟨hX, hput⟩ := hI.one
          refine OpOk.enters (f := 36) (args := #[ptrV u]) (W' := X) (by simp [execOp, resolve, invoke, e0, hb.1, hb.2.1, go_sem]) ((HSu.out X hX).mono ?_)
          rintro e Y ⟨v, rfl, h1, h2⟩
          exact ⟨_, rfl, Multi2.ended_turn rfl trivial (by
            show SendI (blk u (.cells (uC iv (.slice (some ⟨ug, uo, Option.none⟩) img.length uc) dp s) 126 (0, 0))) (blk u (.cells (uC iv (.slice (some ⟨ug, uo, Option.none⟩) img.length uc) dp s.send) 126 (0, 0))) (blk m (.cells (mC22 (.slice a0 init.length c0) (.slice (some ⟨mg, mo, Option.none⟩) img.length mc) rv s) 84 (0, 0))) (blk m (.cells (mC22 (.slice a0 init.length c0) (.slice (some ⟨mg, mo, Option.none⟩) img.length mc) rv s.send) 84 (0, 0))) (s.out init img) (Dec dp dd * (RestS rv rest * (ownR iv init * (ownR (.slice (some ⟨ug, uo, Option.none⟩) img.length uc) img * all w)))) w true (f 7) v (ev (.tmp 161)) _
            rw [f4]
            exact hput v Y h1 h2) (Multi2.free_keep (by
              intro P hP
              simp only [List.mem_cons, List.not_mem_nil, or_false] at hP
              rcases hP with rfl | rfl | rfl | rfl | rfl | rfl | rfl | rfl | rfl | rfl | rfl | rfl <;> exact fun _ _ _ h => h) _ _)⟩
        · intro f hf0 hw hn ev X hT hb hk hf
          refine ⟨true, hf.2.1, fun _ => ?_, fun h => absurd rfl h⟩
          have fi : f 4 = true := hw 4 (by kernel_rfl)
          have hI : SendI (blk u (.cells (uC iv (.slice (some ⟨ug, uo, Option.none⟩) img.length uc) dp s) 126 (0, 0))) (blk u (.cells (uC iv (.slice (some ⟨ug, uo, Option.none⟩) img.length uc) dp s.send) 126 (0, 0))) (blk m (.cells (mC22 (.slice a0 init.length c0) (.slice (some ⟨mg, mo, Option.none⟩) img.length mc) rv s) 84 (0, 0))) (blk m (.cells (mC22 (.slice a0 init.length c0) (.slice (some ⟨mg, mo, Option.none⟩) img.length mc) rv s.send) 84 (0, 0))) (s.out init img) (Dec dp dd * (RestS rv rest * (ownR iv init * (ownR (.slice (some ⟨ug, uo, Option.none⟩) img.length uc) img * all w)))) w (f 4) (f 7) (ev (.tmp 158)) (ev (.tmp 161)) X := hT
          rw [fi] at hI
          obtain ⟨ba, bc, be, _, _, bl, _⟩ := hI.get1
          exact OpOk.convert rfl be (run_string_of (P := Try.prog) (c := bc) hsu hsb bl _ hst) (Multi2.ended_stay rfl rfl (Stay.refl _))
        · intro f hf0 hw hn ev X hT hb hk hf
          refine ⟨true, hf.1, fun _ => ?_, fun h => absurd rfl h⟩
          have e0 : ev (.tmp 9) = ptrV m := by have h9 := hk.1; rw [if_pos (by kernel_rfl)] at h9; exact h9
          exact OpOk.move rfl e0 (Multi2.ended_stay rfl rfl (Stay.refl _))
        · intro f hf0 hw hn ev X hT hb hk hf
          refine ⟨true, hf.2.2.1, fun _ => ?_, fun h => absurd rfl h⟩
          have e0 : ev (.tmp 160) = ptrV m := hf.1
          have f1 : f 4 = true := hw 4 (by kernel_rfl)
          have hI : SendI (blk u (.cells (uC iv (.slice (some ⟨ug, uo, Option.none⟩) img.length uc) dp s) 126 (0, 0))) (blk u (.cells (uC iv (.slice (some ⟨ug, uo, Option.none⟩) img.length uc) dp s.send) 126 (0, 0))) (blk m (.cells (mC22 (.slice a0 init.length c0) (.slice (some ⟨mg, mo, Option.none⟩) img.length mc) rv s) 84 (0, 0))) (blk m (.cells (mC22 (.slice a0 init.length c0) (.slice (some ⟨mg, mo, Option.none⟩) img.length mc) rv s.send) 84 (0, 0))) (s.out init img) (Dec dp dd * (RestS rv rest * (ownR iv init * (ownR (.slice (some ⟨ug, uo, Option.none⟩) img.length uc) img * all w)))) w (f 4) (f 7) (ev (.tmp 158)) (ev (.tmp 161)) X := hT
          rw [hf0, f1] at hI
          obtain ⟨hX, hput⟩ := hI.two
          refine OpOk.enters (f := 37) (args := #[ptrV m]) (W' := X) (by simp [execOp, resolve, invoke, e0, hb.1, hb.2.1, go_sem]) ((HSm.out _ X hX).mono ?_)
          rintro e Y ⟨v, rfl, h1, h2⟩
          exact ⟨_, rfl, Multi2.ended_turn rfl trivial (by
            show SendI (blk u (.cells (uC iv (.slice (some ⟨ug, uo, Option.none⟩) img.length uc) dp s) 126 (0, 0))) (blk u (.cells (uC iv (.slice (some ⟨ug, uo, Option.none⟩) img.length uc) dp s.send) 126 (0, 0))) (blk m (.cells (mC22 (.slice a0 init.length c0) (.slice (some ⟨mg, mo, Option.none⟩) img.length mc) rv s) 84 (0, 0))) (blk m (.cells (mC22 (.slice a0 init.length c0) (.slice (some ⟨mg, mo, Option.none⟩) img.length mc) rv s.send) 84 (0, 0))) (s.out init img) (Dec dp dd * (RestS rv rest * (ownR iv init * (ownR (.slice (some ⟨ug, uo, Option.none⟩) img.length uc) img * all w)))) w (f 4) true (ev (.tmp 158)) v _
            rw [f1]
            exact hput v Y h1 h2) (Multi2.free_keep (by
              intro P hP
              simp only [List.mem_cons, List.not_mem_nil, or_false] at hP
              rcases hP with rfl | rfl | rfl | rfl | rfl | rfl | rfl | rfl | rfl | rfl | rfl | rfl <;> exact fun _ _ _ h => h) _ _)⟩
        · intro f hf0 hw hn ev X hT hb hk hf
          refine ⟨true, hf.2.1, fun _ => ?_, fun h => absurd rfl h⟩
          have fi : f 7 = true := hw 7 (by kernel_rfl)
          have hI : SendI (blk u (.cells (uC iv (.slice (some ⟨ug, uo, Option.none⟩) img.length uc) dp s) 126 (0, 0))) (blk u (.cells (uC iv (.slice (some ⟨ug, uo, Option.none⟩) img.length uc) dp s.send) 126 (0, 0))) (blk m (.cells (mC22 (.slice a0 init.length c0) (.slice (some ⟨mg, mo, Option.none⟩) img.length mc) rv s) 84 (0, 0))) (blk m (.cells (mC22 (.slice a0 init.length c0) (.slice (some ⟨mg, mo, Option.none⟩) img.length mc) rv s.send) 84 (0, 0))) (s.out init img) (Dec dp dd * (RestS rv rest * (ownR iv init * (ownR (.slice (some ⟨ug, uo, Option.none⟩) img.length uc) img * all w)))) w (f 4) (f 7) (ev (.tmp 158)) (ev (.tmp 161)) X := hT
          rw [fi] at hI
          obtain ⟨ba, bc, be, _, _, bl, _⟩ := hI.get4
          exact OpOk.convert rfl be (run_string_of (P := Try.prog) (c := bc) hsu hsb bl _ hst) (Multi2.ended_stay rfl rfl (Stay.refl _))
        · intro f hf0 hw hn ev X hT hb hk hf
          refine ⟨true, hf.2.2.1, fun _ => ?_, fun h => absurd rfl h⟩
          have e0 : ev (.tmp 159) = .string (strOf (s.out init img)) := hf.1
          have e1 : ev (.tmp 162) = .string (strOf (s.out init img)) := hf.2.1
          exact OpOk.run (v := .bool true) (W' := X) (by simp [execOp, e0, e1, hb.1, hb.2.1, hb.2.2, go_sem]) (Multi2.ended_stay rfl rfl (Stay.refl _))
        · intro f hf0 hw hn ev X hT hb hk hf
          have e0 : ev (.tmp 156) = .bool true := hf.1
          have e1 : ev (.tmp 163) = .bool true := hf.2.1
          exact OpOk.run (v := .bool true) (W' := X) (by simp [execOp, e0, e1, hb.1, hb.2.1, hb.2.2, go_sem]) (Multi2.ended_stay rfl rfl (Stay.refl _))
        · intro f hf0 hw hn ev X hT hb hk hf
          have e0 : ev (.tmp 164) = .bool true := hf.1
          exact OpOk.run (v := .bool true) (W' := X) (by simp [execOp, e0, hb.1, hb.2.1, hb.2.2, go_sem]) (Multi2.ended_stay rfl rfl (Stay.refl _))
      case rest =>
        intro X sv hI
        rintro _ ⟨-, rfl⟩ _ ⟨-, rfl⟩ _ ⟨-, rfl⟩ _ ⟨-, rfl⟩ v158 - _ ⟨-, rfl⟩ _ ⟨-, rfl⟩ v161 - _ ⟨-, rfl⟩ _ ⟨-, rfl⟩ _ ⟨-, rfl⟩ _ ⟨-, rfl⟩
        have hF := SendI.done (show SendI (blk u (.cells (uC iv (.slice (some ⟨ug, uo, Option.none⟩) img.length uc) dp s) 126 (0, 0))) (blk u (.cells (uC iv (.slice (some ⟨ug, uo, Option.none⟩) img.length uc) dp s.send) 126 (0, 0))) (blk m (.cells (mC22 (.slice a0 init.length c0) (.slice (some ⟨mg, mo, Option.none⟩) img.length mc) rv s) 84 (0, 0))) (blk m (.cells (mC22 (.slice a0 init.length c0) (.slice (some ⟨mg, mo, Option.none⟩) img.length mc) rv s.send) 84 (0, 0))) (s.out init img) (Dec dp dd * (RestS rv rest * (ownR iv init * (ownR (.slice (some ⟨ug, uo, Option.none⟩) img.length uc) img * all w)))) w true true (sv 4) (sv 7) X from hI)
        have hF1 := hF.1
        rw [show ∀ A B C D : SP, A * (C * (B * D)) = A * (B * (C * D)) from fun A B C D => by ac_rfl] at hF1
        have H8 : Hid (((blk u (.cells (uC iv (.slice (some ⟨ug, uo, Option.none⟩) img.length uc) dp s.send) 126 (0, 0)) * (Dec dp dd * (blk m (.cells (mC22 (.slice a0 init.length c0) (.slice (some ⟨mg, mo, Option.none⟩) img.length mc) rv s.send) 84 (0, 0)) * (RestS rv rest * (ownR iv init * (ownR (.slice (some ⟨ug, uo, Option.none⟩) img.length uc) img * all w))))))).on X) := hide hF1
        have S8z := hide hF.2
        clear hI hF hF1 HSu HSm
        clear H6 S6
        have hW8 := all_below H8.out.right.right.right.right.right.right S8z.out
        go_wp2
        refine Rest.done ?_
        go_wp2_with fail
        go_ret
        exact ⟨rfl, hW8⟩
namespace lawUploaderActs
theorem own : ownKnob Try.prog.godebug = Option.none := by kernel_rfl
theorem laidOut : laidOutB Try.prog = true := by kernel_rfl
set_option maxRecDepth 100000 in
theorem lifted (os : Os) (started : os.Started) (H : Type) (enc : TypeId × Value → H) :
    ReturnsInHanded {} Try.checked os 7 .any (Rows.uploaderActsSpec.pre6 enc Try.prog Try.f7 Rows.uploaderActsRow.domain false) (Rows.uploaderActsSpec.post enc Try.prog Try.f7 false true false false) := by
  refine returnsInHanded_of_change_sized (C := Try.checked) own started (by kernel_rfl) Try.func7
    (ChangeSpec.witness6 (enc := enc) (C := Try.checked) false ⟨#[], #[.slice Option.none 0 0, .slice Option.none 0 0, .slice Option.none 0 0], []⟩ 8 (by kernel_rfl) (by kernel_rfl) (by kernel_rfl) (by kernel_rfl)) ?_
  intro W base args ds gs before hval0 hW hcnd hsz _
  have hval : ∀ (j : Nat) t v, Try.f7.params[j]? = some t → args[j]? = some v → Value.okWide Try.prog W .any base t v := hval0
  have hW' := hW
  obtain ⟨p, q, hA0, hV, rfl, hfz, hnd⟩ := hW
  have hA : DataW.TrodAll enc Try.prog W 0 (fun _ => true) true Try.f7.params.toList args.toList ds p := hA0
  rw [Try.params7] at hA hval
  obtain ⟨v0, vs0, d0, ds0, p0, q0, hargs, rfl, rfl, h0, r0⟩ := trodAll_cons hA
  obtain ⟨v1, vs1, d1, ds1, p1, q1, rfl, rfl, rfl, h1, r1⟩ := trodAll_cons r0
  obtain ⟨v2, vs2, d2, ds2, p2, q2, rfl, rfl, rfl, h2, r2⟩ := trodAll_cons r1
  obtain ⟨rfl, rfl, rfl⟩ := trodAll_nil r2
  obtain rfl : args = #[v0, v1, v2] := by cases args; simp_all
  obtain ⟨rfl, rfl⟩ := trodVars_none hV
  have k0 := h0
  have lt0 : ∀ x ∈ p0, x.block < W.heap.size := by obtain ⟨m, hm⟩ := k0; exact DataW.trod_lt m _ _ _ hm
  obtain ⟨l0, b0, n0⟩ := open_bytes Try.underlying33 Try.underlying5 (by kernel_rfl) (hval 0 33 v0 rfl rfl) h0
  have k1 := h1
  have lt1 : ∀ x ∈ p1, x.block < W.heap.size := by obtain ⟨m, hm⟩ := k1; exact DataW.trod_lt m _ _ _ hm
  obtain ⟨l1, b1, n1⟩ := open_bytes Try.underlying33 Try.underlying5 (by kernel_rfl) (hval 1 33 v1 rfl rfl) h1
  have k2 := h2
  have lt2 : ∀ x ∈ p2, x.block < W.heap.size := by obtain ⟨m, hm⟩ := k2; exact DataW.trod_lt m _ _ _ hm
  obtain ⟨l2, b2, g2⟩ := open_each auC (fun y : AcU => y.Good W) Try.underlying78 (show Try.prog.cellsOf 86 = 5 by kernel_rfl) (by decide) each_actU (hval 2 78 v2 rfl rfl) h2
  clear hA0 hval0 hsz
  refine (walk_UploaderActs W v0 l0 b0 v1 l1 b1 v2 l2 b2 g2).mono fun e W' ⟨he, bel⟩ => ?_
  subst he
  exact ⟨_, rfl, _, _, _, [], _, [], hW', trodAll_mk1 (shut_bool Try.underlying4 _), (trodAll_cons_mk (Below.trod laidOut (by kernel_rfl) (of_decide_eq_true (by kernel_rfl)) k0 bel lt0) (trodAll_cons_mk (Below.trod laidOut (by kernel_rfl) (of_decide_eq_true (by kernel_rfl)) k1 bel lt1) (trodAll_cons_mk (Below.trod laidOut (by kernel_rfl) (of_decide_eq_true (by kernel_rfl)) k2 bel lt2) trodAll_mk0))), rfl, bel.frame _, fun h => by cases h⟩

theorem over : Rows.uploaderActsRow.holds Try.pinned (OpenSpec.ofChange Rows.uploaderActsSpec) :=
  OpenClaim.holds_of_wide 7 Try.f7 rfl rfl rfl rfl rfl rfl rfl ⟨rfl, rfl, rfl, rfl, rfl⟩ rfl rfl rfl rfl rfl (by kernel_rfl) Try.func7 (by kernel_rfl)
    (of_decide_eq_true (by kernel_rfl)) (by unfold Func.isWrapper; first | (rw [if_pos (by decide +kernel)]; kernel_rfl) | (rw [if_neg (by decide +kernel)]; exact ⟨rfl, rfl⟩))
    (fun os started H enc _ => lifted os started H enc)

theorem proved : Rows.UploaderActsSaid := over
end lawUploaderActs
end Go.Proofs.Ytjmgnfpcieofkaa
