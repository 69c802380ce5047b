/- The law UploaderActs: an uploader hears bytes. -/
import Derived.Test.YtjmgnfpcieofkaaUA3
import Derived.Test.YtjmgnfpcieofkaaGDs
namespace Go.Proofs.Ytjmgnfpcieofkaa
open Go.ChangeShapes Go.WideShapes Go.ChangeAt Go.RowKit
set_option linter.unusedVariables false
set_option linter.unusedSimpArgs false

theorem feed_len (s : DsS) (c : UInt8) : (s.feed c).1.length ≤ s.text.length := by
  unfold DsS.feed
  repeat' split
  all_goals first | exact Nat.le_refl _ | exact Nat.zero_le _
theorem run_ok {s : DsS} (h : s.Ok) (b : List UInt8) : (run s b).2.Ok := by
  rw [← feedK_all]
  exact feedK_ok h b _
theorem run_snoc (s : DsS) (b : List UInt8) (c : UInt8) : run s (b ++ [c]) = ((run s b).1 ++ [evOf ((run s b).2.feed c)], ((run s b).2.feed c).2.2) := by
  rw [run_append]
  rfl
theorem hears_snoc (img : List UInt8) (u : US) (s : DsS) (b : List UInt8) (c : UInt8) : u.hears img (run s (b ++ [c])).1 = (u.hears img (run s b).1).hear img ((run s b).2.feed c).1 := by
  rw [run_snoc, US.hears_append, ← hear_feed]
  rfl
theorem ansGot_len : ∀ t : List UInt8, (ansGot t).data.length ≤ t.length
  | [] => Nat.le_refl _
  | [_] => Nat.zero_le _
  | [_, _] => Nat.zero_le _
  | x :: y :: z :: d => by
    show (if x = 96 then (⟨y, z, d⟩ : AnsS) else zeroA).data.length ≤ _
    by_cases h : x = 96
    · rw [if_pos h]
      simp only [List.length_cons]
      omega
    · rw [if_neg h]
      exact Nat.zero_le _
theorem resp_hz (X : World) : (zeroValue 137).run Try.prog X = .ok (.agg za) X := by kernel_rfl
theorem resp_info (q : AnsS) (v : Value) : (Try.prog.info? 137).map (·.size) = some (respCells q v).size := by rw [show (respCells q v).size = 3 from rfl]; kernel_rfl

set_option maxRecDepth 100000 in
set_option maxHeartbeats 8000000 in
theorem uhear_any (p : Nat) (iv : Value) (dp : Nat) (s : US) (mg mo mc : Nat) (img : List UInt8) (hl : img.length ≤ 4096) (hmc : img.length ≤ mc) (ds : DsS) (F : SP) (w : World) (h : (blk p (.cells (uC iv (.slice (some ⟨mg, mo, Option.none⟩) img.length mc) dp s) 126 (0, 0)) * (Dec dp ds * F)).on w)
    (hmv : ∀ W, F.on W → IsBytes W (.slice (some ⟨mg, mo, Option.none⟩) img.length mc) img) (ok : s.Ok img) (okd : ds.Ok) (v : Value) (b : List UInt8) (hbl : b.length ≤ 1000000) (hrd : ∀ W, F.on W → IsBytes W v b) :
    Calls Try.prog 42 #[ptrV p, v] w fun e w' => (∃ v, e = .returned v) ∧ (blk p (.cells (uC iv (.slice (some ⟨mg, mo, Option.none⟩) img.length mc) dp (s.hears img (run ds b).1)) 126 (0, 0)) * (Dec dp (run ds b).2 * F)).on w' ∧ Str w w' := by
  have hu := Try.underlying126
  have hur := Try.underlying137
  have hzr := resp_hz
  obtain ⟨ba, bc, rfl, hbc, hbm, _, _⟩ := hrd w h.right.right
  unfold maxLen at hbm
  have H := hide h
  have Hrd := hide hrd
  have Hok := hide ok
  have Hokd := hide okd
  clear h hrd ok okd
  go_enter Try.func42, Try.ntmps42
  go_wp2_with fail
  go_loopw [14] (fun i wr => ∃ (k : Nat) (u : US) (dv : DsS), k ≤ b.length ∧ i = .int .i64 k ∧ u = s.hears img (run ds (b.take k)).1 ∧ dv = (run ds (b.take k)).2 ∧ (blk p (.cells (uC iv (.slice (some ⟨mg, mo, Option.none⟩) img.length mc) dp u) 126 (0, 0)) * (Dec dp dv * F)).on wr ∧ Str w wr) (fun i _ => b.length - (intOf i).toNat)
  case atStart => exact ⟨0, s, ds, by omega, rfl, rfl, rfl, H.out, Str.refl _⟩
  case round =>
    clear H
    obtain ⟨k, u, dv, hk, rfl, hue, hde, hw, hstr⟩ := hrel
    by_cases hkl : k < b.length
    · obtain ⟨bg, bo, c9, hbe, cb⟩ := IsBytes.at (Hrd.out wr hw.right.right) k hkl
      cases hbe
      have htk : b.take (k + 1) = b.take k ++ [b.getD k 0] := by
        rw [List.take_add_one, List.getD_eq_getElem?_getD, List.getElem?_eq_getElem hkl]
        rfl
      have hu2 : s.hears img (run ds (b.take (k + 1))).1 = u.hear img (dv.feed (b.getD k 0)).1 := by rw [htk, hears_snoc, ← hue, ← hde]
      have hd2 : (run ds (b.take (k + 1))).2 = (dv.feed (b.getD k 0)).2.2 := by rw [htk, run_snoc, ← hde]
      have hok : u.Ok img := by rw [hue]; exact US.hears_ok hl _ Hok.out
      have hod : dv.Ok := by rw [hde]; exact run_ok Hokd.out _
      have Hu2 := hide hu2
      have Hd2 := hide hd2
      have Hou := hide hok
      have hfl := feed_len dv (b.getD k 0)
      have hml := hod.text
      have hmm := hod.most
      have hF := feed_any dp dv _ wr (show (Dec dp dv * (blk p (.cells (uC iv (.slice (some ⟨mg, mo, Option.none⟩) img.length mc) dp u) 126 (0, 0)) * F)).on wr from by rw [SP.mul_left_comm]; exact hw) hod (b.getD k 0)
      have q2 : wr.cell? ⟨p, 2, Option.none⟩ = some (dptr dp) := cell_of_row wr p 2 _ _ _ (on_blk_mul hw)
      have HF := hide hF
      have Hstr := hide hstr
      generalize b.getD k 0 = c at *
      clear hue hde htk hu2 hd2 hok hod hw hstr hF
      go_wp2_with fail
      refine HF.out.mono ?_
      clear HF q2
      rintro e w2 ⟨v5, rfl, hq, hs⟩
      obtain ⟨x, rfl, h2⟩ := feedQ.out hq
      have hxb := own_bytes h2
      have S2 := hide (Hstr.out.trans hs)
      have hA := hide (answered_any x (dv.feed c).1 w2 hxb (by omega))
      obtain ⟨xa, xc, rfl, _, _, _, _⟩ := own_value h2
      have H2 := hide h2.right
      have Hht := hide (show u.hear img (dv.feed c).1 = if ansErr (dv.feed c).1 = 0 then u.answer img (ansGot (dv.feed c).1).op (ansGot (dv.feed c).1).result (ansGot (dv.feed c).1).data else u from rfl)
      have hgl := ansGot_len (dv.feed c).1
      generalize (dv.feed c).2.2 = dv2 at *
      generalize (dv.feed c).2.1 = er5 at *
      generalize (dv.feed c).1 = t at *
      clear hq h2 hs hxb
      go_wp2_with fail
      refine hA.out.mono ?_
      clear hA
      rintro e w3 ⟨rv, rfl, ho, hs⟩
      have hrb := own_bytes ho
      have h3 := (on_all_to ho H2.out).alloc (.cells za 137)
      generalize ansErr t = er at *
      generalize ansGot t = q at *
      obtain ⟨ra, rc, rfl, _, _, _, _⟩ := own_value ho
      have gA := hide (on_blk_mul h3)
      have H4 := hide (h3.setRow (respCells q (.slice ra q.data.length rc)))
      have S4 := hide (((S2.out.trans hs).alloc (.cells za 137)).setRow w3.heap.size (respCells q (.slice ra q.data.length rc)))
      have HsR := hide (resp_info q (.slice ra q.data.length rc))
      have HoR := hide (resp_one q ra q.data.length rc)
      have HzS := hide (za_size q (.slice ra q.data.length rc))
      have hstop : ∀ p : Prop, Hid p → p := fun _ h => h.out
      clear ho hs h3 H2 S2 hrb
      go_wp2_with (first | (refine wpList_store_row rfl _ _ _ rfl w3.heap.size (respCells q (.slice ra q.data.length rc)) rfl rfl _ _ gA.out HsR.out HzS.out HoR.out ?_; refine hstop _ ?_))
      refine hide ?_
      clear hstop gA
      generalize (w3.alloc (.cells za 137)).setRow w3.heap.size (respCells q (.slice ra q.data.length rc)) = W4 at *
      generalize w3.heap.size = g8 at *
      have gR := on_blk_mul H4.out
      have h5 : (blk p (.cells (uC iv (.slice (some ⟨mg, mo, Option.none⟩) img.length mc) dp u) 126 (0, 0)) * (Dec dp dv2 * (F * (blk g8 (.cells (respCells q (.slice ra q.data.length rc)) 137 (0, 0)) * ownR (.slice ra q.data.length rc) q.data)))).on W4 := by
        have h9 := H4.out
        rw [show blk g8 (.cells (respCells q (.slice ra q.data.length rc)) 137 (0, 0)) * (ownR (.slice ra q.data.length rc) q.data * (Dec dp dv2 * (blk p (.cells (uC iv (.slice (some ⟨mg, mo, Option.none⟩) img.length mc) dp u) 126 (0, 0)) * F))) = blk p (.cells (uC iv (.slice (some ⟨mg, mo, Option.none⟩) img.length mc) dp u) 126 (0, 0)) * (Dec dp dv2 * (F * (blk g8 (.cells (respCells q (.slice ra q.data.length rc)) 137 (0, 0)) * ownR (.slice ra q.data.length rc) q.data))) by ac_rfl] at h9
        exact h9
      have hda := own_bytes H4.out.right
      have H5 := hide h5
      by_cases he : er = 0
      · have hhe : u.hear img t = u.answer img q.op q.result q.data := by rw [Hht.out, if_pos he]
        have Hhe := hide hhe
        have hQ := hide (uanswered_any p iv dp u mg mo mc img hl hmc _ W4 H5.out (fun W hW => hmv W hW.right.left) Hou.out q _ hda (by omega))
        subst he
        rw [show ((0 : Nat) : Int) = 0 from rfl]
        clear h5 hda hhe
        go_wp2_with (first | (refine wpList_load_row rfl _ _ rfl g8 rfl _ (respCells q (.slice ra q.data.length rc)) _ _ gR hur rfl HsR.out ?_))
        refine hQ.out.mono ?_
        clear hQ gR
        rintro e w6 ⟨⟨v6, rfl⟩, h6, hs6⟩
        have H6 := hide (show (blk p (.cells (uC iv (.slice (some ⟨mg, mo, Option.none⟩) img.length mc) dp (u.answer img q.op q.result q.data)) 126 (0, 0)) * (Dec dp dv2 * F)).on w6 from SP.le.on (SP.le.mul (SP.le.refl _) (SP.le.mul (SP.le.refl _) (SP.le_left _ _))) h6)
        have S6 := hide (S4.out.trans hs6)
        clear h6 hs6 H4 H5 S4
        go_wp2_with fail
        exact ⟨⟨k + 1, _, _, by omega, by simp, by rw [Hu2.out, Hhe.out], by rw [Hd2.out], H6.out, S6.out⟩, by simp [intOf]; omega⟩
      · have hhe : u.hear img t = u := by rw [Hht.out, if_neg he]
        have Hhe := hide hhe
        have e1 : (((er : Nat) : Int) == 0) = false := by simp only [beq_eq_false_iff_ne, ne_eq]; omega
        have H6 := hide (show (blk p (.cells (uC iv (.slice (some ⟨mg, mo, Option.none⟩) img.length mc) dp u) 126 (0, 0)) * (Dec dp dv2 * F)).on W4 from SP.le.on (SP.le.mul (SP.le.refl _) (SP.le.mul (SP.le.refl _) (SP.le_left _ _))) H5.out)
        clear h5 hda hhe he gR
        go_wp2_with fail
        exact ⟨⟨k + 1, _, _, by omega, by simp, by rw [Hu2.out, Hhe.out], by rw [Hd2.out], H6.out, S4.out⟩, by simp [intOf]; omega⟩
    · have hjb : k = b.length := by omega
      subst hjb
      rw [List.take_length] at hue hde
      have Hue := hide hue
      have Hde := hide hde
      have Hw := hide hw
      have Hstr := hide hstr
      clear hue hde hw hstr
      go_wp2_with fail
      go_end0
      have h9 := Hw.out
      rw [Hue.out, Hde.out] at h9
      exact ⟨⟨_, rfl⟩, h9, Hstr.out⟩
end Go.Proofs.Ytjmgnfpcieofkaa
