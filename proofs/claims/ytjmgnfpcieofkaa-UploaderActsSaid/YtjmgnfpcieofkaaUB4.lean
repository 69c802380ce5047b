/- The law UploaderActs: what an uploader sends; a new one, with what it has. -/
import Derived.Test.YtjmgnfpcieofkaaUB3
import Derived.Test.YtjmgnfpcieofkaaUA6
namespace Go.Proofs.Ytjmgnfpcieofkaa
open Go.ChangeShapes Go.WideShapes Go.ChangeAt Go.RowKit
set_option linter.unusedVariables false
set_option linter.unusedSimpArgs false

theorem ureqs_any (p : Nat) (iv : Value) (dp : Nat) (s : US) (mg mo mc : Nat) (init img : List UInt8) (hil : 1 ≤ init.length ∧ init.length ≤ 128) (hl : img.length ≤ 4096) (hmc : img.length ≤ mc) (hmx : mc ≤ 9223372036854775807) (F : SP) (w : World) (h : (blk p (.cells (uC iv (.slice (some ⟨mg, mo, Option.none⟩) img.length mc) dp s) 126 (0, 0)) * F).on w) (hi : ∃ ig io ic, iv = .slice (some ⟨ig, io, Option.none⟩) init.length ic ∧ init.length ≤ ic ∧ ic ≤ 9223372036854775807) (hib : IsBytes w iv init) (hm : IsBytes w (.slice (some ⟨mg, mo, Option.none⟩) img.length mc) img) (ok : s.Ok img) :
    Calls Try.prog 66 #[ptrV p] w (UReqs init img s w) := by
  have hg := on_blk_mul h
  have hc : w.cell? ⟨p, 3, Option.none⟩ = some (.int .i64 (s.phase : Int)) := cell_of_row w p 3 _ _ _ hg
  have hc0 : w.cell? ⟨p, 0, Option.none⟩ = some iv := cell_of_row w p 0 _ _ _ hg
  have hph := ok.phase
  obtain ⟨k, hk⟩ : ∃ k, k = s.phase := ⟨_, rfl⟩
  match k, hk with
  | 0, hk =>
    rw [← hk] at hc
    refine (upgreet_any p w hc).mono ?_
    rintro e w' ⟨v, rfl, h1, h2⟩
    refine ⟨v, greetQ, rfl, h1, ?_, by decide, h2⟩
    unfold US.texts
    rw [if_pos hk.symm]
    show [encT ⟨2, 0, 0, []⟩, encT ⟨6, 1, 0, []⟩] = _
    rw [show encT ⟨2, 0, 0, []⟩ = [2, 0, 0] by kernel_rfl, show encT ⟨6, 1, 0, []⟩ = [6, 1] by kernel_rfl]
  | 1, hk =>
    rw [← hk] at hc
    obtain ⟨ig, io, ic, rfl, hi1, hi2⟩ := hi
    refine (ureq_offer p ig io ic init hi1 (by omega) hi2 w hc hc0 hib).mono ?_
    rintro e w' ⟨v, rfl, h1, h2⟩
    refine ⟨v, _, rfl, h1, ?_, ?_, h2⟩
    · unfold US.texts
      rw [if_neg (by omega), if_pos hk.symm, List.map_append, sendR_texts 1 ig io ic init (by omega)]
      show _ ++ [encT ⟨4, 0, 0, []⟩] = _
      rw [show encT ⟨4, 0, 0, []⟩ = [4] by kernel_rfl]
    · have := sendR_len 1 ig io ic init (by omega)
      rw [List.length_append, List.length_singleton]
      omega
  | 2, hk =>
    rw [← hk] at hc
    refine (ureq_look p w hc).mono ?_
    rintro e w' ⟨v, rfl, h1, h2⟩
    refine ⟨v, _, rfl, h1, ?_, by decide, h2⟩
    unfold US.texts
    rw [if_neg (by omega), if_neg (by omega), if_pos hk.symm]
    show [encT ⟨6, 2, 0, []⟩] = _
    rw [show encT ⟨6, 2, 0, []⟩ = [6, 2] by kernel_rfl]
  | 3, hk =>
    have hfr := ok.here (.inl hk.symm)
    refine (ureq_feed p iv dp s mg mo mc img hfr hl F w h hmc hmx hm hk.symm).mono ?_
    rintro e w' ⟨v, rfl, h1, h2⟩
    have hol : (objU img s.from').length ≤ 4096 := by rw [objU_len]; omega
    refine ⟨v, _, rfl, h1, ?_, ?_, h2⟩
    · unfold US.texts
      rw [if_neg (by omega), if_neg (by omega), if_neg (by omega), if_pos hk.symm, sendR_texts 2 _ _ _ _ hol]
    · have := sendR_len 2 mg (mo + s.from') (mc - s.from') (objU img s.from') hol
      omega
  | 4, hk =>
    rw [← hk] at hc
    refine (ureq_commit p w hc).mono ?_
    rintro e w' ⟨v, rfl, h1, h2⟩
    refine ⟨v, _, rfl, h1, ?_, by decide, h2⟩
    unfold US.texts
    rw [if_neg (by omega), if_neg (by omega), if_neg (by omega), if_neg (by omega), if_pos hk.symm]
    show [encT ⟨4, 0, 0, []⟩] = _
    rw [show encT ⟨4, 0, 0, []⟩ = [4] by kernel_rfl]
  | 5, hk =>
    rw [← hk] at hc
    refine (ureq_done p w hc).mono ?_
    rintro e w' ⟨v, rfl, h1, h2⟩
    refine ⟨v, _, rfl, h1, ?_, by decide, h2⟩
    unfold US.texts
    rw [if_neg (by omega), if_neg (by omega), if_neg (by omega), if_neg (by omega), if_neg (by omega)]
    rfl
  | k + 6, hk => omega

set_option maxRecDepth 100000 in
set_option maxHeartbeats 8000000 in
theorem usend_any (p : Nat) (iv : Value) (dp : Nat) (s : US) (mg mo mc : Nat) (init img : List UInt8) (hil : 1 ≤ init.length ∧ init.length ≤ 128) (hl : img.length ≤ 4096) (hmc : img.length ≤ mc) (hmx : mc ≤ 9223372036854775807) (F : SP) (w : World) (h : (blk p (.cells (uC iv (.slice (some ⟨mg, mo, Option.none⟩) img.length mc) dp s) 126 (0, 0)) * F).on w) (hi : ∃ ig io ic, iv = .slice (some ⟨ig, io, Option.none⟩) init.length ic ∧ init.length ≤ ic ∧ ic ≤ 9223372036854775807) (hiv : ∀ W, F.on W → IsBytes W iv init) (hmv : ∀ W, F.on W → IsBytes W (.slice (some ⟨mg, mo, Option.none⟩) img.length mc) img) (ok : s.Ok img) (hsn : s.sends ≤ 100000) :
    Calls Try.prog 36 #[ptrV p] w (Ends w (blk p (.cells (uC iv (.slice (some ⟨mg, mo, Option.none⟩) img.length mc) dp s.send) 126 (0, 0)) * F) fun v => ownR v (s.out init img)) := by
  have hu := Try.underlying126
  have hg := on_blk_mul h
  by_cases hsent : s.sent = true
  · have e1 : s.send = s := by unfold US.send; rw [if_pos hsent]
    have e2 : s.out init img = [] := by unfold US.out; rw [if_pos hsent]
    rw [e1, e2]
    have c4 : w.cell? ⟨p, 4, Option.none⟩ = some (.bool true) := by
      have h9 : w.cell? ⟨p, 4, Option.none⟩ = some (.bool s.sent) := cell_of_row w p 4 _ _ _ hg
      rw [hsent] at h9
      exact h9
    refine (upsend_sent p w c4).mono ?_
    rintro e w' ⟨rfl, rfl⟩
    exact ⟨_, rfl, own_nil _ 1 h, Str.refl w⟩
  · have e1 : s.send = ({ s with sent := true, sends := s.sends + 1 } : US) := by unfold US.send; rw [if_neg hsent]
    have e2 : s.out init img = frames (s.texts init img) := by unfold US.out; rw [if_neg hsent]
    have e3 : ({ s with sent := true, sends := s.sends + 1 } : US).texts init img = s.texts init img := rfl
    have ok2 : ({ s with sent := true, sends := s.sends + 1 } : US).Ok img := ⟨ok.phase, ok.waited, ok.from', ok.sum, ok.here⟩
    rw [e1, e2, ← e3]
    have hsf : s.sent = false := by simpa using hsent
    have f4 := frozen_of_row w p 4 _ _ hg
    have f6 := frozen_of_row w p 6 _ _ hg
    have c4 : w.cell? ⟨p, 4, Option.none⟩ = some (.bool false) := by
      have h9 : w.cell? ⟨p, 4, Option.none⟩ = some (.bool s.sent) := cell_of_row w p 4 _ _ _ hg
      rw [hsf] at h9
      exact h9
    have h1 := SP.on.setCell (i := 4) h (.bool true)
    have hg1 := on_blk_mul h1
    have c6 : (w.setCell ⟨p, 4, Option.none⟩ (.bool true)).cell? ⟨p, 6, Option.none⟩ = some (.int .i64 (s.sends : Int)) := cell_of_row _ _ 6 _ _ _ hg1
    have f61 := frozen_of_row (w.setCell ⟨p, 4, Option.none⟩ (.bool true)) p 6 _ _ hg1
    have h2 := SP.on.setCell (i := 6) h1 (.int .i64 ((s.sends : Int) + 1))
    have H2 : Hid ((blk p (.cells (uC iv (.slice (some ⟨mg, mo, Option.none⟩) img.length mc) dp ({ s with sent := true, sends := s.sends + 1 } : US)) 126 (0, 0)) * F).on ((w.setCell ⟨p, 4, Option.none⟩ (.bool true)).setCell ⟨p, 6, Option.none⟩ (.int .i64 ((s.sends : Int) + 1)))) := hide h2
    have HS2 := hide (((Str.refl w).setCell ⟨p, 4, Option.none⟩ (.bool true)).setCell ⟨p, 6, Option.none⟩ (.int .i64 ((s.sends : Int) + 1)))
    have hE := hide (ureqs_any p iv dp ({ s with sent := true, sends := s.sends + 1 } : US) mg mo mc init img hil hl hmc hmx F _ H2.out hi (hiv _ H2.out.right) (hmv _ H2.out.right) ok2)
    clear h h1 h2 hg hg1 e1 e2 e3 ok2 hsf hi hiv hmv
    generalize ({ s with sent := true, sends := s.sends + 1 } : US) = s2 at *
    go_enter Try.func36, Try.ntmps36
    go_wp2_with fail
    generalize (w.setCell ⟨p, 4, Option.none⟩ (.bool true)).setCell ⟨p, 6, Option.none⟩ (.int .i64 ((s.sends : Int) + 1)) = w1 at *
    refine hE.out.mono ?_
    clear hE
    rintro e w2 ⟨v, L, rfl, hq, htx, hL, hb⟩
    have hE := upframes_any v L w2 hq hL
    rw [htx] at hE
    have H3 := hide (H2.out.below hb)
    have HS3 := hide (HS2.out.trans (Str.below hb))
    have HE := hide hE
    obtain ⟨va, vc, rfl, _, _, _, _⟩ := hq
    clear hb hE htx
    go_wp2_with fail
    refine HE.out.mono ?_
    clear HE
    rintro e w3 ⟨u, rfl, ho, hs⟩
    have H4 := hide (on_all_to ho H3.out)
    have HS4 := hide (HS3.out.trans hs)
    obtain ⟨ua, uc, rfl, _, _, _, _⟩ := own_value ho
    clear ho hs
    go_wp2_with fail
    go_ret
    exact ⟨_, rfl, H4.out, HS4.out⟩

def US.new : US := ⟨0, false, 0, 0, 0, 0⟩
def UpNewF (l1 l2 : List UInt8) (w : World) (e : Ending) (w' : World) : Prop := ∃ p iv mv dp, e = .returned (.tuple #[.pointer (some ⟨p, 0, Option.none⟩), .int .i64 0]) ∧ (blk p (.cells (uC iv mv dp US.new) 126 (0, 0)) * (Dec dp ⟨[], 70, false, false⟩ * (ownR iv l1 * (ownR mv l2 * all w)))).on w' ∧ Str w w'

set_option maxRecDepth 100000 in
set_option maxHeartbeats 8000000 in
theorem upnewf_any (v1 v2 : Value) (l1 l2 : List UInt8) (w : World) (h1 : IsBytes w v1 l1) (h2 : IsBytes w v2 l2) (a1 : 1 ≤ l1.length) (b1 : l1.length ≤ 128) (a2 : 1 ≤ l2.length) (b2 : l2.length ≤ 4096) :
    Calls Try.prog 35 #[v1, v2] w (UpNewF l1 l2 w) := by
  have hu := Try.underlying33
  have hE := dnew_any 70 (by decide) (by decide) w
  have H1 := hide h1
  have H2 := hide h2
  obtain ⟨x1, c1, rfl, hc1, hm1, _, _⟩ := h1
  obtain ⟨x2, c2, rfl, hc2, hm2, _, _⟩ := h2
  unfold maxLen at hm1 hm2
  go_enter Try.func35, Try.ntmps35
  go_wp2_with fail
  refine hE.mono ?_
  clear hE
  rintro e w2 ⟨v, rfl, ho, hs⟩
  obtain ⟨dp, rfl, hd⟩ := dnewQ.out ho
  have HD := hide hd
  have HS := hide hs
  clear ho hd hs
  have H0 := hide (own_nil 5 1 HD.out)
  go_wp2_with (first
    | (at_builtin; refine wpList_append_bytes (F := own 5 1 (.slice oa3 l1.length oc3) l1.length (vbs l1) * (Dec dp ⟨[], 70, false, false⟩ * all w)) rfl _ _ 33 rfl 5 hu infoR _ [] l2 rfl H4.out _ rfl (H2.out.below (all_below Ho3.out.right.right Hs3.out)) (by simp; omega) ?_; intro v4 w4 ho4 hs4; rw [List.nil_append] at ho4; obtain ⟨oa4, oc4, rfl, _, _, _, _⟩ := own_value ho4; have Ho4 := hide ho4; have Hs4 := hide (Hs3.out.trans hs4); clear ho4 hs4)
    | (at_builtin; refine wpList_append_bytes (F := Dec dp ⟨[], 70, false, false⟩ * all w) rfl _ _ 33 rfl 5 hu infoR _ [] l1 rfl H0.out _ rfl (H1.out.below (all_below HD.out.right HS.out)) (by simp; omega) ?_; intro v3 w3 ho3 hs3; rw [List.nil_append] at ho3; obtain ⟨oa3, oc3, rfl, _, _, _, _⟩ := own_value ho3; have Ho3 := hide ho3; have Hs3 := hide (HS.out.trans hs3); have H4 := hide (own_nil 5 1 ho3); clear ho3 hs3))
  go_ret2
  refine ⟨w4.heap.size, Value.slice oa3 l1.length oc3, Value.slice oa4 l2.length oc4, dp, rfl, ?_, Hs4.out.alloc _⟩
  have h9 := SP.on.alloc Ho4.out (.cells (uC (.slice oa3 l1.length oc3) (.slice oa4 l2.length oc4) dp US.new) 126)
  rw [show ∀ A B C D E : SP, A * (B * (C * (D * E))) = A * (D * (C * (B * E))) from fun A B C D E => by ac_rfl] at h9
  exact h9
end Go.Proofs.Ytjmgnfpcieofkaa
