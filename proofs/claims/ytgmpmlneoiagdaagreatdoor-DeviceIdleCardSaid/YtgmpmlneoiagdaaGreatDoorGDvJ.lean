/- LAID TOGETHER: Dv29, Dv30, Dv31. -/
import Derived.Test.YtgmpmlneoiagdaaGreatDoorGDvI
import Derived.Test.YtgmpmlneoiagdaaGreatDoorGSlip
import Derived.Test.YtgmpmlneoiagdaaGreatDoorGDs
import Derived.Test.YtgmpmlneoiagdaaGreatDoorAllOn
import Derived.Test.YtgmpmlneoiagdaaGreatDoorGDvC
import Derived.Test.YtgmpmlneoiagdaaGreatDoorGDvF
import Derived.Test.YtgmpmlneoiagdaaGreatDoorGDvE
/- device: it hears any text, on a fresh machine. -/
namespace Go.Proofs.YtgmpmlneoiagdaaGreatDoor
open Go.ChangeShapes Go.WideShapes Go.ChangeAt Go.RowKit
set_option linter.unusedVariables false
set_option linter.unusedSimpArgs false

theorem form_ops : ∀ n, n < 256 → (formOf (UInt8.ofNat n)).isSome = true → n = 8 ∨ (n = 0 ∨ n = 1 ∨ n = 2 ∨ n = 3 ∨ n = 4 ∨ n = 6 ∨ n = 7 ∨ n = 9 ∨ n = 12) := by decide +kernel
theorem req_ops (l : List UInt8) (he : reqErr l = 0) : ((reqGot l).op = 8 ∨ ((reqGot l).op = 0 ∨ (reqGot l).op = 1 ∨ (reqGot l).op = 2 ∨ (reqGot l).op = 3 ∨ (reqGot l).op = 4 ∨ (reqGot l).op = 6 ∨ (reqGot l).op = 7 ∨ (reqGot l).op = 9 ∨ (reqGot l).op = 12)) ∧ (reqGot l).size < 4294967296 := by
  cases l with
  | nil => exact absurd he (by decide)
  | cons c t =>
    simp only [reqErr] at he
    simp only [reqGot]
    cases hf : formOf c with
    | none => rw [hf] at he; cases he
    | some f =>
      rw [hf] at he
      dsimp only at he ⊢
      rw [if_pos he]
      refine ⟨?_, ?_⟩
      · have h1 := form_ops c.toNat (UInt8.toNat_lt c) (by rw [UInt8.ofNat_toNat, hf]; rfl)
        have h2 : ∀ n : Nat, n < 256 → c.toNat = n → c = UInt8.ofNat n := fun n _ e => by rw [← e, UInt8.ofNat_toNat]
        show c = 8 ∨ _
        rcases h1 with h | h | h | h | h | h | h | h | h | h
        · exact .inl (h2 8 (by decide) h)
        · exact .inr (.inl (h2 0 (by decide) h))
        · exact .inr (.inr (.inl (h2 1 (by decide) h)))
        · exact .inr (.inr (.inr (.inl (h2 2 (by decide) h))))
        · exact .inr (.inr (.inr (.inr (.inl (h2 3 (by decide) h)))))
        · exact .inr (.inr (.inr (.inr (.inr (.inl (h2 4 (by decide) h))))))
        · exact .inr (.inr (.inr (.inr (.inr (.inr (.inl (h2 6 (by decide) h)))))))
        · exact .inr (.inr (.inr (.inr (.inr (.inr (.inr (.inl (h2 7 (by decide) h))))))))
        · exact .inr (.inr (.inr (.inr (.inr (.inr (.inr (.inr (.inl (h2 9 (by decide) h)))))))))
        · exact .inr (.inr (.inr (.inr (.inr (.inr (.inr (.inr (.inr (h2 12 (by decide) h)))))))))
      · show numS t f.kind f.size < 4294967296
        have h1 := numS_lt t f.kind f.size
        have h3 := (formOf_small hf).2.1
        have h4 : 2 ^ (8 * f.size) ≤ 2 ^ 32 := Nat.pow_le_pow_right (by decide) (by omega)
        omega
theorem drespond_any (d m q : Nat) (D : Array Value) (hD : D[40]? = some (.pointer (some ⟨m, 0, Option.none⟩))) (F : SP) (w : World) (h : (blk d (.cells D 67 (0, 0)) * (blk m (.cells (mK q) 127 (0, 0)) * F)).on w) (v : Value) (l : List UInt8) (hv : IsBytes w v l) (hl : l.length ≤ 100000) (hn : l ≠ []) :
    Calls Tryz.prog 51 #[.pointer (some ⟨d, 0, Option.none⟩), v] w (DrEnd d m D F w) := by
  by_cases h0 : reqErr l = 0
  · obtain ⟨h1, h2⟩ := req_ops l h0
    refine drespond_ok d m q D hD F w h v l hv hl h0 fun da dn dc G X hX => ?_
    rcases h1 with h1 | h1
    · have e : reqCells (reqGot l) (.slice da dn dc) = rqC 8 (reqGot l).type (reqGot l).size (.slice da dn dc) := by unfold reqCells; rw [h1]
      rw [e]
      exact ask_write m q _ _ h2 da dn dc G X hX
    · exact ask_resp m q (reqGot l).op h1 _ _ h2 da dn dc G X hX
  · obtain ⟨c, tl, rfl⟩ : ∃ c tl, l = c :: tl := by
      cases l with
      | nil => exact absurd rfl hn
      | cons c tl => exact ⟨c, tl, rfl⟩
    by_cases h9 : reqErr (c :: tl) = 19
    · exact drespond_code d m q D hD F w h v _ hv hl c tl rfl h9
    · exact drespond_form d m q D hD F w h v _ hv hl c tl rfl h0 h9

theorem frames_one (b : List UInt8) : (frames [b]).length ≤ 2 * b.length + 1 := by
  have := (encText_len b).1
  unfold frames frame
  simp
  omega
/-- how a device that waits hears: with an answer, or none -/
def HrEnd (d dp p m : Nat) (s : FlS) (G : SP) (w : World) (e : Ending) (w' : World) : Prop := ∃ (out : Value) (ol : List UInt8) (M : Array Value), e = .returned out ∧ ol.length ≤ 200 ∧ (ownR out ol * (blk d (.cells (dvV (dptr dp) (fptr p) 1 nilV (.pointer (some ⟨m, 0, Option.none⟩)) 0) 67 (0, 0)) * (Flash p s * (blk m (.cells M 127 (0, 0)) * G)))).on w' ∧ Str w w'

set_option maxRecDepth 100000 in
set_option maxHeartbeats 16000000 in
theorem hear_any (d dp p m q t : Nat) (s : FlS) (G : SP) (w : World) (h : (blk d (.cells (dvV (dptr dp) (fptr p) 1 nilV (.pointer (some ⟨m, 0, Option.none⟩)) t) 67 (0, 0)) * (Flash p s * (blk m (.cells (mK q) 127 (0, 0)) * G))).on w) (hoff : s.off = false) (v : Value) (l : List UInt8) (hl : l.length ≤ 100000) (hn : l ≠ []) (hvG : ∀ W, G.on W → IsBytes W v l) :
    Calls Tryz.prog 28 #[.pointer (some ⟨d, 0, Option.none⟩), v] w (HrEnd d dp p m s G w) := by
  have hud := Tryz.underlying67
  have hur := Tryz.underlying93
  have hup := Tryz.underlying100
  have hz := zr_hz
  have hzp := pk_hz
  have hs : (Tryz.prog.info? 93).map (·.size) = some 3 := by kernel_rfl
  have Hps := hide (show (Tryz.prog.info? 100).map (·.size) = some (pkC zP).size by kernel_rfl)
  have Hpo := hide (pkC_one zP)
  have hg := on_blk_mul h
  have f41 := frozen_of_row w d 41 _ _ hg
  have c41 : w.cell? ⟨d, 41, Option.none⟩ = some (.int .i64 (t : Nat)) := by rw [cell_of_row _ _ 41 _ _ _ hg]; exact dvV_get41 _ _ _ _ _ _
  have h1 := h.setCell (i := 41) (.int .i64 ((0 : Nat) : Int))
  rw [dvV_set41] at h1
  have H1 := hide (show (blk d (.cells (dvV (dptr dp) (fptr p) 1 nilV (.pointer (some ⟨m, 0, Option.none⟩)) 0) 67 (0, 0)) * (Flash p s * (blk m (.cells (mK q) 127 (0, 0)) * G))).on (w.setCell ⟨d, 41, Option.none⟩ (.int .i64 0)) from h1)
  have S1 := hide ((Str.refl w).setCell ⟨d, 41, Option.none⟩ (.int .i64 0))
  have hv1 : IsBytes (w.setCell ⟨d, 41, Option.none⟩ (.int .i64 0)) v l := hvG _ H1.out.right.right.right
  have hX := H1.out
  rw [show ∀ A B C E : SP, A * (B * (C * E)) = A * (C * (B * E)) from fun A B C E => by ac_rfl] at hX
  have hR := hide (drespond_any d m q _ (dvV_get40 _ _ _ _ _ _) _ _ hX v l hv1 hl hn)
  obtain ⟨va, vc, rfl, _, _, _, _⟩ := hv1
  clear h h1 hg hvG hX H1
  generalize hPk : pkC zP = Z at *
  have HPk := hide hPk
  clear hPk
  go_enter Tryz.func28, Tryz.ntmps28
  go_wp2_with fail
  generalize w.setCell ⟨d, 41, Option.none⟩ (.int .i64 0) = w1 at *
  refine hR.out.mono ?_
  clear hR f41 c41
  rintro e w2 ⟨op, res, x, body, M, ok, rfl, hM, hlb, ho, hs2⟩
  obtain ⟨oa, oc, rfl, _, _, _, _⟩ := own_value ho
  have h2 := ho.alloc (.cells #[.int .u8 0, .int .u8 0, nV] 93)
  have gA := hide (on_blk_mul h2)
  have Hone : Hid (((rsC op res (.slice oa body.length oc)) : Array Value).all (·.oneCell') = true) := hide (by simp [Value.oneCell', vb])
  have h3 := h2.setRow (rsC op res (.slice oa body.length oc))
  rw [show ∀ R O D M F G : SP, R * (O * (D * (M * (F * G)))) = D * (F * (R * (O * (M * G)))) from fun R O D M F G => by ac_rfl] at h3
  have H3 := hide h3
  have S3 := hide (((S1.out.trans hs2).alloc (.cells #[.int .u8 0, .int .u8 0, nV] 93)).setRow w2.heap.size (rsC op res (.slice oa body.length oc)))
  have HM := hide hM
  have Hlb := hide hlb
  have hstop : ∀ p : Prop, Hid p → p := fun _ h => h.out
  clear ho hs2 h2 h3 S1 hM hlb
  go_wp2_with (refine wpList_store_row rfl _ _ _ rfl w2.heap.size (rsC op res (.slice oa body.length oc)) rfl rfl _ _ gA.out hs rfl Hone.out ?_; refine hstop _ ?_)
  refine hide ?_
  clear hstop gA
  generalize (w2.alloc (.cells #[.int .u8 0, .int .u8 0, nV] 93)).setRow w2.heap.size (rsC op res (.slice oa body.length oc)) = w3 at *
  generalize w2.heap.size = gR at *
  have h4 := H3.out
  have hN := hide (now_on d p _ _ _ 1 0 s _ w3 h4 hoff)
  rw [show ((1 : Nat) : Int) = 1 from rfl] at hN
  have c40 : w3.cell? ⟨d, 40, Option.none⟩ = some (.pointer (some ⟨m, 0, Option.none⟩)) := by rw [cell_of_row _ _ 40 _ _ _ (on_blk_mul h4)]; exact dvV_get40 _ _ _ _ _ _
  rw [show ∀ R O D M F G : SP, D * (F * (R * (O * (M * G)))) = M * (R * (O * (D * (F * G)))) from fun R O D M F G => by ac_rfl] at h4
  have hMc := hide (mcomplete_m m M HM.out _ w3 h4)
  rw [HPk.out] at hMc
  have H4 := hide h4.right
  have H4m := hide h4
  clear h4 H3
  go_wp2_with fail
  refine hN.out.mono ?_
  clear hN
  rintro e _ ⟨rfl, rfl⟩
  go_wp2_with fail
  refine hMc.out.mono ?_
  clear hMc c40
  rintro e w4 ⟨rfl, hb4⟩
  have h5 := H4m.out.below hb4
  have S5 := hide ((S3.out.trans (Str.below hb4)))
  have gZ := hide (heap_alloc_new w4 (.cells Z 100))
  have hbz := below_setRow ((Below.refl w4.heap.size w4).alloc (Nat.le_refl _) (.cells Z 100)) (Nat.le_refl _) Z
  have h7 := h5.below hbz
  rw [show ∀ R O D M F G : SP, M * (R * (O * (D * (F * G)))) = R * (O * (D * (F * (M * G)))) from fun R O D M F G => by ac_rfl] at h7
  have H7 := hide h7
  have S7 := hide ((S5.out.alloc (.cells Z 100)).setRow w4.heap.size Z)
  have hstop : ∀ p : Prop, Hid p → p := fun _ h => h.out
  clear hb4 h5 h7 hbz H4 H4m S3 S5
  go_wp2_with (refine wpList_store_row rfl _ _ _ rfl w4.heap.size Z rfl rfl _ _ gZ.out Hps.out rfl Hpo.out ?_; refine hstop _ ?_)
  refine hide ?_
  clear hstop gZ
  generalize (w4.alloc (.cells Z 100)).setRow w4.heap.size Z = w7 at *
  have g7 := hide (on_blk_mul H7.out)
  cases ok with
  | false =>
    go_wp2_with fail
    go_ret
    exact ⟨_, [], M, rfl, by decide, own_nil 5 1 H7.out.right.right, S7.out⟩
  | true =>
    have hA := hide (aencode_any ⟨op, res, body⟩ (.slice oa body.length oc) w7 (own_bytes H7.out.right) (by have := Hlb.out; show body.length ≤ _; omega))
    go_wp2_with (refine wpList_load_row rfl _ _ rfl gR rfl _ (rsC op res (.slice oa body.length oc)) _ _ g7.out hur rfl hs ?_)
    refine hA.out.mono ?_
    clear hA g7
    rintro e w8 ⟨bv, rfl, ho, hs8⟩
    have hal : (ansBytes ⟨op, res, body⟩).length ≤ 23 := by have := Hlb.out; simp [ansBytes]; omega
    generalize ansBytes ⟨op, res, body⟩ = ab at *
    have hfl := frames_one ab
    have hE := encode_any _ [ab] _ (IsRows.one (own_bytes ho) 22) (by omega)
    generalize frames [ab] = ol at *
    have HE := hide hE
    have Hol := hide (show ol.length ≤ 200 by omega)
    have H9 := hide ((on_all_to ho H7.out.right.right).right.alloc' (.cells #[bv] 22))
    have S9 := hide ((S7.out.trans hs8).alloc (.cells #[bv] 22))
    obtain ⟨ba, bc, rfl, _, _, _, _⟩ := own_value ho
    clear ho hs8 hE H7 S7 hal hfl
    go_wp2_with fail
    refine HE.out.mono ?_
    clear HE
    rintro e w10 ⟨out, rfl, ho, hs10⟩
    have H10 := hide (on_all_to ho H9.out)
    have S10 := hide (S9.out.trans hs10)
    obtain ⟨oa2, oc2, rfl, _, _, _, _⟩ := own_value ho
    clear ho hs10 H9 S9
    go_wp2_with fail
    go_ret
    exact ⟨_, ol, M, rfl, Hol.out, H10.out, S10.out⟩
end Go.Proofs.YtgmpmlneoiagdaaGreatDoor

/- device: fed with a frame. -/
namespace Go.Proofs.YtgmpmlneoiagdaaGreatDoor
open Go.ChangeShapes Go.WideShapes Go.ChangeAt Go.RowKit
set_option linter.unusedVariables false
set_option linter.unusedSimpArgs false

theorem ev_quiet {r : List UInt8 × Nat × DsS} (h : evOf r = zev) : r.1 = [] ∧ r.2.1 = 0 := by
  unfold evOf zev at h
  split at h
  · rename_i h0
    split at h
    · cases h
    · rename_i h1
      exact ⟨by cases hq : r.1 with | nil => rfl | cons y t => rw [hq] at h1; simp at h1, h0⟩
  · cases h
theorem frame_quiet (l : List UInt8) (hl : l.length ≤ 70) (k : Nat) (hk : k < (encText l).length) : ((feedK ⟨[], 70, false, false⟩ (frame l) k).2.feed ((frame l).getD k 0)).1 = [] ∧ ((feedK ⟨[], 70, false, false⟩ (frame l) k).2.feed ((frame l).getD k 0)).2.1 = 0 := by
  refine ev_quiet ?_
  have hfl : (frame l).length = (encText l).length + 1 := by unfold frame; simp
  have h1 : (feedK ⟨[], 70, false, false⟩ (frame l) (k + 1)).1[k]? = some (evOf ((feedK ⟨[], 70, false, false⟩ (frame l) k).2.feed ((frame l).getD k 0))) := by
    show ((feedK ⟨[], 70, false, false⟩ (frame l) k).1 ++ [_])[k]? = _
    rw [List.getElem?_append_right (by rw [feedK_length]; omega), feedK_length, Nat.sub_self]
    rfl
  have h2 := feedK_run ⟨[], 70, false, false⟩ (frame l) (k + 1) (by omega)
  have h3 : (frame l).take (k + 1) = (encText l).take (k + 1) := by unfold frame; rw [List.take_append_of_le_length (by omega)]
  have h4 := run_text 70 l [] (by simpa using hl)
  have h5 := run_append ((encText l).take (k + 1)) ((encText l).drop (k + 1)) ⟨[], 70, false, false⟩
  rw [List.take_append_drop, h4, ← h3, ← h2] at h5
  have h6 := congrArg (fun x => x.1[k]?) h5
  dsimp only at h6
  rw [List.getElem?_append_left (by rw [feedK_length]; omega), h1, List.getElem?_replicate, if_pos hk] at h6
  exact (Option.some.inj h6).symm
theorem frame_last (l : List UInt8) (hl : l.length ≤ 70) : (feedK ⟨[], 70, false, false⟩ (frame l) (encText l).length).2 = ⟨l, 70, false, false⟩ ∧ (frame l).getD (encText l).length 0 = 192 := by
  have hfl : (frame l).length = (encText l).length + 1 := by unfold frame; simp
  constructor
  · rw [feedK_run _ _ _ (by omega)]
    have h3 : (frame l).take (encText l).length = encText l := by unfold frame; rw [List.take_append_of_le_length (by omega), List.take_length]
    rw [h3, run_text 70 l [] (by simpa using hl)]
    rfl
  · unfold frame
    rw [List.getD_eq_getElem?_getD, List.getElem?_append_right (by omega), Nat.sub_self]
    rfl
theorem nil_of_len {l : List UInt8} (h : ¬ 0 < l.length) : l = [] := by cases l with | nil => rfl | cons y t => simp at h
set_option maxRecDepth 100000 in
set_option maxHeartbeats 16000000 in
theorem feed_frame (d dp p m q t : Nat) (s : FlS) (G : SP) (w : World) (h : (blk d (.cells (dvV (dptr dp) (fptr p) 1 nilV (.pointer (some ⟨m, 0, Option.none⟩)) t) 67 (0, 0)) * (Dec dp ⟨[], 70, false, false⟩ * (blk m (.cells (mK q) 127 (0, 0)) * (Flash p s * G)))).on w) (hoff : s.off = false) (v : Value) (l : List UInt8) (hl : l.length ≤ 60) (hrd : ∀ W, G.on W → IsBytes W v (frame l)) (t2 : Nat) (ht2 : t2 = (if l = [] then t else 0)) :
    Calls Tryz.prog 12 #[.pointer (some ⟨d, 0, Option.none⟩), v] w fun e w' => ∃ out, e = .returned out ∧ (blk d (.cells (dvV (dptr dp) (fptr p) 1 nilV (.pointer (some ⟨m, 0, Option.none⟩)) t2) 67 (0, 0)) * (Flash p s * G)).on w' ∧ Str w w' := by
  have HT2 := hide ht2
  clear ht2
  have hud := Tryz.underlying67
  have hu := Tryz.underlying22
  have HQ := hide (frame_quiet l (by omega))
  have HLa := hide (frame_last l (by omega))
  have hfl : (frame l).length = (encText l).length + 1 := by unfold frame; simp
  have hel := (encText_len l).1
  have HK0 := hide (show (feedK ⟨[], 70, false, false⟩ (frame l) 0).2 = ⟨[], 70, false, false⟩ from rfl)
  generalize (encText l).length = mm at *
  have Hfl := hide hfl
  have HOk := hide (feedK_ok (s := ⟨[], 70, false, false⟩) ⟨by decide, by decide⟩ (frame l))
  have HKs := hide (show ∀ k, ((feedK ⟨[], 70, false, false⟩ (frame l) k).2.feed ((frame l).getD k 0)).2.2 = (feedK ⟨[], 70, false, false⟩ (frame l) (k + 1)).2 from fun k => rfl)
  have HG0 : Hid (∀ k, k < (frame l).length → (vbs (frame l))[k]? = some (vb ((frame l).getD k 0))) := hide fun k hk => by
    rw [vbs_get _ k hk, List.getD_eq_getElem?_getD, List.getElem?_eq_getElem hk]
    rfl
  generalize frame l = b at *
  generalize hst : (fun k => (feedK ⟨[], 70, false, false⟩ b k).2) = st at *
  have hst2 : ∀ k, (feedK ⟨[], 70, false, false⟩ b k).2 = st k := fun k => congrFun hst k
  simp only [hst2] at HQ HLa HK0 HOk HKs
  clear hst2 hst
  generalize hgd : (fun k => b.getD k 0) = gd at *
  have hgd2 : ∀ k, b.getD k 0 = gd k := fun k => congrFun hgd k
  simp only [hgd2] at HQ HLa HKs HG0
  clear hgd2 hgd
  have hrw := hrd w h.right.right.right.right
  obtain ⟨va, vc, hve, hvc, hvm, hl0, _⟩ := hrw
  obtain ⟨bg, bo, hva, _⟩ := hl0 0 _ (HG0.out 0 (by omega))
  have hbl : b.length ≤ 200 := by omega
  clear hfl hel
  subst hva
  subst hve
  have Hrd := hide hrd
  have H := hide (show (blk d (.cells (dvV (dptr dp) (fptr p) 1 nilV (.pointer (some ⟨m, 0, Option.none⟩)) t) 67 (0, 0)) * (Dec dp (st 0) * (blk m (.cells (mK q) 127 (0, 0)) * (Flash p s * G)))).on w by rw [HK0.out]; exact h)
  unfold maxLen at hvm
  clear h hrd hl0
  go_enter Tryz.func12, Tryz.ntmps12
  go_wp2_with fail
  go_loopw [5, 12] (fun ov i wr => ∃ k : Nat, k ≤ mm + 1 ∧ i = .int .i64 k ∧ ((k ≤ mm ∧ ov = nilV ∧ (blk d (.cells (dvV (dptr dp) (fptr p) 1 nilV (.pointer (some ⟨m, 0, Option.none⟩)) t) 67 (0, 0)) * (Dec dp (st k) * (blk m (.cells (mK q) 127 (0, 0)) * (Flash p s * G)))).on wr) ∨ (k = mm + 1 ∧ (∃ oa on oc, ov = .slice oa on oc) ∧ (blk d (.cells (dvV (dptr dp) (fptr p) 1 nilV (.pointer (some ⟨m, 0, Option.none⟩)) t2) 67 (0, 0)) * (Flash p s * G)).on wr)) ∧ Str w wr) (fun _ i _ => mm + 1 - (intOf i).toNat)
  case atStart => exact ⟨0, by omega, rfl, .inl ⟨by omega, rfl, H.out⟩, Str.refl _⟩
  case round =>
    clear H
    obtain ⟨k, hk, rfl, hst, hstr⟩ := hrel
    rcases hst with ⟨hkm, rfl, hw⟩ | ⟨rfl, ⟨oa, on, oc, rfl⟩, hw⟩
    · have hkI : (k : Int) < (b.length : Int) := by have := Hfl.out; omega
      have hF := hw.right.right.right.right
      have ck : wr.cell? ⟨bg, bo + k, Option.none⟩ = some (vb (gd k)) := by
        obtain ⟨a9, c9, e9, _, _, hl9, _⟩ := Hrd.out wr hF
        simp only [Value.slice.injEq] at e9
        obtain ⟨rfl, -, -⟩ := e9
        exact Lay.cell hl9 k (HG0.out k (by have := Hfl.out; omega))
      have cd0 : wr.cell? ⟨d, 0, Option.none⟩ = some (dptr dp) := by rw [cell_of_row _ _ 0 _ _ _ (on_blk_mul hw)]; exact dvV_get0 _ _ _ _ _ _
      have hN := hide (now_on d p _ _ _ 1 t s (Dec dp (st k) * (blk m (.cells (mK q) 127 (0, 0)) * G)) wr (by
        rw [show ∀ A B C D E : SP, A * (D * (B * (C * E))) = A * (B * (C * (D * E))) from fun A B C D E => by ac_rfl]
        exact hw) hoff)
      rw [show ((1 : Nat) : Int) = 1 from rfl] at hN
      have hFe := feed_any dp (st k) (blk d (.cells (dvV (dptr dp) (fptr p) 1 nilV (.pointer (some ⟨m, 0, Option.none⟩)) t) 67 (0, 0)) * (blk m (.cells (mK q) 127 (0, 0)) * (Flash p s * G))) wr (by rw [SP.mul_left_comm]; exact hw) (HOk.out k) (gd k)
      have S1 := hide hstr
      by_cases hkq : k < mm
      · have hq := HQ.out k hkq
        rw [hq.1, hq.2, HKs.out k] at hFe
        have HFe := hide hFe
        clear hw hF hFe hstr hq
        generalize gd k = c at *
        generalize st k = sk at *
        go_wp2_with fail
        refine hN.out.mono ?_
        clear hN
        rintro e _ ⟨rfl, rfl⟩
        go_wp2_with fail
        refine HFe.out.mono ?_
        clear HFe ck cd0
        rintro e w2 ⟨v2, rfl, hq, hs2⟩
        obtain ⟨x, rfl, h2⟩ := feedQ.out hq
        have S2 := hide (S1.out.trans hs2)
        obtain ⟨xa, xc, rfl, _, _, _, _⟩ := own_value h2
        have h3 := h2.right
        rw [SP.mul_left_comm] at h3
        have H3 := hide h3
        clear hq h2 h3 hs2 S1
        rw [show (([] : List UInt8).length) = 0 from rfl]
        go_wp2_with fail
        exact ⟨⟨k + 1, by omega, by simp, .inl ⟨by omega, rfl, H3.out⟩, S2.out⟩, by simp [intOf]; omega⟩
      · obtain rfl : k = mm := by omega
        rw [HLa.out.1, HLa.out.2] at hFe
        rw [HLa.out.2] at ck
        rw [show ((⟨l, 70, false, false⟩ : DsS).feed 192).1 = l from rfl, show ((⟨l, 70, false, false⟩ : DsS).feed 192).2.1 = 0 from rfl, show ((⟨l, 70, false, false⟩ : DsS).feed 192).2.2 = ⟨[], 70, false, false⟩ from rfl] at hFe
        have HFe := hide (show Calls Tryz.prog 27 #[dptr dp, .int .u8 192] wr _ from hFe)
        have ck : wr.cell? ⟨bg, bo + k, Option.none⟩ = some (.int .u8 192) := ck
        clear hw hF hFe hstr
        go_wp2_with fail
        refine hN.out.mono ?_
        clear hN
        rintro e _ ⟨rfl, rfl⟩
        go_wp2_with fail
        refine HFe.out.mono ?_
        clear HFe ck cd0
        rintro e w2 ⟨v2, rfl, hq, hs2⟩
        obtain ⟨x, rfl, h2⟩ := feedQ.out hq
        have S2 := hide (S1.out.trans hs2)
        by_cases hl0 : 0 < l.length
        · have hl0I : (0 : Int) < (l.length : Int) := by omega
          have hne : l ≠ [] := fun e9 => by rw [e9] at hl0; simp at hl0
          have hH := hide (hear_any d dp p m q t s (ownD x l * (Dec dp ⟨[], 70, false, false⟩ * G)) w2 (by
            rw [show ∀ A B C D E G9 : SP, C * (G9 * (D * (A * (B * E)))) = A * (B * (C * (D * (G9 * E)))) from fun A B C D E G9 => by ac_rfl]
            exact h2) hoff x l (by omega) hne (fun W hW => own_bytes hW))
          obtain ⟨xa, xc, rfl, _, _, _, _⟩ := own_value h2
          have HE0 := hide (HT2.out.trans (if_neg hne))
          clear hq h2 hs2 S1 hne
          go_wp2_with fail
          refine hH.out.mono ?_
          clear hH
          rintro e w3 ⟨out, ol, M, rfl, hol, ho, hs3⟩
          have S3 := hide (S2.out.trans hs3)
          have hob := own_bytes ho
          have hn := own_nil 5 1 ho
          have Hn := hide hn
          have Hob := hide hob
          have Hol := hide hol
          obtain ⟨oa, oc, rfl, _, _, _, _⟩ := own_value ho
          clear ho hs3 hn hob S2 hol
          go_wp2_with (at_builtin; refine wpList_append_bytes rfl _ _ 22 rfl 5 hu infoByte _ [] ol rfl Hn.out _ rfl Hob.out (by have := Hol.out; simp; omega) ?_; intro v4 w4 ho4 hs4; rw [List.nil_append] at ho4; obtain ⟨oa4, oc4, rfl, _, _, _, _⟩ := own_value ho4; have Ho4 := hide ho4; have Hs4 := hide (S3.out.trans hs4); clear ho4 hs4)
          have H5 : Hid ((blk d (.cells (dvV (dptr dp) (fptr p) 1 nilV (.pointer (some ⟨m, 0, Option.none⟩)) t2) 67 (0, 0)) * (Flash p s * G)).on w4) := hide (by
            rw [HE0.out]
            have h9 := Ho4.out
            rw [show ∀ Z A B C D E G9 F9 : SP, A * (Z * (B * (C * (D * (E * (G9 * F9)))))) = (B * (C * F9)) * (A * (Z * (D * (E * G9)))) from fun Z A B C D E G9 F9 => by ac_rfl] at h9
            exact h9.left)
          exact ⟨⟨k + 1, by omega, by simp, .inr ⟨rfl, ⟨_, _, _, rfl⟩, H5.out⟩, Hs4.out⟩, by simp [intOf]⟩
        · obtain rfl := nil_of_len hl0
          obtain ⟨xa, xc, rfl, _, _, _, _⟩ := own_value h2
          have H5 : Hid ((blk d (.cells (dvV (dptr dp) (fptr p) 1 nilV (.pointer (some ⟨m, 0, Option.none⟩)) t2) 67 (0, 0)) * (Flash p s * G)).on w2) := hide (by
            rw [HT2.out.trans (if_pos rfl)]
            have h9 := h2
            rw [show ∀ A B C D E G9 : SP, A * (B * (C * (D * (E * G9)))) = (C * (E * G9)) * (A * (B * D)) from fun A B C D E G9 => by ac_rfl] at h9
            exact h9.left)
          clear hq h2 hs2 S1
          rw [show (([] : List UInt8).length) = 0 from rfl]
          go_wp2_with fail
          exact ⟨⟨k + 1, by omega, by simp, .inr ⟨rfl, ⟨_, _, _, rfl⟩, H5.out⟩, S2.out⟩, by simp [intOf]⟩
    · have hkI : ¬ ((mm + 1 : Nat) : Int) < (b.length : Int) := by have := Hfl.out; omega
      have H3 := hide hw
      have S3 := hide hstr
      clear hw hstr
      go_wp2_with fail
      go_ret
      exact ⟨⟨_, rfl⟩, H3.out, S3.out⟩
end Go.Proofs.YtgmpmlneoiagdaaGreatDoor

/- device: what the law DeviceIdle knows of it, round by round. -/
namespace Go.Proofs.YtgmpmlneoiagdaaGreatDoor
open Go.ChangeShapes Go.WideShapes Go.ChangeAt Go.RowKit
set_option linter.unusedVariables false
set_option linter.unusedSimpArgs false

theorem IsBytes.upto {w : World} {a : Option Addr} {n c : Nat} {l : List UInt8} (h : IsBytes w (.slice a l.length c) l) (hn : n ≤ l.length) : IsBytes w (.slice a n c) (l.take n) := by
  obtain ⟨a2, c2, e, h2, h3, h4, h5⟩ := h
  cases e
  refine ⟨a, c, ?_, ?_, h3, ?_, h5⟩
  · rw [List.length_take, Nat.min_eq_left hn]
  · rw [List.length_take]; omega
  · intro j u hj
    refine h4 j u ?_
    rw [← hj]
    have h6 : (vbs (l.take n))[j]? = some u := hj
    have h7 : j < (l.take n).length := by have := (List.getElem?_eq_some_iff.1 h6).1; simpa [vbs] using this
    rw [List.length_take] at h7
    simp only [vbs, List.getElem?_map, List.getElem?_take, if_pos (show j < n by omega)]
/-- the flash of the law -/
structure IdleF (s : FlS) (img : List UInt8) : Prop where
  calm : s.Calm
  off : s.off = false
  pw : ({ s with off := false, armed := false } : FlS) = s
  err : s.load.2.2 = 0
  len : s.load.1.bytes = img.length
  sum : s.load.1.sum = crcUpd 0 img
  bytes : (s.B.drop 512).take img.length = img
  most : img.length ≤ 1000
theorem IdleF.none {s : FlS} (h : IdleF s []) (p : Nat) (G : SP) (X : World) (hX : (Flash p s * G).on X) : Calls Tryz.prog 25 #[fptr p] X fun e w' => e = .returned (.tuple #[nilV, .bool false]) ∧ Below X.heap.size X w' :=
  valid_zero p s G X hX h.calm h.err (by rw [h.len]; rfl)
theorem IdleF.made {s : FlS} {img : List UInt8} (h : IdleF s img) (hn : img ≠ []) (p : Nat) (G : SP) (X : World) (hX : (Flash p s * G).on X) : Calls Tryz.prog 25 #[fptr p] X fun e w' => ∃ x, e = .returned (.tuple #[x, .bool true]) ∧ (ownBy x img * all X).on w' ∧ Str X w' := by
  have h1 := valid_made p s G X hX h.calm h.err (by rw [h.len]; exact fun e => hn (List.length_eq_zero_iff.1 e)) (by rw [h.len]; have := h.most; omega) (by rw [h.len, h.bytes, h.sum])
  rw [h.len, h.bytes] at h1
  exact h1

set_option maxRecDepth 100000 in
set_option maxHeartbeats 16000000 in
theorem tick_on (d p : Nat) (dec img mach : Value) (t : Nat) (s : FlS) (F : SP) (w : World) (h : (blk d (.cells (dvV dec (fptr p) 2 img mach t) 67 (0, 0)) * (Flash p s * F)).on w) (hoff : s.off = false) :
    Calls Tryz.prog 11 #[.pointer (some ⟨d, 0, Option.none⟩)] w fun e w' => (∃ v, e = .returned v) ∧ w = w' := by
  have hN := now_on d p dec img mach 2 t s F w h hoff
  rw [show ((2 : Nat) : Int) = 2 from rfl] at hN
  clear h
  go_enter Tryz.func11, Tryz.ntmps11
  go_wp2_with fail
  refine hN.mono ?_
  clear hN
  rintro e _ ⟨rfl, rfl⟩
  go_wp2_with fail
  exact bodyPost_ret (v := .tuple #[]) (by simp [results, Tryz.results11, go_sem]) rfl ⟨⟨_, rfl⟩, rfl⟩

/-- the device of the law, i ticks behind the frame -/
def DvAt (d p : Nat) (s : FlS) (img : List UInt8) (t2 i : Nat) (G : SP) (X : World) : Prop := (∃ dec mach tt, (img = [] → tt = (t2 + i) % 50) ∧ (img ≠ [] → t2 + i < 50 ∧ tt = t2 + i) ∧ (blk d (.cells (dvV dec (fptr p) 1 nilV mach tt) 67 (0, 0)) * (Flash p s * G)).on X) ∨ (img ≠ [] ∧ 50 ≤ t2 + i ∧ ∃ oa oc, (blk d (.cells (dvV pnil (fptr p) 2 (.slice oa img.length oc) pnil 0) 67 (0, 0)) * (ownBy (.slice oa img.length oc) img * (Flash p s * G))).on X)
/-- does it run? -/
def runs (img : List UInt8) (t2 i : Nat) : Bool := decide (img ≠ [] ∧ 50 ≤ t2 + i)
variable {d p : Nat} {s : FlS} {img : List UInt8} {t2 i : Nat} {G : SP} {w : World}
theorem DvAt.flash (h : DvAt d p s img t2 i G w) : (Flash p s * G).on w := by
  rcases h with ⟨dec, mach, tt, _, _, h⟩ | ⟨_, _, oa, oc, h⟩
  · exact h.right
  · exact h.right.right
theorem DvAt.below {X : World} (h : DvAt d p s img t2 i G w) (hb : Below w.heap.size w X) : DvAt d p s img t2 i G X := by
  rcases h with ⟨dec, mach, tt, h1, h2, h⟩ | ⟨h1, h2, oa, oc, h⟩
  · exact .inl ⟨dec, mach, tt, h1, h2, h.below hb⟩
  · exact .inr ⟨h1, h2, oa, oc, h.below hb⟩
theorem dv_state (f : IdleF s img) (h : DvAt d p s img t2 i G w) :
    Calls Tryz.prog 14 #[.pointer (some ⟨d, 0, Option.none⟩)] w fun e w' => ∃ ya yn yc, e = .returned (.tuple #[.int .i64 (if runs img t2 i = true then 2 else 1), .slice ya yn yc]) ∧ (runs img t2 i = true → IsBytes w' (.slice ya yn yc) img) ∧ DvAt d p s img t2 i G w' ∧ Str w w' := by
  rcases h with ⟨dec, mach, tt, h1, h2, h⟩ | ⟨h1, h2, oa, oc, h⟩
  · have hr : runs img t2 i = false := by
      unfold runs
      rw [decide_eq_false_iff_not]
      rintro ⟨a, b⟩
      have := (h2 a).1
      omega
    refine (state_wait d p dec nilV mach tt s G w h f.off).mono ?_
    rintro e w' ⟨rfl, rfl⟩
    refine ⟨Option.none, 0, 0, by rw [hr]; rfl, (fun e => by rw [hr] at e; cases e), .inl ⟨dec, mach, tt, h1, h2, h⟩, Str.refl _⟩
  · have hr : runs img t2 i = true := by
      unfold runs
      rw [decide_eq_true_iff]
      exact ⟨h1, h2⟩
    have hx := own_bytes h.right
    have h9 := h
    rw [show ∀ A B C E : SP, A * (B * (C * E)) = A * (C * (B * E)) from fun A B C E => by ac_rfl] at h9
    refine (state_run d p pnil pnil _ img 0 s _ w h9 f.off hx (by have := f.most; omega)).mono ?_
    rintro e w' ⟨y, rfl, ho, hs⟩
    have hy := own_bytes ho
    obtain ⟨ya, yc, rfl, _, _, _, _⟩ := own_value ho
    refine ⟨ya, img.length, yc, by rw [hr]; rfl, fun _ => hy, .inr ⟨h1, h2, oa, oc, ?_⟩, hs⟩
    have h3 := ho.right
    rw [show ∀ A B C E : SP, A * (C * (B * E)) = A * (B * (C * E)) from fun A B C E => by ac_rfl] at h3
    exact h3
theorem dv_tick (f : IdleF s img) (h : DvAt d p s img t2 i G w) :
    Calls Tryz.prog 11 #[.pointer (some ⟨d, 0, Option.none⟩)] w fun e w' => (∃ v, e = .returned v) ∧ DvAt d p s img t2 (i + 1) G w' ∧ Str w w' := by
  rcases h with ⟨dec, mach, tt, h1, h2, h⟩ | ⟨h1, h2, oa, oc, h⟩
  · by_cases ht : tt + 1 < 50
    · refine (tick_wait d p dec nilV mach tt ht s G w h f.off).mono ?_
      rintro e w' ⟨hv, h3, h4⟩
      exact ⟨hv, .inl ⟨dec, mach, tt + 1, fun e => by have := h1 e; omega, fun e => by have := h2 e; omega, h3⟩, h4⟩
    · have htt : tt = 49 := by
        by_cases he : img = []
        · have := h1 he; omega
        · have := h2 he; omega
      subst htt
      by_cases he : img = []
      · subst he
        refine (tick_end d p dec nilV mach s G w h f.off (fun X hX => f.none p _ X hX.right)).mono ?_
        rintro e w' ⟨hv, h3, h4⟩
        exact ⟨hv, .inl ⟨dec, mach, 0, fun e => by have := h1 rfl; omega, fun e => absurd rfl e, h3⟩, h4⟩
      · refine (tick_run d p dec nilV mach s G w h img f.off (fun X hX => (f.made he p _ X hX.right).mono fun e w' ⟨x, a, b, c⟩ => ⟨x, a, ?_, c⟩)).mono ?_
        · have h5 := on_all_to b hX
          rw [show ∀ A B C E : SP, A * (B * (C * E)) = A * (C * (B * E)) from fun A B C E => by ac_rfl] at h5
          exact h5
        · rintro e w' ⟨hv, x, h3, h4⟩
          have h6 := h3.right
          obtain ⟨oa, oc, rfl, _, _, _, _⟩ := own_value h6
          exact ⟨hv, .inr ⟨he, by have := h2 he; omega, oa, oc, h3⟩, h4⟩
  · have h9 := h
    rw [show ∀ A B C E : SP, A * (B * (C * E)) = A * (C * (B * E)) from fun A B C E => by ac_rfl] at h9
    refine (tick_on d p pnil _ pnil 0 s _ w h9 f.off).mono ?_
    rintro e w' ⟨hv, rfl⟩
    exact ⟨hv, .inr ⟨h1, by omega, oa, oc, h⟩, Str.refl _⟩
/-- behind a reset, the law asks for the state once more -/
def DvEnd (d p : Nat) (s : FlS) (img : List UInt8) (G : SP) (X : World) : Prop := (img = [] ∧ ∃ dec mach tt, (blk d (.cells (dvV dec (fptr p) 1 nilV mach tt) 67 (0, 0)) * (Flash p s * G)).on X) ∨ (img ≠ [] ∧ ∃ oa oc, (blk d (.cells (dvV pnil (fptr p) 2 (.slice oa img.length oc) pnil 0) 67 (0, 0)) * (ownBy (.slice oa img.length oc) img * (Flash p s * G))).on X)
theorem dv_reset (f : IdleF s img) (hG : ∀ W, G.on W → Lens W) (h : DvAt d p s img t2 i G w) :
    Calls Tryz.prog 15 #[.pointer (some ⟨d, 0, Option.none⟩), .bool false] w fun e w' => (∃ v, e = .returned v) ∧ DvEnd d p s img G w' ∧ Str w w' := by
  have key : ∃ dec st image mach tt, ∃ F : SP, (F.le G) ∧ (blk d (.cells (dvV dec (fptr p) st image mach tt) 67 (0, 0)) * (Flash p s * F)).on w := by
    rcases h with ⟨dec, mach, tt, h1, h2, h⟩ | ⟨h1, h2, oa, oc, h⟩
    · exact ⟨_, _, _, _, _, G, SP.le.refl _, h⟩
    · refine ⟨pnil, 2, .slice oa img.length oc, pnil, 0, _, SP.le_right (ownBy (.slice oa img.length oc) img) G, ?_⟩
      rw [show ∀ A B C E : SP, A * (B * (C * E)) = A * (C * (B * E)) from fun A B C E => by ac_rfl] at h
      exact h
  obtain ⟨dec, st, image, mach, tt, F, hF, h⟩ := key
  have hg : (blk d (.cells (dvV dec (fptr p) st image mach tt) 67 (0, 0)) * (Flash p s * G)).on w := (SP.le.mul (SP.le.refl _) (SP.le.mul (SP.le.refl _) hF)).on h
  by_cases he : img = []
  · subst he
    refine (reset_zero d p dec image mach st tt s G w hg f.calm f.pw (fun F X hX => f.none p F X hX) hG).mono ?_
    rintro e w' ⟨hv, dp, m, q, h1, h2⟩
    refine ⟨hv, .inl ⟨rfl, _, _, _, (SP.le.mul (SP.le.refl _) ?_).on h1⟩, h2⟩
    exact (SP.le_right _ _).trans ((SP.le_right _ _).trans (SP.le_right _ _))
  · refine (reset_run d p dec image mach st tt s G w hg f.calm f.pw img (fun F X hX => f.made he p F X hX)).mono ?_
    rintro e w' ⟨hv, x, h1, h2⟩
    have h6 := h1.right
    obtain ⟨oa, oc, rfl, _, _, _, _⟩ := own_value h6
    exact ⟨hv, .inr ⟨he, oa, oc, h1⟩, h2⟩
theorem dv_last (f : IdleF s img) (h : DvEnd d p s img G w) :
    Calls Tryz.prog 14 #[.pointer (some ⟨d, 0, Option.none⟩)] w fun e w' => ∃ ya yn yc, e = .returned (.tuple #[.int .i64 (if img = [] then 1 else 2), .slice ya yn yc]) ∧ G.on w' ∧ Str w w' := by
  rcases h with ⟨rfl, dec, mach, tt, h⟩ | ⟨h1, oa, oc, h⟩
  · refine (state_wait d p dec nilV mach tt s G w h f.off).mono ?_
    rintro e w' ⟨rfl, rfl⟩
    exact ⟨Option.none, 0, 0, rfl, h.right.right, Str.refl _⟩
  · have hx := own_bytes h.right
    have h9 := h
    rw [show ∀ A B C E : SP, A * (B * (C * E)) = A * (C * (B * E)) from fun A B C E => by ac_rfl] at h9
    refine (state_run d p pnil pnil _ img 0 s _ w h9 f.off hx (by have := f.most; omega)).mono ?_
    rintro e w' ⟨y, rfl, ho, hs⟩
    obtain ⟨ya, yc, rfl, _, _, _, _⟩ := own_value ho
    exact ⟨ya, img.length, yc, by rw [if_neg h1], ho.right.right.right.right, hs⟩
end Go.Proofs.YtgmpmlneoiagdaaGreatDoor
