/- The law TransferActs: any calls, one behind the other, with power that goes and comes. -/
import Derived.Test.YtjmgnfpcieofkaaGTA
import Derived.Test.YtjmgnfpcieofkaaGTrB
import Derived.Deep.QuietTactic
import Derived.BigQuiet

namespace Go.Proofs.Ytjmgnfpcieofkaa
open Go.ChangeShapes Go.WideShapes Go.ChangeAt Go.RowKit
set_option linter.unusedVariables false
set_option linter.unusedSimpArgs false

theorem um2000 (t : Int) : ∃ k : Nat, k < 2000 ∧ (IntKind.u64.wrap t).tmod 2000 = (k : Int) := by
  have h0 : 0 ≤ IntKind.u64.wrap t := by rw [IntKind.wrap_u64]; omega
  refine ⟨((IntKind.u64.wrap t) % 2000).toNat, by omega, ?_⟩
  rw [Int.tmod_eq_emod_of_nonneg h0]
  omega
theorem sp_ta1 (K Fl M RF A : SP) : K * (Fl * (M * (RF * A))) = M * (K * (Fl * (RF * A))) := by ac_rfl
theorem sp_ta2 (K Fl M RF A : SP) : K * (Fl * (M * (RF * A))) = RF * (K * (Fl * (M * A))) := by ac_rfl

set_option maxRecDepth 100000 in
set_option maxHeartbeats 32000000 in
theorem walk_TransferActs (w : World)
    (v0 : Value) (L : List ActT) (b0 : IsRowsC 3 atC w v0 L) (g0 : ∀ y ∈ L, y.Good) :
    Calls Try.prog 5 #[v0] w fun e w' => e = .returned (.bool true) ∧ Below w.heap.size w w' := by
  have hua := Try.underlying64
  have hum := Try.underlying62
  have hur := Try.underlying35
  have hurr := Try.underlying60
  have hui := Try.underlying3
  have huu := Try.underlying24
  have hsu := Try.underlying33
  have hsb := Try.underlying5
  have hst := Try.underlying9
  have hufl := Try.underlying44
  have hz := at_hz
  have hzr := rc_hz
  have hzrr := rr_hz
  have hlive := lives18_any w
  obtain ⟨la, lc, rfl, hlc, hlm, hcell⟩ := b0
  have B0 := hide (show IsRowsC 3 atC w (.slice la L.length lc) L from ⟨_, _, rfl, hlc, hlm, hcell⟩)
  have C0 := hide hcell
  have G0 := hide g0
  clear hcell g0
  unfold maxLen at hlm
  go_enter Try.func5, Try.ntmps5
  go_wp2_with fail
  refine hlive.mono ?_
  clear hlive
  rintro e w1 ⟨rfl, hb⟩
  by_cases hL : 25 < L.length
  · have hl2 := lives18_any w1
    have HB := hide hb
    clear hb
    go_wp2_with fail
    refine hl2.mono ?_
    rintro e w2 ⟨rfl, hb2⟩
    go_wp2_with fail
    go_ret
    exact ⟨rfl, HB.out.trans (hb2.mono HB.out.size)⟩
  have H1 := hide ((on_all w).below hb)
  have S1 := hide (Str.below hb)
  clear hb
  go_wp2_with fail
  refine (new_any 34 (by omega) (by omega) w1).mono ?_
  rintro e w2 ⟨v, rfl, ho, hs⟩
  obtain ⟨p, rfl, ho2⟩ := newQ.out ho
  have H2 := hide (on_all_to ho2 H1.out)
  have S2 := hide (S1.out.trans hs)
  have Hke := hide (show (FlS.new 34).kErr = 0 ∧ (FlS.new 34).load.1 = zeroS from by
    have h9 := ex18 _ rfl
    exact ⟨h9.1, h9.2.1⟩)
  have Hfit := hide (FlS.Fit.new 34 (by omega) (by omega))
  have hwn : 34 ≤ (FlS.new 34).worn.length := by simp [FlS.new]
  have hRF := fun X => rnew_any 34 (by omega) (by omega) X
  clear ho ho2 hs H1 S1
  unfold rnewQ at hRF
  generalize FlS.new 34 = s0 at *
  have hT := tnew_any p s0 _ w2 H2.out Hfit.out.ok
  go_wp2_with fail
  refine hT.mono ?_
  clear hT
  rintro e w3 (⟨h0, _⟩ | ⟨_, kq0, rfl, h3, hs3⟩)
  · exact absurd Hke.out.1 h0
  rw [Hke.out.2] at h3
  have H3 := hide h3
  have S3 := hide (S2.out.trans hs3)
  clear h3 hs3 H2 S2 Hke
  go_wp2_with fail
  refine (hRF w3).mono ?_
  clear hRF
  rintro e w4 ⟨v, rfl, ho, hs⟩
  obtain ⟨q, h4⟩ := on_ex_mul.1 ho
  rw [SP.mul_assoc] at h4
  obtain ⟨rfl, h4b⟩ := on_pure_mul.1 h4
  have h5 := (on_all_to h4b H3.out).alloc (.cells (mdCells q zeroS nilV) 62)
  have h6 : (Kp kq0 p zeroS * (Flash p s0 * (Md w4.heap.size q zeroS * (RFlash q s0 * all w)))).on (w4.alloc (.cells (mdCells q zeroS nilV) 62)) := by
    have h9 : (ownR nilV [] * _).on _ := own_nil 5 1 h5
    rw [show ownR nilV [] * (blk w4.heap.size (.cells (mdCells q zeroS nilV) 62 (0, 0)) * (RFlash q s0 * (Kp kq0 p zeroS * (Flash p s0 * all w)))) = blk w4.heap.size (.cells (mdCells q zeroS nilV) 62 (0, 0)) * (ownR nilV [] * (Kp kq0 p zeroS * (Flash p s0 * (RFlash q s0 * all w)))) by ac_rfl] at h9
    rw [sp_ta1]
    exact Md.shut (iv := nilV) h9
  have H6 := hide h6
  have S6 := hide ((S3.out.trans hs).alloc (.cells (mdCells q zeroS nilV) 62))
  clear h4 h4b h5 h6 ho hs H3 S3
  go_wp2_with (refine wpList_build_md rfl _ rfl q rfl ?_)
  generalize w4.heap.size = gm at *
  go_loopw [5, 51] (fun kv i wr => ∃ (j : Nat) (s : FlS) (R : RecS) (kq : Nat), j ≤ L.length ∧ kv = .pointer (some ⟨kq, 0, Option.none⟩) ∧ i = .int .i64 j ∧ s.Fit (j * 4000) ∧ 34 ≤ s.worn.length ∧ R.Ok ∧ R.done ≤ 4096 ∧ (Kp kq p R * (Flash p s * (Md gm q R * (RFlash q s * all w)))).on wr ∧ Str w wr) (fun _ i _ => L.length - (intOf i).toNat)
  case atStart => exact ⟨0, s0, zeroS, kq0, by omega, rfl, rfl, Hfit.out.mono (by omega), hwn, zeroS_ok, by decide, H6.out, S6.out⟩
  case round =>
    clear H6 S6 Hfit hwn
    obtain ⟨j, s, R, kq, hj, rfl, rfl, hfit, hwl, hRo, hdn, hw, hstr⟩ := hrel
    by_cases hjl : j < L.length
    · obtain ⟨y, hju⟩ : ∃ y, L[j]? = some y := ⟨_, List.getElem?_eq_getElem hjl⟩
      have hB := all_below hw.right.right.right.right hstr
      have hgu := G0.out _ (List.mem_of_getElem? hju)
      obtain ⟨b, off, rfl, _⟩ := C0.out _ _ hju
      have hcx := B0.out.cell hB j hju
      obtain ⟨yk, yn, yt⟩ := y
      obtain ⟨hy1, hy2, hy3⟩ := hgu
      simp only at hy1 hy2 hy3
      have Hcx := hide hcx
      have Hfit := hide hfit
      have HRo := hide hRo
      have h1 := hw.alloc (.cells (atC zeroAT) 64)
      have h5 := h1.setRow (atC ⟨yk, yn, yt⟩)
      have gA := hide (on_blk_mul h1)
      have x0 : ((wr.alloc (.cells (atC zeroAT) 64)).setRow wr.heap.size (atC ⟨yk, yn, yt⟩)).cell? ⟨wr.heap.size, 0, Option.none⟩ = some (vb yk) := cell_of_row _ _ 0 _ _ _ (on_blk_mul h5)
      have x1 : ((wr.alloc (.cells (atC zeroAT) 64)).setRow wr.heap.size (atC ⟨yk, yn, yt⟩)).cell? ⟨wr.heap.size, 1, Option.none⟩ = some (.int .i64 yn) := cell_of_row _ _ 1 _ _ _ (on_blk_mul h5)
      have x2 : ((wr.alloc (.cells (atC zeroAT) 64)).setRow wr.heap.size (atC ⟨yk, yn, yt⟩)).cell? ⟨wr.heap.size, 2, Option.none⟩ = some (u32v yt) := cell_of_row _ _ 2 _ _ _ (on_blk_mul h5)
      have H6 := hide h5.right
      have H6f := hide h5
      have S6 := hide ((hstr.alloc (.cells (atC zeroAT) 64)).setRow wr.heap.size (atC ⟨yk, yn, yt⟩))
      have Hone := hide (at_one ⟨yk, yn, yt⟩)
      have Hsz := hide (at_info ⟨yk, yn, yt⟩)
      clear hw hstr hB hcx h1 h5 hju hfit hRo
      have hstop : ∀ p : Prop, Hid p → p := fun _ h => h.out
      go_wp2_with (first
        | (refine wpList_load_part rfl _ _ rfl b (off + j * 3) rfl (atC ⟨yk, yn, yt⟩) _ Hcx.out hua rfl Hsz.out ?_)
        | (refine wpList_store_row rfl _ _ _ rfl wr.heap.size (atC ⟨yk, yn, yt⟩) rfl rfl _ _ gA.out Hsz.out rfl Hone.out ?_; refine hstop _ ?_))
      refine hide ?_
      clear hstop gA Hone Hcx Hsz
      generalize (wr.alloc (.cells (atC zeroAT) 64)).setRow wr.heap.size (atC ⟨yk, yn, yt⟩) = W6 at *
      generalize wr.heap.size = g11 at *
      obtain ⟨k, hk, hqk⟩ := um2000 yn
      have hkw : wrap64 (k : Int) = (k : Int) := IntWalk.wrap64_in _ (by omega)
      have hqq : wrap64 ((IntKind.u64.wrap yn).tmod 2000) = (k : Int) := by rw [hqk, hkw]
      clear hqk hkw
      have hk8 := UInt8.toNat_lt yk
      obtain ⟨kd, hkd, hk4⟩ : ∃ kd : Nat, kd < 4 ∧ ((yk.toNat : Nat) : Int).tmod 4 = (kd : Int) := ⟨yk.toNat % 4, Nat.mod_lt _ (by decide), by rw [Int.tmod_eq_emod_of_nonneg (by omega)]; omega⟩
      rcases (show kd = 0 ∨ kd = 1 ∨ kd = 2 ∨ kd = 3 by omega) with rfl | rfl | rfl | rfl
      · as_aux_lemma =>
          rw [show ((0 : Nat) : Int) = 0 from rfl] at hk4
          have hnm : (k : Int).tmod 140 = ((k % 140 : Nat) : Int) := by rw [Int.tmod_eq_emod_of_nonneg (by omega)]; omega
          have hB := hide (bytes18_any (k % 140) (by omega) yt hy3 W6)
          go_wp2_with fail
          refine hB.out.mono ?_
          clear hB
          rintro e W6b ⟨v, rfl, init, hil, ho, hs⟩
          have h6 := on_all_to ho H6.out
          have S6b := hide (S6.out.trans hs)
          have hi9 : init.length ≤ 1000000 := by omega
          have Hfn := kStart_fit Hfit.out R init
          have Hwn := kStart_worn s R init
          have HRn := kStart_ok s HRo.out init hi9
          have Hdn := kStart_done s hdn init
          have hP := kstart_any kq p R s _ _ Hfit.out (by omega) hwl HRo.out v init hi9 (fun W hW => own_bytes hW) W6b (show (Kp kq p R * (Flash p s * (ownR v init * (Md gm q R * (RFlash q s * all w))))).on W6b from by
            rw [show Kp kq p R * (Flash p s * (ownR v init * (Md gm q R * (RFlash q s * all w)))) = ownR v init * (Kp kq p R * (Flash p s * (Md gm q R * (RFlash q s * all w)))) by ac_rfl]; exact h6)
          have hQ := fun (st : FlS) (R3 : RecS) X hX => mstart_any gm q R s (Kp kq p R3 * (Flash p st * all w)) _ Hfit.out (by omega) hwl HRo.out v init hi9 X hX
          obtain ⟨va, vc, rfl, _, _, _, _⟩ := own_value ho
          have S6 := S6b
          clear H6 ho hs S6b hil hi9
          obtain ⟨⟨s9, R9, er⟩, hX⟩ : ∃ x, x = kStart s R init := ⟨_, rfl⟩
          rw [← hX] at hP hQ Hfn Hwn HRn Hdn
          clear hX
          replace hQ := hQ s9 R9
          have HP := hide hP
          clear hP x0 x1 x2 h6 H6f
          go_wp2_with fail
          refine HP.out.mono ?_
          clear HP
          rintro e W7 ⟨rfl, h7, hs7⟩
          have S7 := hide (S6.out.trans hs7)
          have hQ2 := hQ W7 (by
            try simp only at h7
            rw [show Kp kq p R9 * (Flash p s9 * (ownR (.slice va init.length vc) init * (Md gm q R * (RFlash q s * all w)))) = Md gm q R * (RFlash q s * (ownR (.slice va init.length vc) init * (Kp kq p R9 * (Flash p s9 * all w)))) by ac_rfl] at h7
            exact h7)
          have HQ := hide hQ2
          clear h7 hs7 hQ hQ2 S6
          try simp only
          go_wp2_with fail
          refine HQ.out.mono ?_
          clear HQ
          rintro e W8 ⟨rfl, h8, hs8⟩
          have S8 := hide (S7.out.trans hs8)
          have H8 : Hid ((Kp kq p R9 * (Flash p s9 * (Md gm q R9 * (RFlash q s9 * all w)))).on W8) := hide (by
            try simp only at h8
            rw [show Md gm q R9 * (RFlash q s9 * (Kp kq p R9 * (Flash p s9 * all w))) = Kp kq p R9 * (Flash p s9 * (Md gm q R9 * (RFlash q s9 * all w))) by ac_rfl] at h8
            exact h8)
          have hw1 : 34 ≤ s9.worn.length := by (try simp only at Hwn); omega
          clear h8 hs8 S7 Hfit HRo hwl hdn
          have Hf1 := hide Hfn
          have HR := hide HRn
          have hdn1 := Hdn
          clear Hfn HRn Hwn Hdn
          generalize s9 = s at *
          generalize R9 = R at *
          have hee : (((er : Nat) : Int) != ((er : Nat) : Int)) = false := by simp
          go_wp2_with fail
          refine (krecord_any kq p R _ _ H8.out HR.out).mono ?_
          rintro e W9 ⟨iv, rfl, ho, hs⟩
          have HoR := hide (rc_one (s := R) (iv := iv) (own_slice ho))
          have HsR := hide (rc_info R iv)
          have h1 := (on_all_to ho H8.out).alloc (.cells (recCells zeroS nilV) 35)
          have gA := hide (on_blk_mul h1)
          have H9 := hide (h1.setRow (recCells R iv))
          have S9 := hide (((S8.out.trans hs).alloc (.cells (recCells zeroS nilV) 35)).setRow W9.heap.size (recCells R iv))
          have hstop : ∀ p : Prop, Hid p → p := fun _ h => h.out
          clear ho hs h1 H8 S8
          go_wp2_with (first | (refine wpList_store_row rfl _ _ _ rfl W9.heap.size (recCells R iv) rfl rfl _ _ gA.out HsR.out rfl HoR.out ?_; refine hstop _ ?_))
          refine hide ?_
          clear hstop gA
          generalize (W9.alloc (.cells (recCells zeroS nilV) 35)).setRow W9.heap.size (recCells R iv) = W10 at *
          generalize W9.heap.size = g18 at *
          have GX := hide (on_blk_mul H9.out)
          have HIX := hide (own_bytes H9.out.right)
          have h10 := H9.out.right.right
          have h11 := h10
          rw [sp_ta1] at h11
          obtain ⟨ivm, h12⟩ := Md.open h11
          have GM := hide (on_blk_mul h12)
          have HIM := hide (own_bytes h12.right)
          obtain ⟨xa, xc, rfl, _, _, _, _⟩ := HIX.out
          obtain ⟨ma, mc, rfl, _, _, _, _⟩ := HIM.out
          have H10 := hide h10
          clear h10 h11 h12 H9 HoR HsR
          go_wp2_with fail
          refine wp_region_vs [isV (.pointer (some ⟨g18, 0, Option.none⟩)), isV (u32v R.seq), isV (.pointer (some ⟨g18, 1, Option.none⟩)), isV (u32v R.floor), isV (.pointer (some ⟨g18, 2, Option.none⟩)), isV (u32v R.bytes), isV (.pointer (some ⟨g18, 3, Option.none⟩)), isV (u32v R.sum), isV (.pointer (some ⟨g18, 5, Option.none⟩)), isV (u32v R.done), isV (.pointer (some ⟨g18, 4, Option.none⟩)), isV (vb R.phase), isV (.pointer (some ⟨g18, 6, Option.none⟩)), isV (.slice xa R.init.length xc), isV (.agg (refCells R (.slice xa R.init.length xc))), isV (.pointer (some ⟨gm, 0, Option.none⟩)), isV (.pointer (some ⟨gm, 0, Option.none⟩)), isV (.pointer (some ⟨gm, 1, Option.none⟩)), isV (.agg (refCells R (.slice ma R.init.length mc))), isV (.bool true), isV (.bool false)]
            (by kernel_rfl) (by kernel_rfl) rfl ?keep ?todo ?rest
          case keep => exact ⟨Keep.isV _, Keep.isV _, Keep.isV _, Keep.isV _, Keep.isV _, Keep.isV _, Keep.isV _, Keep.isV _, Keep.isV _, Keep.isV _, Keep.isV _, Keep.isV _, Keep.isV _, Keep.isV _, Keep.isV _, Keep.isV _, Keep.isV _, Keep.isV _, Keep.isV _, Keep.isV _, Keep.isV _, trivial⟩
          case todo =>
            refine ⟨?_, ?_, ?_, ?_, ?_, ?_, ?_, ?_, ?_, ?_, ?_, ?_, ?_, ?_, ?_, ?_, ?_, ?_, ?_, ?_, ?_, trivial⟩
            · intro ev X hT hb hk hf
              have e0 : ev (.tmp 18) = .pointer (some ⟨g18, 0, Option.none⟩) := hk.1
              exact OpOk.run (v := .pointer (some ⟨g18, 0, Option.none⟩)) (W' := X) (by simp [execOp, e0, hur, go_sem]) ⟨rfl, Stay.refl _⟩
            · intro ev X hT hb hk hf
              have e0 : ev (.tmp 142) = .pointer (some ⟨g18, 0, Option.none⟩) := hf.1
              have cW : X.cell? ⟨g18, 0, Option.none⟩ = some (u32v R.seq) := cell_of_row X g18 0 _ _ _ ((hT.block _ (Array.getElem?_eq_some_iff.1 GX.out).1).trans GX.out)
              exact OpOk.run (v := u32v R.seq) (W' := X) (by simp [execOp, e0, cW, go_sem]) ⟨rfl, Stay.refl _⟩
            · intro ev X hT hb hk hf
              have e0 : ev (.tmp 18) = .pointer (some ⟨g18, 0, Option.none⟩) := hk.1
              exact OpOk.run (v := .pointer (some ⟨g18, 1, Option.none⟩)) (W' := X) (by simp [execOp, e0, hur, go_sem]) ⟨rfl, Stay.refl _⟩
            · intro ev X hT hb hk hf
              have e0 : ev (.tmp 144) = .pointer (some ⟨g18, 1, Option.none⟩) := hf.1
              have cW : X.cell? ⟨g18, 1, Option.none⟩ = some (u32v R.floor) := cell_of_row X g18 1 _ _ _ ((hT.block _ (Array.getElem?_eq_some_iff.1 GX.out).1).trans GX.out)
              exact OpOk.run (v := u32v R.floor) (W' := X) (by simp [execOp, e0, cW, go_sem]) ⟨rfl, Stay.refl _⟩
            · intro ev X hT hb hk hf
              have e0 : ev (.tmp 18) = .pointer (some ⟨g18, 0, Option.none⟩) := hk.1
              exact OpOk.run (v := .pointer (some ⟨g18, 2, Option.none⟩)) (W' := X) (by simp [execOp, e0, hur, go_sem]) ⟨rfl, Stay.refl _⟩
            · intro ev X hT hb hk hf
              have e0 : ev (.tmp 146) = .pointer (some ⟨g18, 2, Option.none⟩) := hf.1
              have cW : X.cell? ⟨g18, 2, Option.none⟩ = some (u32v R.bytes) := cell_of_row X g18 2 _ _ _ ((hT.block _ (Array.getElem?_eq_some_iff.1 GX.out).1).trans GX.out)
              exact OpOk.run (v := u32v R.bytes) (W' := X) (by simp [execOp, e0, cW, go_sem]) ⟨rfl, Stay.refl _⟩
            · intro ev X hT hb hk hf
              have e0 : ev (.tmp 18) = .pointer (some ⟨g18, 0, Option.none⟩) := hk.1
              exact OpOk.run (v := .pointer (some ⟨g18, 3, Option.none⟩)) (W' := X) (by simp [execOp, e0, hur, go_sem]) ⟨rfl, Stay.refl _⟩
            · intro ev X hT hb hk hf
              have e0 : ev (.tmp 148) = .pointer (some ⟨g18, 3, Option.none⟩) := hf.1
              have cW : X.cell? ⟨g18, 3, Option.none⟩ = some (u32v R.sum) := cell_of_row X g18 3 _ _ _ ((hT.block _ (Array.getElem?_eq_some_iff.1 GX.out).1).trans GX.out)
              exact OpOk.run (v := u32v R.sum) (W' := X) (by simp [execOp, e0, cW, go_sem]) ⟨rfl, Stay.refl _⟩
            · intro ev X hT hb hk hf
              have e0 : ev (.tmp 18) = .pointer (some ⟨g18, 0, Option.none⟩) := hk.1
              exact OpOk.run (v := .pointer (some ⟨g18, 5, Option.none⟩)) (W' := X) (by simp [execOp, e0, hur, go_sem]) ⟨rfl, Stay.refl _⟩
            · intro ev X hT hb hk hf
              have e0 : ev (.tmp 150) = .pointer (some ⟨g18, 5, Option.none⟩) := hf.1
              have cW : X.cell? ⟨g18, 5, Option.none⟩ = some (u32v R.done) := cell_of_row X g18 5 _ _ _ ((hT.block _ (Array.getElem?_eq_some_iff.1 GX.out).1).trans GX.out)
              exact OpOk.run (v := u32v R.done) (W' := X) (by simp [execOp, e0, cW, go_sem]) ⟨rfl, Stay.refl _⟩
            · intro ev X hT hb hk hf
              have e0 : ev (.tmp 18) = .pointer (some ⟨g18, 0, Option.none⟩) := hk.1
              exact OpOk.run (v := .pointer (some ⟨g18, 4, Option.none⟩)) (W' := X) (by simp [execOp, e0, hur, go_sem]) ⟨rfl, Stay.refl _⟩
            · intro ev X hT hb hk hf
              have e0 : ev (.tmp 152) = .pointer (some ⟨g18, 4, Option.none⟩) := hf.1
              have cW : X.cell? ⟨g18, 4, Option.none⟩ = some (vb R.phase) := cell_of_row X g18 4 _ _ _ ((hT.block _ (Array.getElem?_eq_some_iff.1 GX.out).1).trans GX.out)
              exact OpOk.run (v := vb R.phase) (W' := X) (by simp [execOp, e0, cW, go_sem]) ⟨rfl, Stay.refl _⟩
            · intro ev X hT hb hk hf
              have e0 : ev (.tmp 18) = .pointer (some ⟨g18, 0, Option.none⟩) := hk.1
              exact OpOk.run (v := .pointer (some ⟨g18, 6, Option.none⟩)) (W' := X) (by simp [execOp, e0, hur, go_sem]) ⟨rfl, Stay.refl _⟩
            · intro ev X hT hb hk hf
              have e0 : ev (.tmp 154) = .pointer (some ⟨g18, 6, Option.none⟩) := hf.1
              have cW : X.cell? ⟨g18, 6, Option.none⟩ = some (.slice xa R.init.length xc) := cell_of_row X g18 6 _ _ _ ((hT.block _ (Array.getElem?_eq_some_iff.1 GX.out).1).trans GX.out)
              exact OpOk.run (v := .slice xa R.init.length xc) (W' := X) (by simp [execOp, e0, cW, go_sem]) ⟨rfl, Stay.refl _⟩
            · intro ev X hT hb hk hf
              have e0 : ev (.tmp 143) = u32v R.seq := hf.1
              have e1 : ev (.tmp 145) = u32v R.floor := hf.2.1
              have e2 : ev (.tmp 147) = u32v R.bytes := hf.2.2.1
              have e3 : ev (.tmp 149) = u32v R.sum := hf.2.2.2.1
              have e4 : ev (.tmp 151) = u32v R.done := hf.2.2.2.2.1
              have e5 : ev (.tmp 153) = vb R.phase := hf.2.2.2.2.2.1
              have e6 : ev (.tmp 155) = .slice xa R.init.length xc := hf.2.2.2.2.2.2.1
              exact OpOk.build_rr _ _ _ _ _ _ _ rfl R xa R.init.length xc e0 e1 e2 e3 e4 e5 e6 ⟨rfl, Stay.refl _⟩
            · intro ev X hT hb hk hf
              have e0 : ev (.tmp 9) = .pointer (some ⟨gm, 0, Option.none⟩) := hk.1
              exact OpOk.move rfl e0 ⟨rfl, Stay.refl _⟩
            · intro ev X hT hb hk hf
              have e0 : ev (.tmp 157) = .pointer (some ⟨gm, 0, Option.none⟩) := hf.1
              exact OpOk.run (v := .pointer (some ⟨gm, 0, Option.none⟩)) (W' := X) (by simp [execOp, e0, hb.1, go_sem]) ⟨rfl, Stay.refl _⟩
            · intro ev X hT hb hk hf
              have e0 : ev (.tmp 158) = .pointer (some ⟨gm, 0, Option.none⟩) := hf.1
              exact OpOk.run (v := .pointer (some ⟨gm, 1, Option.none⟩)) (W' := X) (by simp [execOp, e0, hum, go_sem]) ⟨rfl, Stay.refl _⟩
            · intro ev X hT hb hk hf
              have e0 : ev (.tmp 159) = .pointer (some ⟨gm, 1, Option.none⟩) := hf.1
              have hp9 := md_part q R (.slice ma R.init.length mc) X gm _ ((hT.block _ (Array.getElem?_eq_some_iff.1 GM.out).1).trans GM.out)
              exact OpOk.load_part _ _ rfl gm 1 e0 (refCells R (.slice ma R.init.length mc)) _ hp9 hurr rfl (rr_info _ _) ⟨rfl, Stay.refl _⟩
            · intro ev X hT hb hk hf
              have e0 : ev (.tmp 156) = .agg (refCells R (.slice xa R.init.length xc)) := hf.1
              have e1 : ev (.tmp 160) = .agg (refCells R (.slice ma R.init.length mc)) := hf.2.1
              refine OpOk.enters (f := 31) (args := #[.agg (refCells R (.slice xa R.init.length xc)), .agg (refCells R (.slice ma R.init.length mc))]) (W' := X) (by simp [execOp, resolve, invoke, e0, e1, hb.1, hb.2.1, go_sem]) ((rsame_any R _ _ X (HIX.out.below hT) (HIM.out.below hT)).mono ?_)
              rintro e X2 ⟨rfl, h2⟩
              exact ⟨_, rfl, rfl, h2⟩
            · intro ev X hT hb hk hf
              have e0 : ev (.tmp 161) = .bool true := hf.1
              exact OpOk.run (v := .bool false) (W' := X) (by simp [execOp, e0, hb.1, go_sem]) ⟨rfl, Stay.refl _⟩
          case rest =>
            intro X hT
            rintro _ rfl _ rfl _ rfl _ rfl _ rfl _ rfl _ rfl _ rfl _ rfl _ rfl _ rfl _ rfl _ rfl _ rfl _ rfl _ rfl _ rfl _ rfl _ rfl _ rfl _ rfl
            have H11 := hide (H10.out.below hT)
            have S11 := hide (S9.out.trans (Str.below hT))
            have GM2 := hide ((hT.block _ (Array.getElem?_eq_some_iff.1 GM.out).1).trans GM.out)
            have HIM2 := hide (HIM.out.below hT)
            clear hT H10 S9 GX HIX HIM GM
            go_wp2
            refine Rest.done ?_
            go_wp2_with fail
            refine (kload_any kq p R _ _ H11.out HR.out).mono ?_
            rintro e W12 ⟨v, rfl, ho, hs⟩
            have hall := all_below ho.right hs
            have H12 := hide (H11.out.below hall)
            have S12 := hide (S11.out.trans hs)
            have GM3 := (hall.block _ (Array.getElem?_eq_some_iff.1 GM2.out).1).trans GM2.out
            have c4 : W12.cell? ⟨gm, 5, Option.none⟩ = some (u32v R.done) := cell_of_row _ _ 5 _ _ _ GM3
            have c5 : W12.cell? ⟨gm, 6, Option.none⟩ = some (vb R.phase) := cell_of_row _ _ 6 _ _ _ GM3
            have c6 : W12.cell? ⟨gm, 7, Option.none⟩ = some (.slice ma R.init.length mc) := cell_of_row _ _ 7 _ _ _ GM3
            have HIM3 := HIM2.out.below hall
            have hby := own_bytes ho
            unfold RecS.got at hby ⊢
            by_cases hph : R.phase = 1
            · rw [if_pos hph] at hby ⊢
              obtain ⟨va, vc, rfl, hvc, hvm, hvl, _⟩ := hby
              obtain ⟨ma2, mc2, hme, hmc, hmm, hml, _⟩ := HIM3
              simp only [Value.slice.injEq] at hme
              obtain ⟨rfl, _, rfl⟩ := hme
              have k2 := fun n => run_string_of (P := Try.prog) (w := W12.drewN n) (c := vc) hsu hsb (show Lay (W12.drewN n) va (vbs R.init) from fun i v e => by
                obtain ⟨b, off, h1, h2⟩ := hvl i v e
                exact ⟨b, off, h1, by simpa using h2⟩) _ hst
              have k3 := fun n => run_string_of (P := Try.prog) (w := W12.drewN n) (c := mc) hsu hsb (show Lay (W12.drewN n) ma (vbs R.init) from fun i v e => by
                obtain ⟨b, off, h1, h2⟩ := hml i v e
                exact ⟨b, off, h1, by simpa using h2⟩) _ hst
              have e1 : (((R.phase.toNat : Nat) : Int) == 1) = true := by rw [hph]; rfl
              have e2 : (((R.phase.toNat : Nat) : Int) != 1) = false := by rw [hph]; rfl
              clear hvl hml ho hs hall GM3 H11 S11 GM2 HIM2 hph
              generalize strOf R.init = sx at k2 k3
              dsimp only
              go_wp2_with fail
              go_quiet (fail)
              go_wp2_with fail
              exact ⟨⟨j + 1, s, R, kq, by omega, rfl, by simp, Hf1.out.mono (by omega), hw1, HR.out, hdn1, SP.on_of_heap (w' := _) H12.out rfl, ⟨S12.out.os, S12.out.tape, S12.out.output, S12.out.size⟩⟩, by simp [intOf]; omega⟩
            · rw [if_neg hph] at hby ⊢
              obtain ⟨va, vc, rfl, hvc, hvm, hvl, _⟩ := hby
              have e1 : (((R.phase.toNat : Nat) : Int) == 1) = false := by
                have : R.phase.toNat ≠ 1 := fun h => hph (UInt8.toNat_inj.1 h)
                simp; omega
              have e2 : (((R.phase.toNat : Nat) : Int) != 1) = true := by
                have : R.phase.toNat ≠ 1 := fun h => hph (UInt8.toNat_inj.1 h)
                simp; omega
              clear hvl ho hs hall GM3 H11 S11 GM2 HIM2 hph HIM3
              dsimp only
              go_wp2_with fail
              go_quiet (fail)
              go_wp2_with fail
              exact ⟨⟨j + 1, s, R, kq, by omega, rfl, by simp, Hf1.out.mono (by omega), hw1, HR.out, hdn1, SP.on_of_heap (w' := _) H12.out rfl, ⟨S12.out.os, S12.out.tape, S12.out.output, S12.out.size⟩⟩, by simp [intOf]; omega⟩
      · as_aux_lemma =>
          rw [show ((1 : Nat) : Int) = 1 from rfl] at hk4
          have hB := hide (bytes18_any k (by omega) yt hy3 W6)
          go_wp2_with fail
          refine hB.out.mono ?_
          clear hB
          rintro e W6b ⟨v, rfl, init, hil, ho, hs⟩
          have h6 := on_all_to ho H6.out
          have S6b := hide (S6.out.trans hs)
          have hi9 : init.length ≤ 1000000 := by omega
          obtain ⟨Hfn, Hwn, HRn, Hdn⟩ := kPut_all s Hfit.out HRo.out hdn init
          have hP := kput_any kq p R s _ _ Hfit.out (by omega) hwl HRo.out hdn v init (fun W hW => own_bytes hW) W6b (show (Kp kq p R * (Flash p s * (ownR v init * (Md gm q R * (RFlash q s * all w))))).on W6b from by
            rw [show Kp kq p R * (Flash p s * (ownR v init * (Md gm q R * (RFlash q s * all w)))) = ownR v init * (Kp kq p R * (Flash p s * (Md gm q R * (RFlash q s * all w)))) by ac_rfl]; exact h6)
          have hQ := fun (st : FlS) (R3 : RecS) X hX => mput_any gm q R s (ownR v init * (Kp kq p R3 * (Flash p st * all w))) _ Hfit.out (by omega) hwl HRo.out hdn v init hi9 (fun W hW => own_bytes hW) X hX
          obtain ⟨va, vc, rfl, _, _, _, _⟩ := own_value ho
          have S6 := S6b
          clear H6 ho hs S6b hil hi9
          obtain ⟨⟨s9, R9, er⟩, hX⟩ : ∃ x, x = kPut s R init := ⟨_, rfl⟩
          rw [← hX] at hP hQ Hfn Hwn HRn Hdn
          clear hX
          replace hQ := hQ s9 R9
          have HP := hide hP
          clear hP x0 x1 x2 h6 H6f
          go_wp2_with fail
          refine HP.out.mono ?_
          clear HP
          rintro e W7 ⟨rfl, h7, hs7⟩
          have S7 := hide (S6.out.trans hs7)
          have hQ2 := hQ W7 (by
            try simp only at h7
            rw [show Kp kq p R9 * (Flash p s9 * (ownR (.slice va init.length vc) init * (Md gm q R * (RFlash q s * all w)))) = Md gm q R * (RFlash q s * (ownR (.slice va init.length vc) init * (Kp kq p R9 * (Flash p s9 * all w)))) by ac_rfl] at h7
            exact h7)
          have HQ := hide hQ2
          clear h7 hs7 hQ hQ2 S6
          try simp only
          go_wp2_with fail
          refine HQ.out.mono ?_
          clear HQ
          rintro e W8 ⟨rfl, h8, hs8⟩
          have S8 := hide (S7.out.trans hs8)
          have H8 : Hid ((Kp kq p R9 * (Flash p s9 * (Md gm q R9 * (RFlash q s9 * all w)))).on W8) := hide (by
            try simp only at h8
            rw [show Md gm q R9 * (RFlash q s9 * (ownR (.slice va init.length vc) init * (Kp kq p R9 * (Flash p s9 * all w)))) = ownR (.slice va init.length vc) init * (Kp kq p R9 * (Flash p s9 * (Md gm q R9 * (RFlash q s9 * all w)))) by ac_rfl] at h8
            exact h8.right)
          have hw1 : 34 ≤ s9.worn.length := by (try simp only at Hwn); omega
          clear h8 hs8 S7 Hfit HRo hwl hdn
          have Hf1 := hide Hfn
          have HR := hide HRn
          have hdn1 := Hdn
          clear Hfn HRn Hwn Hdn
          generalize s9 = s at *
          generalize R9 = R at *
          have hee : (((er : Nat) : Int) != ((er : Nat) : Int)) = false := by simp
          go_wp2_with fail
          refine (krecord_any kq p R _ _ H8.out HR.out).mono ?_
          rintro e W9 ⟨iv, rfl, ho, hs⟩
          have HoR := hide (rc_one (s := R) (iv := iv) (own_slice ho))
          have HsR := hide (rc_info R iv)
          have h1 := (on_all_to ho H8.out).alloc (.cells (recCells zeroS nilV) 35)
          have gA := hide (on_blk_mul h1)
          have H9 := hide (h1.setRow (recCells R iv))
          have S9 := hide (((S8.out.trans hs).alloc (.cells (recCells zeroS nilV) 35)).setRow W9.heap.size (recCells R iv))
          have hstop : ∀ p : Prop, Hid p → p := fun _ h => h.out
          clear ho hs h1 H8 S8
          go_wp2_with (first | (refine wpList_store_row rfl _ _ _ rfl W9.heap.size (recCells R iv) rfl rfl _ _ gA.out HsR.out rfl HoR.out ?_; refine hstop _ ?_))
          refine hide ?_
          clear hstop gA
          generalize (W9.alloc (.cells (recCells zeroS nilV) 35)).setRow W9.heap.size (recCells R iv) = W10 at *
          generalize W9.heap.size = g18 at *
          have GX := hide (on_blk_mul H9.out)
          have HIX := hide (own_bytes H9.out.right)
          have h10 := H9.out.right.right
          have h11 := h10
          rw [sp_ta1] at h11
          obtain ⟨ivm, h12⟩ := Md.open h11
          have GM := hide (on_blk_mul h12)
          have HIM := hide (own_bytes h12.right)
          obtain ⟨xa, xc, rfl, _, _, _, _⟩ := HIX.out
          obtain ⟨ma, mc, rfl, _, _, _, _⟩ := HIM.out
          have H10 := hide h10
          clear h10 h11 h12 H9 HoR HsR
          go_wp2_with fail
          refine wp_region_vs [isV (.pointer (some ⟨g18, 0, Option.none⟩)), isV (u32v R.seq), isV (.pointer (some ⟨g18, 1, Option.none⟩)), isV (u32v R.floor), isV (.pointer (some ⟨g18, 2, Option.none⟩)), isV (u32v R.bytes), isV (.pointer (some ⟨g18, 3, Option.none⟩)), isV (u32v R.sum), isV (.pointer (some ⟨g18, 5, Option.none⟩)), isV (u32v R.done), isV (.pointer (some ⟨g18, 4, Option.none⟩)), isV (vb R.phase), isV (.pointer (some ⟨g18, 6, Option.none⟩)), isV (.slice xa R.init.length xc), isV (.agg (refCells R (.slice xa R.init.length xc))), isV (.pointer (some ⟨gm, 0, Option.none⟩)), isV (.pointer (some ⟨gm, 0, Option.none⟩)), isV (.pointer (some ⟨gm, 1, Option.none⟩)), isV (.agg (refCells R (.slice ma R.init.length mc))), isV (.bool true), isV (.bool false)]
            (by kernel_rfl) (by kernel_rfl) rfl ?keep ?todo ?rest
          case keep => exact ⟨Keep.isV _, Keep.isV _, Keep.isV _, Keep.isV _, Keep.isV _, Keep.isV _, Keep.isV _, Keep.isV _, Keep.isV _, Keep.isV _, Keep.isV _, Keep.isV _, Keep.isV _, Keep.isV _, Keep.isV _, Keep.isV _, Keep.isV _, Keep.isV _, Keep.isV _, Keep.isV _, Keep.isV _, trivial⟩
          case todo =>
            refine ⟨?_, ?_, ?_, ?_, ?_, ?_, ?_, ?_, ?_, ?_, ?_, ?_, ?_, ?_, ?_, ?_, ?_, ?_, ?_, ?_, ?_, trivial⟩
            · intro ev X hT hb hk hf
              have e0 : ev (.tmp 18) = .pointer (some ⟨g18, 0, Option.none⟩) := hk.1
              exact OpOk.run (v := .pointer (some ⟨g18, 0, Option.none⟩)) (W' := X) (by simp [execOp, e0, hur, go_sem]) ⟨rfl, Stay.refl _⟩
            · intro ev X hT hb hk hf
              have e0 : ev (.tmp 142) = .pointer (some ⟨g18, 0, Option.none⟩) := hf.1
              have cW : X.cell? ⟨g18, 0, Option.none⟩ = some (u32v R.seq) := cell_of_row X g18 0 _ _ _ ((hT.block _ (Array.getElem?_eq_some_iff.1 GX.out).1).trans GX.out)
              exact OpOk.run (v := u32v R.seq) (W' := X) (by simp [execOp, e0, cW, go_sem]) ⟨rfl, Stay.refl _⟩
            · intro ev X hT hb hk hf
              have e0 : ev (.tmp 18) = .pointer (some ⟨g18, 0, Option.none⟩) := hk.1
              exact OpOk.run (v := .pointer (some ⟨g18, 1, Option.none⟩)) (W' := X) (by simp [execOp, e0, hur, go_sem]) ⟨rfl, Stay.refl _⟩
            · intro ev X hT hb hk hf
              have e0 : ev (.tmp 144) = .pointer (some ⟨g18, 1, Option.none⟩) := hf.1
              have cW : X.cell? ⟨g18, 1, Option.none⟩ = some (u32v R.floor) := cell_of_row X g18 1 _ _ _ ((hT.block _ (Array.getElem?_eq_some_iff.1 GX.out).1).trans GX.out)
              exact OpOk.run (v := u32v R.floor) (W' := X) (by simp [execOp, e0, cW, go_sem]) ⟨rfl, Stay.refl _⟩
            · intro ev X hT hb hk hf
              have e0 : ev (.tmp 18) = .pointer (some ⟨g18, 0, Option.none⟩) := hk.1
              exact OpOk.run (v := .pointer (some ⟨g18, 2, Option.none⟩)) (W' := X) (by simp [execOp, e0, hur, go_sem]) ⟨rfl, Stay.refl _⟩
            · intro ev X hT hb hk hf
              have e0 : ev (.tmp 146) = .pointer (some ⟨g18, 2, Option.none⟩) := hf.1
              have cW : X.cell? ⟨g18, 2, Option.none⟩ = some (u32v R.bytes) := cell_of_row X g18 2 _ _ _ ((hT.block _ (Array.getElem?_eq_some_iff.1 GX.out).1).trans GX.out)
              exact OpOk.run (v := u32v R.bytes) (W' := X) (by simp [execOp, e0, cW, go_sem]) ⟨rfl, Stay.refl _⟩
            · intro ev X hT hb hk hf
              have e0 : ev (.tmp 18) = .pointer (some ⟨g18, 0, Option.none⟩) := hk.1
              exact OpOk.run (v := .pointer (some ⟨g18, 3, Option.none⟩)) (W' := X) (by simp [execOp, e0, hur, go_sem]) ⟨rfl, Stay.refl _⟩
            · intro ev X hT hb hk hf
              have e0 : ev (.tmp 148) = .pointer (some ⟨g18, 3, Option.none⟩) := hf.1
              have cW : X.cell? ⟨g18, 3, Option.none⟩ = some (u32v R.sum) := cell_of_row X g18 3 _ _ _ ((hT.block _ (Array.getElem?_eq_some_iff.1 GX.out).1).trans GX.out)
              exact OpOk.run (v := u32v R.sum) (W' := X) (by simp [execOp, e0, cW, go_sem]) ⟨rfl, Stay.refl _⟩
            · intro ev X hT hb hk hf
              have e0 : ev (.tmp 18) = .pointer (some ⟨g18, 0, Option.none⟩) := hk.1
              exact OpOk.run (v := .pointer (some ⟨g18, 5, Option.none⟩)) (W' := X) (by simp [execOp, e0, hur, go_sem]) ⟨rfl, Stay.refl _⟩
            · intro ev X hT hb hk hf
              have e0 : ev (.tmp 150) = .pointer (some ⟨g18, 5, Option.none⟩) := hf.1
              have cW : X.cell? ⟨g18, 5, Option.none⟩ = some (u32v R.done) := cell_of_row X g18 5 _ _ _ ((hT.block _ (Array.getElem?_eq_some_iff.1 GX.out).1).trans GX.out)
              exact OpOk.run (v := u32v R.done) (W' := X) (by simp [execOp, e0, cW, go_sem]) ⟨rfl, Stay.refl _⟩
            · intro ev X hT hb hk hf
              have e0 : ev (.tmp 18) = .pointer (some ⟨g18, 0, Option.none⟩) := hk.1
              exact OpOk.run (v := .pointer (some ⟨g18, 4, Option.none⟩)) (W' := X) (by simp [execOp, e0, hur, go_sem]) ⟨rfl, Stay.refl _⟩
            · intro ev X hT hb hk hf
              have e0 : ev (.tmp 152) = .pointer (some ⟨g18, 4, Option.none⟩) := hf.1
              have cW : X.cell? ⟨g18, 4, Option.none⟩ = some (vb R.phase) := cell_of_row X g18 4 _ _ _ ((hT.block _ (Array.getElem?_eq_some_iff.1 GX.out).1).trans GX.out)
              exact OpOk.run (v := vb R.phase) (W' := X) (by simp [execOp, e0, cW, go_sem]) ⟨rfl, Stay.refl _⟩
            · intro ev X hT hb hk hf
              have e0 : ev (.tmp 18) = .pointer (some ⟨g18, 0, Option.none⟩) := hk.1
              exact OpOk.run (v := .pointer (some ⟨g18, 6, Option.none⟩)) (W' := X) (by simp [execOp, e0, hur, go_sem]) ⟨rfl, Stay.refl _⟩
            · intro ev X hT hb hk hf
              have e0 : ev (.tmp 154) = .pointer (some ⟨g18, 6, Option.none⟩) := hf.1
              have cW : X.cell? ⟨g18, 6, Option.none⟩ = some (.slice xa R.init.length xc) := cell_of_row X g18 6 _ _ _ ((hT.block _ (Array.getElem?_eq_some_iff.1 GX.out).1).trans GX.out)
              exact OpOk.run (v := .slice xa R.init.length xc) (W' := X) (by simp [execOp, e0, cW, go_sem]) ⟨rfl, Stay.refl _⟩
            · intro ev X hT hb hk hf
              have e0 : ev (.tmp 143) = u32v R.seq := hf.1
              have e1 : ev (.tmp 145) = u32v R.floor := hf.2.1
              have e2 : ev (.tmp 147) = u32v R.bytes := hf.2.2.1
              have e3 : ev (.tmp 149) = u32v R.sum := hf.2.2.2.1
              have e4 : ev (.tmp 151) = u32v R.done := hf.2.2.2.2.1
              have e5 : ev (.tmp 153) = vb R.phase := hf.2.2.2.2.2.1
              have e6 : ev (.tmp 155) = .slice xa R.init.length xc := hf.2.2.2.2.2.2.1
              exact OpOk.build_rr _ _ _ _ _ _ _ rfl R xa R.init.length xc e0 e1 e2 e3 e4 e5 e6 ⟨rfl, Stay.refl _⟩
            · intro ev X hT hb hk hf
              have e0 : ev (.tmp 9) = .pointer (some ⟨gm, 0, Option.none⟩) := hk.1
              exact OpOk.move rfl e0 ⟨rfl, Stay.refl _⟩
            · intro ev X hT hb hk hf
              have e0 : ev (.tmp 157) = .pointer (some ⟨gm, 0, Option.none⟩) := hf.1
              exact OpOk.run (v := .pointer (some ⟨gm, 0, Option.none⟩)) (W' := X) (by simp [execOp, e0, hb.1, go_sem]) ⟨rfl, Stay.refl _⟩
            · intro ev X hT hb hk hf
              have e0 : ev (.tmp 158) = .pointer (some ⟨gm, 0, Option.none⟩) := hf.1
              exact OpOk.run (v := .pointer (some ⟨gm, 1, Option.none⟩)) (W' := X) (by simp [execOp, e0, hum, go_sem]) ⟨rfl, Stay.refl _⟩
            · intro ev X hT hb hk hf
              have e0 : ev (.tmp 159) = .pointer (some ⟨gm, 1, Option.none⟩) := hf.1
              have hp9 := md_part q R (.slice ma R.init.length mc) X gm _ ((hT.block _ (Array.getElem?_eq_some_iff.1 GM.out).1).trans GM.out)
              exact OpOk.load_part _ _ rfl gm 1 e0 (refCells R (.slice ma R.init.length mc)) _ hp9 hurr rfl (rr_info _ _) ⟨rfl, Stay.refl _⟩
            · intro ev X hT hb hk hf
              have e0 : ev (.tmp 156) = .agg (refCells R (.slice xa R.init.length xc)) := hf.1
              have e1 : ev (.tmp 160) = .agg (refCells R (.slice ma R.init.length mc)) := hf.2.1
              refine OpOk.enters (f := 31) (args := #[.agg (refCells R (.slice xa R.init.length xc)), .agg (refCells R (.slice ma R.init.length mc))]) (W' := X) (by simp [execOp, resolve, invoke, e0, e1, hb.1, hb.2.1, go_sem]) ((rsame_any R _ _ X (HIX.out.below hT) (HIM.out.below hT)).mono ?_)
              rintro e X2 ⟨rfl, h2⟩
              exact ⟨_, rfl, rfl, h2⟩
            · intro ev X hT hb hk hf
              have e0 : ev (.tmp 161) = .bool true := hf.1
              exact OpOk.run (v := .bool false) (W' := X) (by simp [execOp, e0, hb.1, go_sem]) ⟨rfl, Stay.refl _⟩
          case rest =>
            intro X hT
            rintro _ rfl _ rfl _ rfl _ rfl _ rfl _ rfl _ rfl _ rfl _ rfl _ rfl _ rfl _ rfl _ rfl _ rfl _ rfl _ rfl _ rfl _ rfl _ rfl _ rfl _ rfl
            have H11 := hide (H10.out.below hT)
            have S11 := hide (S9.out.trans (Str.below hT))
            have GM2 := hide ((hT.block _ (Array.getElem?_eq_some_iff.1 GM.out).1).trans GM.out)
            have HIM2 := hide (HIM.out.below hT)
            clear hT H10 S9 GX HIX HIM GM
            go_wp2
            refine Rest.done ?_
            go_wp2_with fail
            refine (kload_any kq p R _ _ H11.out HR.out).mono ?_
            rintro e W12 ⟨v, rfl, ho, hs⟩
            have hall := all_below ho.right hs
            have H12 := hide (H11.out.below hall)
            have S12 := hide (S11.out.trans hs)
            have GM3 := (hall.block _ (Array.getElem?_eq_some_iff.1 GM2.out).1).trans GM2.out
            have c4 : W12.cell? ⟨gm, 5, Option.none⟩ = some (u32v R.done) := cell_of_row _ _ 5 _ _ _ GM3
            have c5 : W12.cell? ⟨gm, 6, Option.none⟩ = some (vb R.phase) := cell_of_row _ _ 6 _ _ _ GM3
            have c6 : W12.cell? ⟨gm, 7, Option.none⟩ = some (.slice ma R.init.length mc) := cell_of_row _ _ 7 _ _ _ GM3
            have HIM3 := HIM2.out.below hall
            have hby := own_bytes ho
            unfold RecS.got at hby ⊢
            by_cases hph : R.phase = 1
            · rw [if_pos hph] at hby ⊢
              obtain ⟨va, vc, rfl, hvc, hvm, hvl, _⟩ := hby
              obtain ⟨ma2, mc2, hme, hmc, hmm, hml, _⟩ := HIM3
              simp only [Value.slice.injEq] at hme
              obtain ⟨rfl, _, rfl⟩ := hme
              have k2 := fun n => run_string_of (P := Try.prog) (w := W12.drewN n) (c := vc) hsu hsb (show Lay (W12.drewN n) va (vbs R.init) from fun i v e => by
                obtain ⟨b, off, h1, h2⟩ := hvl i v e
                exact ⟨b, off, h1, by simpa using h2⟩) _ hst
              have k3 := fun n => run_string_of (P := Try.prog) (w := W12.drewN n) (c := mc) hsu hsb (show Lay (W12.drewN n) ma (vbs R.init) from fun i v e => by
                obtain ⟨b, off, h1, h2⟩ := hml i v e
                exact ⟨b, off, h1, by simpa using h2⟩) _ hst
              have e1 : (((R.phase.toNat : Nat) : Int) == 1) = true := by rw [hph]; rfl
              have e2 : (((R.phase.toNat : Nat) : Int) != 1) = false := by rw [hph]; rfl
              clear hvl hml ho hs hall GM3 H11 S11 GM2 HIM2 hph
              generalize strOf R.init = sx at k2 k3
              dsimp only
              go_wp2_with fail
              go_quiet (fail)
              go_wp2_with fail
              exact ⟨⟨j + 1, s, R, kq, by omega, rfl, by simp, Hf1.out.mono (by omega), hw1, HR.out, hdn1, SP.on_of_heap (w' := _) H12.out rfl, ⟨S12.out.os, S12.out.tape, S12.out.output, S12.out.size⟩⟩, by simp [intOf]; omega⟩
            · rw [if_neg hph] at hby ⊢
              obtain ⟨va, vc, rfl, hvc, hvm, hvl, _⟩ := hby
              have e1 : (((R.phase.toNat : Nat) : Int) == 1) = false := by
                have : R.phase.toNat ≠ 1 := fun h => hph (UInt8.toNat_inj.1 h)
                simp; omega
              have e2 : (((R.phase.toNat : Nat) : Int) != 1) = true := by
                have : R.phase.toNat ≠ 1 := fun h => hph (UInt8.toNat_inj.1 h)
                simp; omega
              clear hvl ho hs hall GM3 H11 S11 GM2 HIM2 hph HIM3
              dsimp only
              go_wp2_with fail
              go_quiet (fail)
              go_wp2_with fail
              exact ⟨⟨j + 1, s, R, kq, by omega, rfl, by simp, Hf1.out.mono (by omega), hw1, HR.out, hdn1, SP.on_of_heap (w' := _) H12.out rfl, ⟨S12.out.os, S12.out.tape, S12.out.output, S12.out.size⟩⟩, by simp [intOf]; omega⟩
      · as_aux_lemma =>
          rw [show ((2 : Nat) : Int) = 2 from rfl] at hk4
          obtain ⟨s9, hs9⟩ : ∃ x, x = s.fail k yt := ⟨_, rfl⟩
          have hf1 := fail_any p s _ W6 (show (Flash p s * (blk g11 (.cells (atC ⟨yk, yn, yt⟩) 64 (0, 0)) * (Kp kq p R * (Md gm q R * (RFlash q s * all w))))).on W6 from by rw [SP.mul_left_comm, SP.mul_left_comm (Flash p s)]; exact H6f.out) k yt
          have hQ := fun F' X hX => rfail_any q s F' X hX k yt
          have Hfn : s9.Fit (j * 4000 + 4000) := by rw [hs9]; exact (Hfit.out.mono (show j * 4000 ≤ j * 4000 + 4000 by omega)).fail k yt (by omega) hy3
          have hwn9 : 34 ≤ s9.worn.length := by rw [hs9]; exact hwl
          have hf1 := show Calls Try.prog 16 #[fptr p, .int .i64 (k : Int), .int .u32 (yt : Int)] W6 fun e w' => e = .returned (.int .i64 0) ∧ (Flash p s9 * (blk g11 (.cells (atC ⟨yk, yn, yt⟩) 64 (0, 0)) * (Kp kq p R * (Md gm q R * (RFlash q s * all w))))).on w' ∧ Str W6 w' from by rw [hs9]; exact hf1
          have hQ := show ∀ F' X, (RFlash q s * F').on X → Calls Try.prog 27 #[fptr q, .int .i64 (k : Int), .int .u32 (yt : Int)] X fun e w' => e = .returned (.int .i64 0) ∧ (RFlash q s9 * F').on w' ∧ Str X w' from by rw [hs9]; exact hQ
          have HF1 := hide hf1
          have HQ := hide hQ
          have Hfn := hide Hfn
          clear hs9 hf1 hQ Hfit
          go_wp2_with fail
          refine HF1.out.mono ?_
          clear HF1 x0 x1 x2 H6f
          rintro e W7 ⟨rfl, h7, hs7⟩
          have h7f := h7
          rw [SP.mul_left_comm] at h7f
          have h7 := h7f.right
          have S7 := hide (S6.out.trans hs7)
          have h7b : (Md gm q R * (Flash p s9 * (Kp kq p R * (RFlash q s * all w)))).on W7 := by
            rw [show Md gm q R * (Flash p s9 * (Kp kq p R * (RFlash q s * all w))) = Flash p s9 * (Kp kq p R * (Md gm q R * (RFlash q s * all w))) by ac_rfl]; exact h7
          obtain ⟨ivm, hmd⟩ := Md.open h7b
          have H7 := hide h7
          have cm := hide (show W7.cell? ⟨gm, 0, Option.none⟩ = some (fptr q) from cell_of_row _ _ 0 _ _ _ (on_blk_mul hmd))
          have cy := hide (show W7.cell? ⟨g11, 2, Option.none⟩ = some (u32v yt) from cell_of_row _ _ 2 _ _ _ (on_blk_mul h7f))
          clear h7 h7f h7b hmd hs7 H6 S6
          go_wp2_with fail
          refine wp_region_tail 7 [isV (.pointer (some ⟨gm, 0, Option.none⟩)), isV (.pointer (some ⟨gm, 0, Option.none⟩)), isV (.pointer (some ⟨gm, 0, Option.none⟩)), isV (fptr q), isV (.int .i64 (k : Int)), isV (.pointer (some ⟨g11, 2, Option.none⟩)), isV (u32v yt)]
            (by simp only [List.take_succ_cons, List.take_zero]; rfl) (by simp only [List.drop_succ_cons, List.drop_zero]; rfl) (by kernel_rfl) (by kernel_rfl) (by kernel_rfl) (by decide) rfl ?keep ?todo ?rest
          case keep => exact ⟨Keep.isV _, Keep.isV _, Keep.isV _, Keep.isV _, Keep.isV _, Keep.isV _, Keep.isV _, trivial⟩
          case todo =>
            refine ⟨?_, ?_, ?_, ?_, ?_, ?_, ?_, trivial⟩
            · exact fun ev X hT hb hk hf => OpOk.move rfl hk.1 ⟨rfl, Stay.refl _⟩
            · intro ev X hT hb hk hf
              have e0 : ev (.tmp 132) = .pointer (some ⟨gm, 0, Option.none⟩) := hf.1
              exact OpOk.run (v := .pointer (some ⟨gm, 0, Option.none⟩)) (W' := X) (by simp [execOp, e0, hb.1, go_sem]) ⟨rfl, Stay.refl _⟩
            · intro ev X hT hb hk hf
              have e0 : ev (.tmp 133) = .pointer (some ⟨gm, 0, Option.none⟩) := hf.1
              exact OpOk.run (v := .pointer (some ⟨gm, 0, Option.none⟩)) (W' := X) (by simp [execOp, e0, hum, go_sem]) ⟨rfl, Stay.refl _⟩
            · intro ev X hT hb hk hf
              have e0 : ev (.tmp 134) = .pointer (some ⟨gm, 0, Option.none⟩) := hf.1
              have cW := (hT.cell (p := ⟨gm, 0, Option.none⟩) (World.block_lt_of_cell? _ _ cm.out)).trans cm.out
              exact OpOk.run (v := fptr q) (W' := X) (by simp [execOp, e0, cW, go_sem]) ⟨rfl, Stay.refl _⟩
            · exact fun ev X hT hb hk hf => OpOk.move rfl hk.1 ⟨rfl, Stay.refl _⟩
            · intro ev X hT hb hk hf
              have e0 : ev (.tmp 11) = .pointer (some ⟨g11, 0, Option.none⟩) := hk.1
              exact OpOk.run (v := .pointer (some ⟨g11, 2, Option.none⟩)) (W' := X) (by simp [execOp, e0, hua, go_sem]) ⟨rfl, Stay.refl _⟩
            · intro ev X hT hb hk hf
              have e0 : ev (.tmp 137) = .pointer (some ⟨g11, 2, Option.none⟩) := hf.1
              have cW := (hT.cell (p := ⟨g11, 2, Option.none⟩) (World.block_lt_of_cell? _ _ cy.out)).trans cy.out
              exact OpOk.run (v := u32v yt) (W' := X) (by simp [execOp, e0, cW, go_sem]) ⟨rfl, Stay.refl _⟩
          case rest =>
            intro X hT
            rintro _ rfl _ rfl _ rfl _ rfl _ rfl _ rfl _ rfl
            have h8 := H7.out.below hT
            have HP := hide (HQ.out _ X (show (RFlash q s * (Flash p s9 * (Kp kq p R * (Md gm q R * all w)))).on X from by
              rw [show RFlash q s * (Flash p s9 * (Kp kq p R * (Md gm q R * all w))) = Flash p s9 * (Kp kq p R * (Md gm q R * (RFlash q s * all w))) by ac_rfl]; exact h8))
            have S7b := hide (S7.out.trans (Str.below hT))
            clear hT h8 HQ H7 S7 cm cy
            go_wp2
            refine Rest.done ?_
            go_wp2_with fail
            refine HP.out.mono ?_
            clear HP
            rintro e W8 ⟨rfl, h8, hs8⟩
            have S8 := hide (S7b.out.trans hs8)
            have H8 : Hid ((Kp kq p R * (Flash p s9 * (Md gm q R * (RFlash q s9 * all w)))).on W8) := hide (by
              rw [show RFlash q s9 * (Flash p s9 * (Kp kq p R * (Md gm q R * all w))) = Kp kq p R * (Flash p s9 * (Md gm q R * (RFlash q s9 * all w))) by ac_rfl] at h8
              exact h8)
            clear h8 hs8 S7b
            have Hf1 := Hfn
            have HR := HRo
            have hdn1 := hdn
            have hw1 : 34 ≤ s9.worn.length := hwn9
            clear Hfn HRo hwn9 hdn hwl
            generalize s9 = s at *
            go_wp2_with fail
            refine (krecord_any kq p R _ _ H8.out HR.out).mono ?_
            rintro e W9 ⟨iv, rfl, ho, hs⟩
            have HoR := hide (rc_one (s := R) (iv := iv) (own_slice ho))
            have HsR := hide (rc_info R iv)
            have h1 := (on_all_to ho H8.out).alloc (.cells (recCells zeroS nilV) 35)
            have gA := hide (on_blk_mul h1)
            have H9 := hide (h1.setRow (recCells R iv))
            have S9 := hide (((S8.out.trans hs).alloc (.cells (recCells zeroS nilV) 35)).setRow W9.heap.size (recCells R iv))
            have hstop : ∀ p : Prop, Hid p → p := fun _ h => h.out
            clear ho hs h1 H8 S8
            go_wp2_with (first | (refine wpList_store_row rfl _ _ _ rfl W9.heap.size (recCells R iv) rfl rfl _ _ gA.out HsR.out rfl HoR.out ?_; refine hstop _ ?_))
            refine hide ?_
            clear hstop gA
            generalize (W9.alloc (.cells (recCells zeroS nilV) 35)).setRow W9.heap.size (recCells R iv) = W10 at *
            generalize W9.heap.size = g18 at *
            have GX := hide (on_blk_mul H9.out)
            have HIX := hide (own_bytes H9.out.right)
            have h10 := H9.out.right.right
            have h11 := h10
            rw [sp_ta1] at h11
            obtain ⟨ivm, h12⟩ := Md.open h11
            have GM := hide (on_blk_mul h12)
            have HIM := hide (own_bytes h12.right)
            obtain ⟨xa, xc, rfl, _, _, _, _⟩ := HIX.out
            obtain ⟨ma, mc, rfl, _, _, _, _⟩ := HIM.out
            have H10 := hide h10
            clear h10 h11 h12 H9 HoR HsR
            go_wp2_with fail
            refine wp_region_vs [isV (.pointer (some ⟨g18, 0, Option.none⟩)), isV (u32v R.seq), isV (.pointer (some ⟨g18, 1, Option.none⟩)), isV (u32v R.floor), isV (.pointer (some ⟨g18, 2, Option.none⟩)), isV (u32v R.bytes), isV (.pointer (some ⟨g18, 3, Option.none⟩)), isV (u32v R.sum), isV (.pointer (some ⟨g18, 5, Option.none⟩)), isV (u32v R.done), isV (.pointer (some ⟨g18, 4, Option.none⟩)), isV (vb R.phase), isV (.pointer (some ⟨g18, 6, Option.none⟩)), isV (.slice xa R.init.length xc), isV (.agg (refCells R (.slice xa R.init.length xc))), isV (.pointer (some ⟨gm, 0, Option.none⟩)), isV (.pointer (some ⟨gm, 0, Option.none⟩)), isV (.pointer (some ⟨gm, 1, Option.none⟩)), isV (.agg (refCells R (.slice ma R.init.length mc))), isV (.bool true), isV (.bool false)]
              (by kernel_rfl) (by kernel_rfl) rfl ?keep ?todo ?rest
            case keep => exact ⟨Keep.isV _, Keep.isV _, Keep.isV _, Keep.isV _, Keep.isV _, Keep.isV _, Keep.isV _, Keep.isV _, Keep.isV _, Keep.isV _, Keep.isV _, Keep.isV _, Keep.isV _, Keep.isV _, Keep.isV _, Keep.isV _, Keep.isV _, Keep.isV _, Keep.isV _, Keep.isV _, Keep.isV _, trivial⟩
            case todo =>
              refine ⟨?_, ?_, ?_, ?_, ?_, ?_, ?_, ?_, ?_, ?_, ?_, ?_, ?_, ?_, ?_, ?_, ?_, ?_, ?_, ?_, ?_, trivial⟩
              · intro ev X hT hb hk hf
                have e0 : ev (.tmp 18) = .pointer (some ⟨g18, 0, Option.none⟩) := hk.1
                exact OpOk.run (v := .pointer (some ⟨g18, 0, Option.none⟩)) (W' := X) (by simp [execOp, e0, hur, go_sem]) ⟨rfl, Stay.refl _⟩
              · intro ev X hT hb hk hf
                have e0 : ev (.tmp 142) = .pointer (some ⟨g18, 0, Option.none⟩) := hf.1
                have cW : X.cell? ⟨g18, 0, Option.none⟩ = some (u32v R.seq) := cell_of_row X g18 0 _ _ _ ((hT.block _ (Array.getElem?_eq_some_iff.1 GX.out).1).trans GX.out)
                exact OpOk.run (v := u32v R.seq) (W' := X) (by simp [execOp, e0, cW, go_sem]) ⟨rfl, Stay.refl _⟩
              · intro ev X hT hb hk hf
                have e0 : ev (.tmp 18) = .pointer (some ⟨g18, 0, Option.none⟩) := hk.1
                exact OpOk.run (v := .pointer (some ⟨g18, 1, Option.none⟩)) (W' := X) (by simp [execOp, e0, hur, go_sem]) ⟨rfl, Stay.refl _⟩
              · intro ev X hT hb hk hf
                have e0 : ev (.tmp 144) = .pointer (some ⟨g18, 1, Option.none⟩) := hf.1
                have cW : X.cell? ⟨g18, 1, Option.none⟩ = some (u32v R.floor) := cell_of_row X g18 1 _ _ _ ((hT.block _ (Array.getElem?_eq_some_iff.1 GX.out).1).trans GX.out)
                exact OpOk.run (v := u32v R.floor) (W' := X) (by simp [execOp, e0, cW, go_sem]) ⟨rfl, Stay.refl _⟩
              · intro ev X hT hb hk hf
                have e0 : ev (.tmp 18) = .pointer (some ⟨g18, 0, Option.none⟩) := hk.1
                exact OpOk.run (v := .pointer (some ⟨g18, 2, Option.none⟩)) (W' := X) (by simp [execOp, e0, hur, go_sem]) ⟨rfl, Stay.refl _⟩
              · intro ev X hT hb hk hf
                have e0 : ev (.tmp 146) = .pointer (some ⟨g18, 2, Option.none⟩) := hf.1
                have cW : X.cell? ⟨g18, 2, Option.none⟩ = some (u32v R.bytes) := cell_of_row X g18 2 _ _ _ ((hT.block _ (Array.getElem?_eq_some_iff.1 GX.out).1).trans GX.out)
                exact OpOk.run (v := u32v R.bytes) (W' := X) (by simp [execOp, e0, cW, go_sem]) ⟨rfl, Stay.refl _⟩
              · intro ev X hT hb hk hf
                have e0 : ev (.tmp 18) = .pointer (some ⟨g18, 0, Option.none⟩) := hk.1
                exact OpOk.run (v := .pointer (some ⟨g18, 3, Option.none⟩)) (W' := X) (by simp [execOp, e0, hur, go_sem]) ⟨rfl, Stay.refl _⟩
              · intro ev X hT hb hk hf
                have e0 : ev (.tmp 148) = .pointer (some ⟨g18, 3, Option.none⟩) := hf.1
                have cW : X.cell? ⟨g18, 3, Option.none⟩ = some (u32v R.sum) := cell_of_row X g18 3 _ _ _ ((hT.block _ (Array.getElem?_eq_some_iff.1 GX.out).1).trans GX.out)
                exact OpOk.run (v := u32v R.sum) (W' := X) (by simp [execOp, e0, cW, go_sem]) ⟨rfl, Stay.refl _⟩
              · intro ev X hT hb hk hf
                have e0 : ev (.tmp 18) = .pointer (some ⟨g18, 0, Option.none⟩) := hk.1
                exact OpOk.run (v := .pointer (some ⟨g18, 5, Option.none⟩)) (W' := X) (by simp [execOp, e0, hur, go_sem]) ⟨rfl, Stay.refl _⟩
              · intro ev X hT hb hk hf
                have e0 : ev (.tmp 150) = .pointer (some ⟨g18, 5, Option.none⟩) := hf.1
                have cW : X.cell? ⟨g18, 5, Option.none⟩ = some (u32v R.done) := cell_of_row X g18 5 _ _ _ ((hT.block _ (Array.getElem?_eq_some_iff.1 GX.out).1).trans GX.out)
                exact OpOk.run (v := u32v R.done) (W' := X) (by simp [execOp, e0, cW, go_sem]) ⟨rfl, Stay.refl _⟩
              · intro ev X hT hb hk hf
                have e0 : ev (.tmp 18) = .pointer (some ⟨g18, 0, Option.none⟩) := hk.1
                exact OpOk.run (v := .pointer (some ⟨g18, 4, Option.none⟩)) (W' := X) (by simp [execOp, e0, hur, go_sem]) ⟨rfl, Stay.refl _⟩
              · intro ev X hT hb hk hf
                have e0 : ev (.tmp 152) = .pointer (some ⟨g18, 4, Option.none⟩) := hf.1
                have cW : X.cell? ⟨g18, 4, Option.none⟩ = some (vb R.phase) := cell_of_row X g18 4 _ _ _ ((hT.block _ (Array.getElem?_eq_some_iff.1 GX.out).1).trans GX.out)
                exact OpOk.run (v := vb R.phase) (W' := X) (by simp [execOp, e0, cW, go_sem]) ⟨rfl, Stay.refl _⟩
              · intro ev X hT hb hk hf
                have e0 : ev (.tmp 18) = .pointer (some ⟨g18, 0, Option.none⟩) := hk.1
                exact OpOk.run (v := .pointer (some ⟨g18, 6, Option.none⟩)) (W' := X) (by simp [execOp, e0, hur, go_sem]) ⟨rfl, Stay.refl _⟩
              · intro ev X hT hb hk hf
                have e0 : ev (.tmp 154) = .pointer (some ⟨g18, 6, Option.none⟩) := hf.1
                have cW : X.cell? ⟨g18, 6, Option.none⟩ = some (.slice xa R.init.length xc) := cell_of_row X g18 6 _ _ _ ((hT.block _ (Array.getElem?_eq_some_iff.1 GX.out).1).trans GX.out)
                exact OpOk.run (v := .slice xa R.init.length xc) (W' := X) (by simp [execOp, e0, cW, go_sem]) ⟨rfl, Stay.refl _⟩
              · intro ev X hT hb hk hf
                have e0 : ev (.tmp 143) = u32v R.seq := hf.1
                have e1 : ev (.tmp 145) = u32v R.floor := hf.2.1
                have e2 : ev (.tmp 147) = u32v R.bytes := hf.2.2.1
                have e3 : ev (.tmp 149) = u32v R.sum := hf.2.2.2.1
                have e4 : ev (.tmp 151) = u32v R.done := hf.2.2.2.2.1
                have e5 : ev (.tmp 153) = vb R.phase := hf.2.2.2.2.2.1
                have e6 : ev (.tmp 155) = .slice xa R.init.length xc := hf.2.2.2.2.2.2.1
                exact OpOk.build_rr _ _ _ _ _ _ _ rfl R xa R.init.length xc e0 e1 e2 e3 e4 e5 e6 ⟨rfl, Stay.refl _⟩
              · intro ev X hT hb hk hf
                have e0 : ev (.tmp 9) = .pointer (some ⟨gm, 0, Option.none⟩) := hk.1
                exact OpOk.move rfl e0 ⟨rfl, Stay.refl _⟩
              · intro ev X hT hb hk hf
                have e0 : ev (.tmp 157) = .pointer (some ⟨gm, 0, Option.none⟩) := hf.1
                exact OpOk.run (v := .pointer (some ⟨gm, 0, Option.none⟩)) (W' := X) (by simp [execOp, e0, hb.1, go_sem]) ⟨rfl, Stay.refl _⟩
              · intro ev X hT hb hk hf
                have e0 : ev (.tmp 158) = .pointer (some ⟨gm, 0, Option.none⟩) := hf.1
                exact OpOk.run (v := .pointer (some ⟨gm, 1, Option.none⟩)) (W' := X) (by simp [execOp, e0, hum, go_sem]) ⟨rfl, Stay.refl _⟩
              · intro ev X hT hb hk hf
                have e0 : ev (.tmp 159) = .pointer (some ⟨gm, 1, Option.none⟩) := hf.1
                have hp9 := md_part q R (.slice ma R.init.length mc) X gm _ ((hT.block _ (Array.getElem?_eq_some_iff.1 GM.out).1).trans GM.out)
                exact OpOk.load_part _ _ rfl gm 1 e0 (refCells R (.slice ma R.init.length mc)) _ hp9 hurr rfl (rr_info _ _) ⟨rfl, Stay.refl _⟩
              · intro ev X hT hb hk hf
                have e0 : ev (.tmp 156) = .agg (refCells R (.slice xa R.init.length xc)) := hf.1
                have e1 : ev (.tmp 160) = .agg (refCells R (.slice ma R.init.length mc)) := hf.2.1
                refine OpOk.enters (f := 31) (args := #[.agg (refCells R (.slice xa R.init.length xc)), .agg (refCells R (.slice ma R.init.length mc))]) (W' := X) (by simp [execOp, resolve, invoke, e0, e1, hb.1, hb.2.1, go_sem]) ((rsame_any R _ _ X (HIX.out.below hT) (HIM.out.below hT)).mono ?_)
                rintro e X2 ⟨rfl, h2⟩
                exact ⟨_, rfl, rfl, h2⟩
              · intro ev X hT hb hk hf
                have e0 : ev (.tmp 161) = .bool true := hf.1
                exact OpOk.run (v := .bool false) (W' := X) (by simp [execOp, e0, hb.1, go_sem]) ⟨rfl, Stay.refl _⟩
            case rest =>
              intro X hT
              rintro _ rfl _ rfl _ rfl _ rfl _ rfl _ rfl _ rfl _ rfl _ rfl _ rfl _ rfl _ rfl _ rfl _ rfl _ rfl _ rfl _ rfl _ rfl _ rfl _ rfl _ rfl
              have H11 := hide (H10.out.below hT)
              have S11 := hide (S9.out.trans (Str.below hT))
              have GM2 := hide ((hT.block _ (Array.getElem?_eq_some_iff.1 GM.out).1).trans GM.out)
              have HIM2 := hide (HIM.out.below hT)
              clear hT H10 S9 GX HIX HIM GM
              go_wp2
              refine Rest.done ?_
              go_wp2_with fail
              refine (kload_any kq p R _ _ H11.out HR.out).mono ?_
              rintro e W12 ⟨v, rfl, ho, hs⟩
              have hall := all_below ho.right hs
              have H12 := hide (H11.out.below hall)
              have S12 := hide (S11.out.trans hs)
              have GM3 := (hall.block _ (Array.getElem?_eq_some_iff.1 GM2.out).1).trans GM2.out
              have c4 : W12.cell? ⟨gm, 5, Option.none⟩ = some (u32v R.done) := cell_of_row _ _ 5 _ _ _ GM3
              have c5 : W12.cell? ⟨gm, 6, Option.none⟩ = some (vb R.phase) := cell_of_row _ _ 6 _ _ _ GM3
              have c6 : W12.cell? ⟨gm, 7, Option.none⟩ = some (.slice ma R.init.length mc) := cell_of_row _ _ 7 _ _ _ GM3
              have HIM3 := HIM2.out.below hall
              have hby := own_bytes ho
              unfold RecS.got at hby ⊢
              by_cases hph : R.phase = 1
              · rw [if_pos hph] at hby ⊢
                obtain ⟨va, vc, rfl, hvc, hvm, hvl, _⟩ := hby
                obtain ⟨ma2, mc2, hme, hmc, hmm, hml, _⟩ := HIM3
                simp only [Value.slice.injEq] at hme
                obtain ⟨rfl, _, rfl⟩ := hme
                have k2 := fun n => run_string_of (P := Try.prog) (w := W12.drewN n) (c := vc) hsu hsb (show Lay (W12.drewN n) va (vbs R.init) from fun i v e => by
                  obtain ⟨b, off, h1, h2⟩ := hvl i v e
                  exact ⟨b, off, h1, by simpa using h2⟩) _ hst
                have k3 := fun n => run_string_of (P := Try.prog) (w := W12.drewN n) (c := mc) hsu hsb (show Lay (W12.drewN n) ma (vbs R.init) from fun i v e => by
                  obtain ⟨b, off, h1, h2⟩ := hml i v e
                  exact ⟨b, off, h1, by simpa using h2⟩) _ hst
                have e1 : (((R.phase.toNat : Nat) : Int) == 1) = true := by rw [hph]; rfl
                have e2 : (((R.phase.toNat : Nat) : Int) != 1) = false := by rw [hph]; rfl
                clear hvl hml ho hs hall GM3 H11 S11 GM2 HIM2 hph
                generalize strOf R.init = sx at k2 k3
                dsimp only
                go_wp2_with fail
                go_quiet (fail)
                go_wp2_with fail
                exact ⟨⟨j + 1, s, R, kq, by omega, rfl, by simp, Hf1.out.mono (by omega), hw1, HR.out, hdn1, SP.on_of_heap (w' := _) H12.out rfl, ⟨S12.out.os, S12.out.tape, S12.out.output, S12.out.size⟩⟩, by simp [intOf]; omega⟩
              · rw [if_neg hph] at hby ⊢
                obtain ⟨va, vc, rfl, hvc, hvm, hvl, _⟩ := hby
                have e1 : (((R.phase.toNat : Nat) : Int) == 1) = false := by
                  have : R.phase.toNat ≠ 1 := fun h => hph (UInt8.toNat_inj.1 h)
                  simp; omega
                have e2 : (((R.phase.toNat : Nat) : Int) != 1) = true := by
                  have : R.phase.toNat ≠ 1 := fun h => hph (UInt8.toNat_inj.1 h)
                  simp; omega
                clear hvl ho hs hall GM3 H11 S11 GM2 HIM2 hph HIM3
                dsimp only
                go_wp2_with fail
                go_quiet (fail)
                go_wp2_with fail
                exact ⟨⟨j + 1, s, R, kq, by omega, rfl, by simp, Hf1.out.mono (by omega), hw1, HR.out, hdn1, SP.on_of_heap (w' := _) H12.out rfl, ⟨S12.out.os, S12.out.tape, S12.out.output, S12.out.size⟩⟩, by simp [intOf]; omega⟩
      · as_aux_lemma =>
          rw [show ((3 : Nat) : Int) = 3 from rfl] at hk4
          have hf1 := power_any p s _ W6 (show (Flash p s * (Kp kq p R * (Md gm q R * (RFlash q s * all w)))).on W6 from by rw [SP.mul_left_comm]; exact H6.out)
          have hQ := fun F' X hX => rpower_any q s F' X hX
          have HF1 := hide hf1
          have HQ := hide hQ
          have Hpk := hide (power_kErr s Hfit.out.ok hwl)
          have Hf1 : Hid (s.power.Fit (j * 4000 + 4000)) := hide (Hfit.out.power.mono (by omega))
          have hdn1 := load_done s.power
          have HR := hide (load_ok s.power)
          clear hf1 hQ
          go_wp2_with fail
          refine HF1.out.mono ?_
          clear HF1 x0 x1 x2 H6f
          rintro e W7 ⟨⟨_, rfl⟩, h7, hs7⟩
          have S7 := hide (S6.out.trans hs7)
          have h7 : (Flash p s.power * (Kp kq p R * (Md gm q R * (RFlash q s * all w)))).on W7 := h7
          have h7b : (Md gm q R * (Flash p s.power * (Kp kq p R * (RFlash q s * all w)))).on W7 := by
            rw [show Md gm q R * (Flash p s.power * (Kp kq p R * (RFlash q s * all w))) = Flash p s.power * (Kp kq p R * (Md gm q R * (RFlash q s * all w))) by ac_rfl]; exact h7
          obtain ⟨ivm, hmd⟩ := Md.open h7b
          have cm : W7.cell? ⟨gm, 0, Option.none⟩ = some (fptr q) := cell_of_row _ _ 0 _ _ _ (on_blk_mul hmd)
          have HP := hide (HQ.out _ W7 (show (RFlash q s * (Flash p s.power * (Kp kq p R * (Md gm q R * all w)))).on W7 from by
            rw [show RFlash q s * (Flash p s.power * (Kp kq p R * (Md gm q R * all w))) = Flash p s.power * (Kp kq p R * (Md gm q R * (RFlash q s * all w))) by ac_rfl]; exact h7))
          clear h7 h7b hmd hs7 H6 S6 HQ
          go_wp2_with fail
          refine HP.out.mono ?_
          clear HP cm
          rintro e W8 ⟨⟨_, rfl⟩, h8, hs8⟩
          have h8 : (RFlash q s.power * (Flash p s.power * (Kp kq p R * (Md gm q R * all w)))).on W8 := h8
          have S8 := hide (S7.out.trans hs8)
          have H8 := hide (show (Flash p s.power * (Md gm q R * (RFlash q s.power * all w))).on W8 from by
            rw [show RFlash q s.power * (Flash p s.power * (Kp kq p R * (Md gm q R * all w))) = Kp kq p R * (Flash p s.power * (Md gm q R * (RFlash q s.power * all w))) by ac_rfl] at h8
            exact h8.right)
          have hw1 : (34 : Nat) ≤ (FlS.power s).worn.length := hwl
          clear h8 hs8 S7 Hfit HRo hdn hwl
          generalize hsp : FlS.power s = sp at *
          clear hsp
          have hw1 := hw1
          generalize sp = s at *
          have hT := tnew_any p s _ W8 H8.out Hf1.out.ok
          go_wp2_with fail
          refine hT.mono ?_
          clear hT
          rintro e W9 (⟨h0, _⟩ | ⟨_, kq9, rfl, h9, hs9⟩)
          · exact absurd Hpk.out.1 h0
          have S9 := hide (S8.out.trans hs9)
          have H9 := hide h9
          have h9b : (Md gm q R * (Kp kq9 p s.load.1 * (Flash p s * (RFlash q s * all w)))).on W9 := by
            rw [show Md gm q R * (Kp kq9 p s.load.1 * (Flash p s * (RFlash q s * all w))) = Kp kq9 p s.load.1 * (Flash p s * (Md gm q R * (RFlash q s * all w))) by ac_rfl]; exact h9
          obtain ⟨ivm, hmd⟩ := Md.open h9b
          have cm : W9.cell? ⟨gm, 0, Option.none⟩ = some (fptr q) := cell_of_row _ _ 0 _ _ _ (on_blk_mul hmd)
          have hL := hide (rload_any q s _ _ (show (RFlash q s * (Kp kq9 p s.load.1 * (Flash p s * (Md gm q R * all w)))).on W9 from by
            rw [show RFlash q s * (Kp kq9 p s.load.1 * (Flash p s * (Md gm q R * all w))) = Kp kq9 p s.load.1 * (Flash p s * (Md gm q R * (RFlash q s * all w))) by ac_rfl]; exact h9) Hf1.out.ok)
          have Hor := hide Hpk.out.2
          clear h9 h9b hmd hs9 S8 H8 Hpk
          go_wp2_with fail
          refine hL.out.mono ?_
          clear hL cm
          rintro e W10 ⟨ivb, rfl, ho, hs⟩
          have h9 := on_all_to ho H9.out
          generalize s.load.1 = R9 at *
          generalize s.load.2.1 = pg at *
          generalize s.load.2.2 = er at *
          have HoB := hide (rr_one (s := R9) (iv := ivb) (own_slice ho))
          have HsB0 := hide (rr_info R9 ivb)
          have h1 := h9.alloc (.cells (refCells zeroS nilV) 60)
          have gB := hide (on_blk_mul h1)
          have H10 := hide (h1.setRow (refCells R9 ivb))
          have S10 := hide (((S9.out.trans hs).alloc (.cells (refCells zeroS nilV) 60)).setRow W10.heap.size (refCells R9 ivb))
          have hslb := own_slice ho
          have hstop : ∀ p : Prop, Hid p → p := fun _ h => h.out
          clear ho hs h1 h9 H9 S9
          go_wp2_with (first | (refine wpList_store_row rfl _ _ _ rfl W10.heap.size (refCells R9 ivb) rfl rfl _ _ gB.out HsB0.out rfl HoB.out ?_; refine hstop _ ?_))
          refine hide ?_
          clear hstop gB
          generalize (W10.alloc (.cells (refCells zeroS nilV) 60)).setRow W10.heap.size (refCells R9 ivb) = W11 at *
          generalize W10.heap.size = g15 at *
          have gR := on_blk_mul H10.out
          have h11 : (Md gm q R * (ownR ivb R9.init * (Kp kq9 p R9 * (Flash p s * (RFlash q s * all w))))).on W11 := by
            have h9 := H10.out.right
            rw [show ownR ivb R9.init * (Kp kq9 p R9 * (Flash p s * (Md gm q R * (RFlash q s * all w)))) = Md gm q R * (ownR ivb R9.init * (Kp kq9 p R9 * (Flash p s * (RFlash q s * all w)))) by ac_rfl] at h9
            exact h9
          obtain ⟨ivm, hmd⟩ := Md.open h11
          have Hq := hide hmd
          have HiR3 : Hid ((Try.prog.info? 60).map (·.size) = some (refCells R9 ivb).toList.length) := hide (rr_info R9 ivb)
          have HoR3 : Hid (∀ v ∈ (refCells R9 ivb).toList, v.oneCell' = true) := hide (fun v hv => by
            exact (Array.all_eq_true_iff_forall_mem.1 HoB.out) v (by simpa using hv))
          have HnK : Hid ((mdCells q R ivm).toList.take 1 ++ (refCells R9 ivb).toList ++ (mdCells q R ivm).toList.drop (1 + (refCells R9 ivb).toList.length) = (mdCells q R9 ivb).toList) := hide rfl
          obtain ⟨bva, bvn, bvc, rfl⟩ := hslb
          clear h11 hmd H10 HoB
          rcases Hor.out with rfl | rfl
          all_goals
            first | rw [show ((0 : Nat) : Int) = 0 from rfl] | rw [show ((15 : Nat) : Int) = 15 from rfl]
            go_wp2_with (first
              | (refine wpList_load_row rfl _ _ rfl g15 rfl _ (refCells R9 (.slice bva bvn bvc)) _ _ gR hurr rfl HsB0.out ?_)
              | (refine wpList_store_part rfl _ _ _ rfl gm 1 (refCells R9 (.slice bva bvn bvc)).toList rfl rfl _ (mdCells q R ivm) Hq.out HiR3.out (by show 1 + 7 ≤ 8; decide) HoR3.out (mdCells q R9 (.slice bva bvn bvc)) HnK.out ?_; intro Y hY hsY; have HY := hide hY; have SY := hide (S10.out.trans hsY); clear hY hsY gR))
            have H8 : Hid ((Kp kq9 p R9 * (Flash p s * (Md gm q R9 * (RFlash q s * all w)))).on Y) := hide (by
              have h9 := HY.out
              rw [show blk gm (.cells (mdCells q R9 (.slice bva bvn bvc)) 62 (0, 0)) * (ownR ivm R.init * (ownR (.slice bva bvn bvc) R9.init * (Kp kq9 p R9 * (Flash p s * (RFlash q s * all w))))) = ownR ivm R.init * (blk gm (.cells (mdCells q R9 (.slice bva bvn bvc)) 62 (0, 0)) * (ownR (.slice bva bvn bvc) R9.init * (Kp kq9 p R9 * (Flash p s * (RFlash q s * all w))))) by ac_rfl] at h9
              have h10 := Md.shut h9.right
              rw [show Md gm q R9 * (Kp kq9 p R9 * (Flash p s * (RFlash q s * all w))) = Kp kq9 p R9 * (Flash p s * (Md gm q R9 * (RFlash q s * all w))) by ac_rfl] at h10
              exact h10)
            have S8 := hide SY.out
            clear HY SY Hq HiR3 HoR3 HnK HsB0 S10
            generalize kq9 = kq at *
            generalize R9 = R at *
            go_wp2_with fail
            refine (krecord_any kq p R _ _ H8.out HR.out).mono ?_
            rintro e W9 ⟨iv, rfl, ho, hs⟩
            have HoR := hide (rc_one (s := R) (iv := iv) (own_slice ho))
            have HsR := hide (rc_info R iv)
            have h1 := (on_all_to ho H8.out).alloc (.cells (recCells zeroS nilV) 35)
            have gA := hide (on_blk_mul h1)
            have H9 := hide (h1.setRow (recCells R iv))
            have S9 := hide (((S8.out.trans hs).alloc (.cells (recCells zeroS nilV) 35)).setRow W9.heap.size (recCells R iv))
            have hstop : ∀ p : Prop, Hid p → p := fun _ h => h.out
            clear ho hs h1 H8 S8
            go_wp2_with (first | (refine wpList_store_row rfl _ _ _ rfl W9.heap.size (recCells R iv) rfl rfl _ _ gA.out HsR.out rfl HoR.out ?_; refine hstop _ ?_))
            refine hide ?_
            clear hstop gA
            generalize (W9.alloc (.cells (recCells zeroS nilV) 35)).setRow W9.heap.size (recCells R iv) = W10 at *
            generalize W9.heap.size = g18 at *
            have GX := hide (on_blk_mul H9.out)
            have HIX := hide (own_bytes H9.out.right)
            have h10 := H9.out.right.right
            have h11 := h10
            rw [sp_ta1] at h11
            obtain ⟨ivm, h12⟩ := Md.open h11
            have GM := hide (on_blk_mul h12)
            have HIM := hide (own_bytes h12.right)
            obtain ⟨xa, xc, rfl, _, _, _, _⟩ := HIX.out
            obtain ⟨ma, mc, rfl, _, _, _, _⟩ := HIM.out
            have H10 := hide h10
            clear h10 h11 h12 H9 HoR HsR
            go_wp2_with fail
            refine wp_region_vs [isV (.pointer (some ⟨g18, 0, Option.none⟩)), isV (u32v R.seq), isV (.pointer (some ⟨g18, 1, Option.none⟩)), isV (u32v R.floor), isV (.pointer (some ⟨g18, 2, Option.none⟩)), isV (u32v R.bytes), isV (.pointer (some ⟨g18, 3, Option.none⟩)), isV (u32v R.sum), isV (.pointer (some ⟨g18, 5, Option.none⟩)), isV (u32v R.done), isV (.pointer (some ⟨g18, 4, Option.none⟩)), isV (vb R.phase), isV (.pointer (some ⟨g18, 6, Option.none⟩)), isV (.slice xa R.init.length xc), isV (.agg (refCells R (.slice xa R.init.length xc))), isV (.pointer (some ⟨gm, 0, Option.none⟩)), isV (.pointer (some ⟨gm, 0, Option.none⟩)), isV (.pointer (some ⟨gm, 1, Option.none⟩)), isV (.agg (refCells R (.slice ma R.init.length mc))), isV (.bool true), isV (.bool false)]
              (by kernel_rfl) (by kernel_rfl) rfl ?keep ?todo ?rest
            case keep => exact ⟨Keep.isV _, Keep.isV _, Keep.isV _, Keep.isV _, Keep.isV _, Keep.isV _, Keep.isV _, Keep.isV _, Keep.isV _, Keep.isV _, Keep.isV _, Keep.isV _, Keep.isV _, Keep.isV _, Keep.isV _, Keep.isV _, Keep.isV _, Keep.isV _, Keep.isV _, Keep.isV _, Keep.isV _, trivial⟩
            case todo =>
              refine ⟨?_, ?_, ?_, ?_, ?_, ?_, ?_, ?_, ?_, ?_, ?_, ?_, ?_, ?_, ?_, ?_, ?_, ?_, ?_, ?_, ?_, trivial⟩
              · intro ev X hT hb hk hf
                have e0 : ev (.tmp 18) = .pointer (some ⟨g18, 0, Option.none⟩) := hk.1
                exact OpOk.run (v := .pointer (some ⟨g18, 0, Option.none⟩)) (W' := X) (by simp [execOp, e0, hur, go_sem]) ⟨rfl, Stay.refl _⟩
              · intro ev X hT hb hk hf
                have e0 : ev (.tmp 142) = .pointer (some ⟨g18, 0, Option.none⟩) := hf.1
                have cW : X.cell? ⟨g18, 0, Option.none⟩ = some (u32v R.seq) := cell_of_row X g18 0 _ _ _ ((hT.block _ (Array.getElem?_eq_some_iff.1 GX.out).1).trans GX.out)
                exact OpOk.run (v := u32v R.seq) (W' := X) (by simp [execOp, e0, cW, go_sem]) ⟨rfl, Stay.refl _⟩
              · intro ev X hT hb hk hf
                have e0 : ev (.tmp 18) = .pointer (some ⟨g18, 0, Option.none⟩) := hk.1
                exact OpOk.run (v := .pointer (some ⟨g18, 1, Option.none⟩)) (W' := X) (by simp [execOp, e0, hur, go_sem]) ⟨rfl, Stay.refl _⟩
              · intro ev X hT hb hk hf
                have e0 : ev (.tmp 144) = .pointer (some ⟨g18, 1, Option.none⟩) := hf.1
                have cW : X.cell? ⟨g18, 1, Option.none⟩ = some (u32v R.floor) := cell_of_row X g18 1 _ _ _ ((hT.block _ (Array.getElem?_eq_some_iff.1 GX.out).1).trans GX.out)
                exact OpOk.run (v := u32v R.floor) (W' := X) (by simp [execOp, e0, cW, go_sem]) ⟨rfl, Stay.refl _⟩
              · intro ev X hT hb hk hf
                have e0 : ev (.tmp 18) = .pointer (some ⟨g18, 0, Option.none⟩) := hk.1
                exact OpOk.run (v := .pointer (some ⟨g18, 2, Option.none⟩)) (W' := X) (by simp [execOp, e0, hur, go_sem]) ⟨rfl, Stay.refl _⟩
              · intro ev X hT hb hk hf
                have e0 : ev (.tmp 146) = .pointer (some ⟨g18, 2, Option.none⟩) := hf.1
                have cW : X.cell? ⟨g18, 2, Option.none⟩ = some (u32v R.bytes) := cell_of_row X g18 2 _ _ _ ((hT.block _ (Array.getElem?_eq_some_iff.1 GX.out).1).trans GX.out)
                exact OpOk.run (v := u32v R.bytes) (W' := X) (by simp [execOp, e0, cW, go_sem]) ⟨rfl, Stay.refl _⟩
              · intro ev X hT hb hk hf
                have e0 : ev (.tmp 18) = .pointer (some ⟨g18, 0, Option.none⟩) := hk.1
                exact OpOk.run (v := .pointer (some ⟨g18, 3, Option.none⟩)) (W' := X) (by simp [execOp, e0, hur, go_sem]) ⟨rfl, Stay.refl _⟩
              · intro ev X hT hb hk hf
                have e0 : ev (.tmp 148) = .pointer (some ⟨g18, 3, Option.none⟩) := hf.1
                have cW : X.cell? ⟨g18, 3, Option.none⟩ = some (u32v R.sum) := cell_of_row X g18 3 _ _ _ ((hT.block _ (Array.getElem?_eq_some_iff.1 GX.out).1).trans GX.out)
                exact OpOk.run (v := u32v R.sum) (W' := X) (by simp [execOp, e0, cW, go_sem]) ⟨rfl, Stay.refl _⟩
              · intro ev X hT hb hk hf
                have e0 : ev (.tmp 18) = .pointer (some ⟨g18, 0, Option.none⟩) := hk.1
                exact OpOk.run (v := .pointer (some ⟨g18, 5, Option.none⟩)) (W' := X) (by simp [execOp, e0, hur, go_sem]) ⟨rfl, Stay.refl _⟩
              · intro ev X hT hb hk hf
                have e0 : ev (.tmp 150) = .pointer (some ⟨g18, 5, Option.none⟩) := hf.1
                have cW : X.cell? ⟨g18, 5, Option.none⟩ = some (u32v R.done) := cell_of_row X g18 5 _ _ _ ((hT.block _ (Array.getElem?_eq_some_iff.1 GX.out).1).trans GX.out)
                exact OpOk.run (v := u32v R.done) (W' := X) (by simp [execOp, e0, cW, go_sem]) ⟨rfl, Stay.refl _⟩
              · intro ev X hT hb hk hf
                have e0 : ev (.tmp 18) = .pointer (some ⟨g18, 0, Option.none⟩) := hk.1
                exact OpOk.run (v := .pointer (some ⟨g18, 4, Option.none⟩)) (W' := X) (by simp [execOp, e0, hur, go_sem]) ⟨rfl, Stay.refl _⟩
              · intro ev X hT hb hk hf
                have e0 : ev (.tmp 152) = .pointer (some ⟨g18, 4, Option.none⟩) := hf.1
                have cW : X.cell? ⟨g18, 4, Option.none⟩ = some (vb R.phase) := cell_of_row X g18 4 _ _ _ ((hT.block _ (Array.getElem?_eq_some_iff.1 GX.out).1).trans GX.out)
                exact OpOk.run (v := vb R.phase) (W' := X) (by simp [execOp, e0, cW, go_sem]) ⟨rfl, Stay.refl _⟩
              · intro ev X hT hb hk hf
                have e0 : ev (.tmp 18) = .pointer (some ⟨g18, 0, Option.none⟩) := hk.1
                exact OpOk.run (v := .pointer (some ⟨g18, 6, Option.none⟩)) (W' := X) (by simp [execOp, e0, hur, go_sem]) ⟨rfl, Stay.refl _⟩
              · intro ev X hT hb hk hf
                have e0 : ev (.tmp 154) = .pointer (some ⟨g18, 6, Option.none⟩) := hf.1
                have cW : X.cell? ⟨g18, 6, Option.none⟩ = some (.slice xa R.init.length xc) := cell_of_row X g18 6 _ _ _ ((hT.block _ (Array.getElem?_eq_some_iff.1 GX.out).1).trans GX.out)
                exact OpOk.run (v := .slice xa R.init.length xc) (W' := X) (by simp [execOp, e0, cW, go_sem]) ⟨rfl, Stay.refl _⟩
              · intro ev X hT hb hk hf
                have e0 : ev (.tmp 143) = u32v R.seq := hf.1
                have e1 : ev (.tmp 145) = u32v R.floor := hf.2.1
                have e2 : ev (.tmp 147) = u32v R.bytes := hf.2.2.1
                have e3 : ev (.tmp 149) = u32v R.sum := hf.2.2.2.1
                have e4 : ev (.tmp 151) = u32v R.done := hf.2.2.2.2.1
                have e5 : ev (.tmp 153) = vb R.phase := hf.2.2.2.2.2.1
                have e6 : ev (.tmp 155) = .slice xa R.init.length xc := hf.2.2.2.2.2.2.1
                exact OpOk.build_rr _ _ _ _ _ _ _ rfl R xa R.init.length xc e0 e1 e2 e3 e4 e5 e6 ⟨rfl, Stay.refl _⟩
              · intro ev X hT hb hk hf
                have e0 : ev (.tmp 9) = .pointer (some ⟨gm, 0, Option.none⟩) := hk.1
                exact OpOk.move rfl e0 ⟨rfl, Stay.refl _⟩
              · intro ev X hT hb hk hf
                have e0 : ev (.tmp 157) = .pointer (some ⟨gm, 0, Option.none⟩) := hf.1
                exact OpOk.run (v := .pointer (some ⟨gm, 0, Option.none⟩)) (W' := X) (by simp [execOp, e0, hb.1, go_sem]) ⟨rfl, Stay.refl _⟩
              · intro ev X hT hb hk hf
                have e0 : ev (.tmp 158) = .pointer (some ⟨gm, 0, Option.none⟩) := hf.1
                exact OpOk.run (v := .pointer (some ⟨gm, 1, Option.none⟩)) (W' := X) (by simp [execOp, e0, hum, go_sem]) ⟨rfl, Stay.refl _⟩
              · intro ev X hT hb hk hf
                have e0 : ev (.tmp 159) = .pointer (some ⟨gm, 1, Option.none⟩) := hf.1
                have hp9 := md_part q R (.slice ma R.init.length mc) X gm _ ((hT.block _ (Array.getElem?_eq_some_iff.1 GM.out).1).trans GM.out)
                exact OpOk.load_part _ _ rfl gm 1 e0 (refCells R (.slice ma R.init.length mc)) _ hp9 hurr rfl (rr_info _ _) ⟨rfl, Stay.refl _⟩
              · intro ev X hT hb hk hf
                have e0 : ev (.tmp 156) = .agg (refCells R (.slice xa R.init.length xc)) := hf.1
                have e1 : ev (.tmp 160) = .agg (refCells R (.slice ma R.init.length mc)) := hf.2.1
                refine OpOk.enters (f := 31) (args := #[.agg (refCells R (.slice xa R.init.length xc)), .agg (refCells R (.slice ma R.init.length mc))]) (W' := X) (by simp [execOp, resolve, invoke, e0, e1, hb.1, hb.2.1, go_sem]) ((rsame_any R _ _ X (HIX.out.below hT) (HIM.out.below hT)).mono ?_)
                rintro e X2 ⟨rfl, h2⟩
                exact ⟨_, rfl, rfl, h2⟩
              · intro ev X hT hb hk hf
                have e0 : ev (.tmp 161) = .bool true := hf.1
                exact OpOk.run (v := .bool false) (W' := X) (by simp [execOp, e0, hb.1, go_sem]) ⟨rfl, Stay.refl _⟩
            case rest =>
              intro X hT
              rintro _ rfl _ rfl _ rfl _ rfl _ rfl _ rfl _ rfl _ rfl _ rfl _ rfl _ rfl _ rfl _ rfl _ rfl _ rfl _ rfl _ rfl _ rfl _ rfl _ rfl _ rfl
              have H11 := hide (H10.out.below hT)
              have S11 := hide (S9.out.trans (Str.below hT))
              have GM2 := hide ((hT.block _ (Array.getElem?_eq_some_iff.1 GM.out).1).trans GM.out)
              have HIM2 := hide (HIM.out.below hT)
              clear hT H10 S9 GX HIX HIM GM
              go_wp2
              refine Rest.done ?_
              go_wp2_with fail
              refine (kload_any kq p R _ _ H11.out HR.out).mono ?_
              rintro e W12 ⟨v, rfl, ho, hs⟩
              have hall := all_below ho.right hs
              have H12 := hide (H11.out.below hall)
              have S12 := hide (S11.out.trans hs)
              have GM3 := (hall.block _ (Array.getElem?_eq_some_iff.1 GM2.out).1).trans GM2.out
              have c4 : W12.cell? ⟨gm, 5, Option.none⟩ = some (u32v R.done) := cell_of_row _ _ 5 _ _ _ GM3
              have c5 : W12.cell? ⟨gm, 6, Option.none⟩ = some (vb R.phase) := cell_of_row _ _ 6 _ _ _ GM3
              have c6 : W12.cell? ⟨gm, 7, Option.none⟩ = some (.slice ma R.init.length mc) := cell_of_row _ _ 7 _ _ _ GM3
              have HIM3 := HIM2.out.below hall
              have hby := own_bytes ho
              unfold RecS.got at hby ⊢
              by_cases hph : R.phase = 1
              · rw [if_pos hph] at hby ⊢
                obtain ⟨va, vc, rfl, hvc, hvm, hvl, _⟩ := hby
                obtain ⟨ma2, mc2, hme, hmc, hmm, hml, _⟩ := HIM3
                simp only [Value.slice.injEq] at hme
                obtain ⟨rfl, _, rfl⟩ := hme
                have k2 := fun n => run_string_of (P := Try.prog) (w := W12.drewN n) (c := vc) hsu hsb (show Lay (W12.drewN n) va (vbs R.init) from fun i v e => by
                  obtain ⟨b, off, h1, h2⟩ := hvl i v e
                  exact ⟨b, off, h1, by simpa using h2⟩) _ hst
                have k3 := fun n => run_string_of (P := Try.prog) (w := W12.drewN n) (c := mc) hsu hsb (show Lay (W12.drewN n) ma (vbs R.init) from fun i v e => by
                  obtain ⟨b, off, h1, h2⟩ := hml i v e
                  exact ⟨b, off, h1, by simpa using h2⟩) _ hst
                have e1 : (((R.phase.toNat : Nat) : Int) == 1) = true := by rw [hph]; rfl
                have e2 : (((R.phase.toNat : Nat) : Int) != 1) = false := by rw [hph]; rfl
                clear hvl hml ho hs hall GM3 H11 S11 GM2 HIM2 hph
                generalize strOf R.init = sx at k2 k3
                dsimp only
                go_wp2_with fail
                go_quiet (fail)
                go_wp2_with fail
                exact ⟨⟨j + 1, s, R, kq, by omega, rfl, by simp, Hf1.out.mono (by omega), hw1, HR.out, hdn1, SP.on_of_heap (w' := _) H12.out rfl, ⟨S12.out.os, S12.out.tape, S12.out.output, S12.out.size⟩⟩, by simp [intOf]; omega⟩
              · rw [if_neg hph] at hby ⊢
                obtain ⟨va, vc, rfl, hvc, hvm, hvl, _⟩ := hby
                have e1 : (((R.phase.toNat : Nat) : Int) == 1) = false := by
                  have : R.phase.toNat ≠ 1 := fun h => hph (UInt8.toNat_inj.1 h)
                  simp; omega
                have e2 : (((R.phase.toNat : Nat) : Int) != 1) = true := by
                  have : R.phase.toNat ≠ 1 := fun h => hph (UInt8.toNat_inj.1 h)
                  simp; omega
                clear hvl ho hs hall GM3 H11 S11 GM2 HIM2 hph HIM3
                dsimp only
                go_wp2_with fail
                go_quiet (fail)
                go_wp2_with fail
                exact ⟨⟨j + 1, s, R, kq, by omega, rfl, by simp, Hf1.out.mono (by omega), hw1, HR.out, hdn1, SP.on_of_heap (w' := _) H12.out rfl, ⟨S12.out.os, S12.out.tape, S12.out.output, S12.out.size⟩⟩, by simp [intOf]; omega⟩
    · have hjb : j = L.length := by omega
      subst hjb
      have H6 := hide hw
      have S6 := hide hstr
      have hw2 : (Flash p s * (Kp kq p R * (Md gm q R * (RFlash q s * all w)))).on wr := by rw [SP.mul_left_comm]; exact hw
      have HP := hide (power_any p s _ wr hw2)
      have Hfit := hide hfit
      clear hw hstr hfit hw2
      go_wp2_with fail
      refine HP.out.mono ?_
      clear HP H6
      rintro e W7 ⟨⟨_, rfl⟩, h7, hs7⟩
      replace h7 : (Flash p s.power * (Kp kq p R * (Md gm q R * (RFlash q s * all w)))).on W7 := h7
      have okp := Hfit.out.power.ok
      have hZ := size_any p s.power _ W7 h7 okp
      have hR := flread_any p s.power _ W7 h7 okp rfl 0 s.power.B.length (by omega)
      rw [List.drop_zero, List.take_length] at hR
      have HRd := hide hR
      have H7 := hide h7
      have S7 := hide (S6.out.trans hs7)
      clear h7 hs7 okp hR S6
      have heB : s.power.B = s.B := rfl
      rw [heB] at hZ HRd
      go_wp2_with fail
      refine hZ.mono ?_
      clear hZ
      rintro e W8 ⟨rfl, rfl⟩
      go_wp2_with fail
      refine HRd.out.mono ?_
      clear HRd
      rintro e W9 ⟨v, rfl, ho, hs⟩
      obtain ⟨x, rfl, h3⟩ := readQ.out ho
      have h9 := on_all_to h3 H7.out
      have S9 := hide (S7.out.trans hs)
      rw [show ownBy x s.B * (Flash p s.power * (Kp kq p R * (Md gm q R * (RFlash q s * all w)))) = RFlash q s * (ownBy x s.B * (Md gm q R * (Flash p s.power * (Kp kq p R * all w)))) by ac_rfl] at h9
      obtain ⟨gb, cap, vw, hc1, hc2, h10⟩ := RFlash.parts h9 Hfit.out.ok
      have c0 : W9.cell? ⟨q, 0, Option.none⟩ = some (.slice (some ⟨gb, 0, Option.none⟩) s.B.length cap) := cell_of_row _ _ 0 _ _ _ (on_blk_mul h10)
      obtain ⟨ivm, hmd⟩ := Md.open h9.right.right
      have cm : W9.cell? ⟨gm, 0, Option.none⟩ = some (fptr q) := cell_of_row _ _ 0 _ _ _ (on_blk_mul hmd)
      have hby := own_bytes h10.right
      have hbx := own_bytes h9.right
      obtain ⟨xa, xc, rfl, hxc, hxm, hxl, _⟩ := hbx
      obtain ⟨ya, yc, hye, hyc, hym, hyl, _⟩ := hby
      simp only [Value.slice.injEq] at hye
      obtain ⟨rfl, _, rfl⟩ := hye
      have k2 := fun n => run_string_of (P := Try.prog) (w := W9.drewN n) (c := xc) hsu hsb (show Lay (W9.drewN n) xa (vbs s.B) from fun i v e => by
        obtain ⟨b, off, h1, h2⟩ := hxl i v e
        exact ⟨b, off, h1, by simpa using h2⟩) _ hst
      have k3 := fun n => run_string_of (P := Try.prog) (w := W9.drewN n) (c := cap) hsu hsb (show Lay (W9.drewN n) (some ⟨gb, 0, Option.none⟩) (vbs s.B) from fun i v e => by
        obtain ⟨b, off, h1, h2⟩ := hyl i v e
        exact ⟨b, off, h1, by simpa using h2⟩) _ hst
      have H9 := hide h9
      have S9b := hide S9
      clear hxl hyl h9 h10 ho h3 hs H7 S7 S9 hmd
      generalize strOf s.B = sx at k2 k3
      go_wp2_with fail
      go_quiet (fail)
      go_wp2_with fail
      go_ret
      have HWc := SP.on_of_heap (w' := W9.drewN nq) H9.out rfl
      have HSc : Str w (W9.drewN nq) := ⟨S9b.out.os, S9b.out.tape, S9b.out.output, S9b.out.size⟩
      exact ⟨rfl, all_below HWc.right.right.right.right.right HSc⟩
namespace lawTransferActs
theorem own : ownKnob Try.prog.godebug = Option.none := by kernel_rfl
theorem laidOut : laidOutB Try.prog = true := by kernel_rfl
set_option maxRecDepth 100000 in
theorem lifted (os : Os) (started : os.Started) (H : Type) (enc : TypeId × Value → H) :
    ReturnsInHanded {} Try.checked os 5 .any (Rows.transferActsSpec.pre6 enc Try.prog Try.f5 Rows.transferActsRow.domain false) (Rows.transferActsSpec.post enc Try.prog Try.f5 false true false false) := by
  refine returnsInHanded_of_change_sized (C := Try.checked) own started (by kernel_rfl) Try.func5
    (ChangeSpec.witness6 (enc := enc) (C := Try.checked) false ⟨#[], #[.slice Option.none 0 0], []⟩ 8 (by kernel_rfl) (by kernel_rfl) (by kernel_rfl) (by kernel_rfl)) ?_
  intro W base args ds gs before hval0 hW hcnd hsz _
  have hval : ∀ (j : Nat) t v, Try.f5.params[j]? = some t → args[j]? = some v → Value.okWide Try.prog W .any base t v := hval0
  have hW' := hW
  obtain ⟨p, q, hA0, hV, rfl, hfz, hnd⟩ := hW
  have hA : DataW.TrodAll enc Try.prog W 0 (fun _ => true) true Try.f5.params.toList args.toList ds p := hA0
  rw [Try.params5] at hA hval
  obtain ⟨v0, vs0, d0, ds0, p0, q0, hargs, rfl, rfl, h0, r0⟩ := trodAll_cons hA
  obtain ⟨rfl, rfl, rfl⟩ := trodAll_nil r0
  obtain rfl : args = #[v0] := by cases args; simp_all
  obtain ⟨rfl, rfl⟩ := trodVars_none hV
  have k0 := h0
  have lt0 : ∀ x ∈ p0, x.block < W.heap.size := by obtain ⟨m, hm⟩ := k0; exact DataW.trod_lt m _ _ _ hm
  obtain ⟨l0, b0, g0⟩ := open_each atC (fun y : ActT => y.Good) Try.underlying54 (show Try.prog.cellsOf 64 = 3 by kernel_rfl) (by decide) each_actT (hval 0 54 v0 rfl rfl) h0
  clear hA0 hval0 hsz
  refine (walk_TransferActs W v0 l0 b0 g0).mono fun e W' ⟨he, bel⟩ => ?_
  subst he
  exact ⟨_, rfl, _, _, _, [], _, [], hW', trodAll_mk1 (shut_bool Try.underlying4 _), (trodAll_cons_mk (Below.trod laidOut (by kernel_rfl) (of_decide_eq_true (by kernel_rfl)) k0 bel lt0) trodAll_mk0), rfl, bel.frame _, fun h => by cases h⟩

theorem over : Rows.transferActsRow.holds Try.pinned (OpenSpec.ofChange Rows.transferActsSpec) :=
  OpenClaim.holds_of_wide 5 Try.f5 rfl rfl rfl rfl rfl rfl rfl ⟨rfl, rfl, rfl, rfl, rfl⟩ rfl rfl rfl rfl rfl (by kernel_rfl) Try.func5 (by kernel_rfl)
    (of_decide_eq_true (by kernel_rfl)) (by unfold Func.isWrapper; first | (rw [if_pos (by decide +kernel)]; kernel_rfl) | (rw [if_neg (by decide +kernel)]; exact ⟨rfl, rfl⟩))
    (fun os started H enc _ => lifted os started H enc)

theorem proved : Rows.TransferActsSaid := over
end lawTransferActs
end Go.Proofs.Ytjmgnfpcieofkaa
