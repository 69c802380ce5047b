/- LAID TOGETHER: Dv10, Dv11. -/
import Derived.Test.YtgmpmlneoiagdaaGreatDoorGDvC
import Derived.Test.YtgmpmlneoiagdaaGreatDoorGFlN
/- device: fed with a Ping. -/
namespace Go.Proofs.YtgmpmlneoiagdaaGreatDoor
open Go.ChangeShapes Go.WideShapes Go.ChangeAt Go.RowKit
set_option linter.unusedVariables false
set_option linter.unusedSimpArgs false

set_option maxRecDepth 100000 in
set_option maxHeartbeats 16000000 in
theorem feed_ping (d dp p m q : Nat) (s : FlS) (R : RecS) (F : SP) (w : World) (h : (blk d (.cells (dvV (dptr dp) (fptr p) 1 nilV (.pointer (some ⟨m, 0, Option.none⟩)) 0) 67 (0, 0)) * (Dec dp ⟨[], 70, false, false⟩ * (blk m (.cells (mK q) 127 (0, 0)) * (Kp q p R * (Flash p s * F))))).on w) (hoff : s.off = false) (v : Value) (hrd : ∀ W, F.on W → IsBytes W v [9, 7, 192]) :
    Calls Tryz.prog 12 #[.pointer (some ⟨d, 0, Option.none⟩), v] w fun e w' => ∃ out, e = .returned out ∧ (ownR out [96, 9, 1, 7, 192] * (blk d (.cells (dvV (dptr dp) (fptr p) 1 nilV (.pointer (some ⟨m, 0, Option.none⟩)) 0) 67 (0, 0)) * (Dec dp ⟨[], 70, false, false⟩ * (blk m (.cells (mK q) 127 (0, 0)) * (Kp q p R * (Flash p s * F)))))).on w' ∧ Str w w' := by
  have hud := Tryz.underlying67
  have hu := Tryz.underlying22
  obtain ⟨va, vc, hve, hvc, hvm, hl0, _⟩ := hrd w h.right.right.right.right.right
  obtain ⟨bg, bo, hva, _⟩ := hl0 0 (vb 9) rfl
  subst hva
  subst hve
  have Hrd := hide hrd
  have H := hide h
  have hvc : 3 ≤ vc := hvc
  unfold maxLen at hvm
  clear h hrd hl0
  go_enter Tryz.func12, Tryz.ntmps12
  go_wp2_with fail
  go_loopw [5, 12] (fun ov i wr => ∃ k : Nat, k ≤ 3 ∧ i = .int .i64 k ∧ ((k = 0 ∧ ov = nilV ∧ (blk d (.cells (dvV (dptr dp) (fptr p) 1 nilV (.pointer (some ⟨m, 0, Option.none⟩)) 0) 67 (0, 0)) * (Dec dp ⟨[], 70, false, false⟩ * (blk m (.cells (mK q) 127 (0, 0)) * (Kp q p R * (Flash p s * F))))).on wr) ∨ (k = 1 ∧ ov = nilV ∧ (blk d (.cells (dvV (dptr dp) (fptr p) 1 nilV (.pointer (some ⟨m, 0, Option.none⟩)) 0) 67 (0, 0)) * (Dec dp ⟨[9], 70, false, false⟩ * (blk m (.cells (mK q) 127 (0, 0)) * (Kp q p R * (Flash p s * F))))).on wr) ∨ (k = 2 ∧ ov = nilV ∧ (blk d (.cells (dvV (dptr dp) (fptr p) 1 nilV (.pointer (some ⟨m, 0, Option.none⟩)) 0) 67 (0, 0)) * (Dec dp ⟨[9, 7], 70, false, false⟩ * (blk m (.cells (mK q) 127 (0, 0)) * (Kp q p R * (Flash p s * F))))).on wr) ∨ (k = 3 ∧ (ownR ov [96, 9, 1, 7, 192] * (blk d (.cells (dvV (dptr dp) (fptr p) 1 nilV (.pointer (some ⟨m, 0, Option.none⟩)) 0) 67 (0, 0)) * (Dec dp ⟨[], 70, false, false⟩ * (blk m (.cells (mK q) 127 (0, 0)) * (Kp q p R * (Flash p s * F)))))).on wr)) ∧ Str w wr) (fun _ i _ => 3 - (intOf i).toNat)
  case atStart => exact ⟨0, by omega, rfl, .inl ⟨rfl, rfl, H.out⟩, Str.refl _⟩
  case round =>
    clear H
    obtain ⟨k, hk, rfl, hst, hstr⟩ := hrel
    rcases hst with ⟨rfl, hst⟩ | ⟨rfl, hst⟩ | ⟨rfl, hst⟩ | ⟨rfl, hst⟩
    · rw [show ((0 : Nat) : Int) = 0 from rfl]
      obtain ⟨rfl, hw⟩ := hst
      have hF := hw.right.right.right.right.right
      have ck : wr.cell? ⟨bg, bo + 0, Option.none⟩ = some (vb 9) := by
        obtain ⟨a9, c9, e9, _, _, hl9, _⟩ := Hrd.out wr hF
        simp only [Value.slice.injEq] at e9
        obtain ⟨rfl, -, -⟩ := e9
        exact Lay.cell hl9 0 rfl
      have ck : wr.cell? ⟨bg, bo, Option.none⟩ = some (.int .u8 9) := ck
      have cd0 : wr.cell? ⟨d, 0, Option.none⟩ = some (dptr dp) := by rw [cell_of_row _ _ 0 _ _ _ (on_blk_mul hw)]; exact dvV_get0 _ _ _ _ _ _
      have hN := hide (now_on d p _ _ _ 1 0 s (Dec dp ⟨[], 70, false, false⟩ * (blk m (.cells (mK q) 127 (0, 0)) * (Kp q p R * F))) wr (by
        rw [show ∀ A B C D E F9 : SP, A * (E * (B * (C * (D * F9)))) = A * (B * (C * (D * (E * F9)))) from fun A B C D E F9 => by ac_rfl]
        exact hw) hoff)
      rw [show ((1 : Nat) : Int) = 1 from rfl] at hN
      have hFe := feed_any dp ⟨[], 70, false, false⟩ (blk d (.cells (dvV (dptr dp) (fptr p) 1 nilV (.pointer (some ⟨m, 0, Option.none⟩)) 0) 67 (0, 0)) * (blk m (.cells (mK q) 127 (0, 0)) * (Kp q p R * (Flash p s * F)))) wr (by rw [SP.mul_left_comm]; exact hw) ⟨by decide, by decide⟩ 9
      rw [show ((⟨[], 70, false, false⟩ : DsS).feed 9).1 = [] from rfl, show ((⟨[], 70, false, false⟩ : DsS).feed 9).2.1 = 0 from rfl, show ((⟨[], 70, false, false⟩ : DsS).feed 9).2.2 = ⟨[9], 70, false, false⟩ from rfl] at hFe
      have HFe := hide (show Calls Tryz.prog 27 #[dptr dp, .int .u8 9] wr _ from hFe)
      have S1 := hide hstr
      clear hw hF hFe hstr
      go_wp2_with fail
      refine hN.out.mono ?_
      clear hN
      rintro e _ ⟨rfl, rfl⟩
      go_wp2_with fail
      refine HFe.out.mono ?_
      clear HFe ck cd0
      rintro e w2 ⟨v2, rfl, hq, hs2⟩
      obtain ⟨x, rfl, h2⟩ := feedQ.out hq
      have S2 := hide (S1.out.trans hs2)
      obtain ⟨xa, xc, rfl, _, _, _, _⟩ := own_value h2
      have h3 := h2.right
      rw [SP.mul_left_comm] at h3
      have H3 := hide h3
      clear hq h2 h3 hs2 S1
      go_wp2_with fail
      exact ⟨⟨1, by omega, rfl, .inr (.inl ⟨rfl, rfl, H3.out⟩), S2.out⟩, by simp [intOf]⟩
    · rw [show ((1 : Nat) : Int) = 1 from rfl]
      obtain ⟨rfl, hw⟩ := hst
      have hF := hw.right.right.right.right.right
      have ck : wr.cell? ⟨bg, bo + 1, Option.none⟩ = some (vb 7) := by
        obtain ⟨a9, c9, e9, _, _, hl9, _⟩ := Hrd.out wr hF
        simp only [Value.slice.injEq] at e9
        obtain ⟨rfl, -, -⟩ := e9
        exact Lay.cell hl9 1 rfl
      have ck : wr.cell? ⟨bg, bo + 1, Option.none⟩ = some (.int .u8 7) := ck
      have cd0 : wr.cell? ⟨d, 0, Option.none⟩ = some (dptr dp) := by rw [cell_of_row _ _ 0 _ _ _ (on_blk_mul hw)]; exact dvV_get0 _ _ _ _ _ _
      have hN := hide (now_on d p _ _ _ 1 0 s (Dec dp ⟨[9], 70, false, false⟩ * (blk m (.cells (mK q) 127 (0, 0)) * (Kp q p R * F))) wr (by
        rw [show ∀ A B C D E F9 : SP, A * (E * (B * (C * (D * F9)))) = A * (B * (C * (D * (E * F9)))) from fun A B C D E F9 => by ac_rfl]
        exact hw) hoff)
      rw [show ((1 : Nat) : Int) = 1 from rfl] at hN
      have hFe := feed_any dp ⟨[9], 70, false, false⟩ (blk d (.cells (dvV (dptr dp) (fptr p) 1 nilV (.pointer (some ⟨m, 0, Option.none⟩)) 0) 67 (0, 0)) * (blk m (.cells (mK q) 127 (0, 0)) * (Kp q p R * (Flash p s * F)))) wr (by rw [SP.mul_left_comm]; exact hw) ⟨by decide, by decide⟩ 7
      rw [show ((⟨[9], 70, false, false⟩ : DsS).feed 7).1 = [] from rfl, show ((⟨[9], 70, false, false⟩ : DsS).feed 7).2.1 = 0 from rfl, show ((⟨[9], 70, false, false⟩ : DsS).feed 7).2.2 = ⟨[9, 7], 70, false, false⟩ from rfl] at hFe
      have HFe := hide (show Calls Tryz.prog 27 #[dptr dp, .int .u8 7] wr _ from hFe)
      have S1 := hide hstr
      clear hw hF hFe hstr
      go_wp2_with fail
      refine hN.out.mono ?_
      clear hN
      rintro e _ ⟨rfl, rfl⟩
      go_wp2_with fail
      refine HFe.out.mono ?_
      clear HFe ck cd0
      rintro e w2 ⟨v2, rfl, hq, hs2⟩
      obtain ⟨x, rfl, h2⟩ := feedQ.out hq
      have S2 := hide (S1.out.trans hs2)
      obtain ⟨xa, xc, rfl, _, _, _, _⟩ := own_value h2
      have h3 := h2.right
      rw [SP.mul_left_comm] at h3
      have H3 := hide h3
      clear hq h2 h3 hs2 S1
      go_wp2_with fail
      exact ⟨⟨2, by omega, rfl, .inr (.inr (.inl ⟨rfl, rfl, H3.out⟩)), S2.out⟩, by simp [intOf]⟩
    · rw [show ((2 : Nat) : Int) = 2 from rfl]
      obtain ⟨rfl, hw⟩ := hst
      have hF := hw.right.right.right.right.right
      have ck : wr.cell? ⟨bg, bo + 2, Option.none⟩ = some (vb 192) := by
        obtain ⟨a9, c9, e9, _, _, hl9, _⟩ := Hrd.out wr hF
        simp only [Value.slice.injEq] at e9
        obtain ⟨rfl, -, -⟩ := e9
        exact Lay.cell hl9 2 rfl
      have ck : wr.cell? ⟨bg, bo + 2, Option.none⟩ = some (.int .u8 192) := ck
      have cd0 : wr.cell? ⟨d, 0, Option.none⟩ = some (dptr dp) := by rw [cell_of_row _ _ 0 _ _ _ (on_blk_mul hw)]; exact dvV_get0 _ _ _ _ _ _
      have hN := hide (now_on d p _ _ _ 1 0 s (Dec dp ⟨[9, 7], 70, false, false⟩ * (blk m (.cells (mK q) 127 (0, 0)) * (Kp q p R * F))) wr (by
        rw [show ∀ A B C D E F9 : SP, A * (E * (B * (C * (D * F9)))) = A * (B * (C * (D * (E * F9)))) from fun A B C D E F9 => by ac_rfl]
        exact hw) hoff)
      rw [show ((1 : Nat) : Int) = 1 from rfl] at hN
      have hFe := feed_any dp ⟨[9, 7], 70, false, false⟩ (blk d (.cells (dvV (dptr dp) (fptr p) 1 nilV (.pointer (some ⟨m, 0, Option.none⟩)) 0) 67 (0, 0)) * (blk m (.cells (mK q) 127 (0, 0)) * (Kp q p R * (Flash p s * F)))) wr (by rw [SP.mul_left_comm]; exact hw) ⟨by decide, by decide⟩ 192
      rw [show ((⟨[9, 7], 70, false, false⟩ : DsS).feed 192).1 = [9, 7] from rfl, show ((⟨[9, 7], 70, false, false⟩ : DsS).feed 192).2.1 = 0 from rfl, show ((⟨[9, 7], 70, false, false⟩ : DsS).feed 192).2.2 = ⟨[], 70, false, false⟩ from rfl] at hFe
      have HFe := hide (show Calls Tryz.prog 27 #[dptr dp, .int .u8 192] wr _ from hFe)
      have S1 := hide hstr
      clear hw hF hFe hstr
      go_wp2_with fail
      refine hN.out.mono ?_
      clear hN
      rintro e _ ⟨rfl, rfl⟩
      go_wp2_with fail
      refine HFe.out.mono ?_
      clear HFe ck cd0
      rintro e w2 ⟨v2, rfl, hq, hs2⟩
      obtain ⟨x, rfl, h2⟩ := feedQ.out hq
      have S2 := hide (S1.out.trans hs2)
      have hH := hide (hear_ping d dp p m q 0 s (ownR x [9, 7] * (Dec dp ⟨[], 70, false, false⟩ * (Kp q p R * F))) w2 (by
        have h9 : (ownR x [9, 7] * (Dec dp ⟨[], 70, false, false⟩ * (blk d (.cells (dvV (dptr dp) (fptr p) 1 nilV (.pointer (some ⟨m, 0, Option.none⟩)) 0) 67 (0, 0)) * (blk m (.cells (mK q) 127 (0, 0)) * (Kp q p R * (Flash p s * F)))))).on w2 := h2
        rw [show ∀ A B C D E G9 F9 : SP, A * (B * (C * (D * (E * (G9 * F9))))) = C * (G9 * (D * (A * (B * (E * F9))))) from fun A B C D E G9 F9 => by ac_rfl] at h9
        exact h9) hoff x (fun W hW => own_bytes hW))
      obtain ⟨xa, xc, rfl, _, _, _, _⟩ := own_value h2
      clear hq h2 hs2 S1
      go_wp2_with fail
      refine hH.out.mono ?_
      clear hH
      rintro e w3 ⟨out, rfl, ho, hs3⟩
      have S3 := hide (S2.out.trans hs3)
      have hob := own_bytes ho
      have hn := own_nil 5 1 ho
      have Hn := hide hn
      have Hob := hide hob
      obtain ⟨oa, oc, rfl, _, _, _, _⟩ := own_value ho
      clear ho hs3 hn hob S2
      go_wp2_with (at_builtin; refine wpList_append_bytes rfl _ _ 22 rfl 5 hu infoByte _ [] [96, 9, 1, 7, 192] rfl Hn.out _ rfl Hob.out (by decide) ?_; intro v4 w4 ho4 hs4; rw [List.nil_append] at ho4; obtain ⟨oa4, oc4, rfl, _, _, _, _⟩ := own_value ho4; have Ho4 := hide ho4; have Hs4 := hide (S3.out.trans hs4); clear ho4 hs4)
      have H5 : Hid ((ownR (.slice oa4 ([96, 9, 1, 7, 192] : List UInt8).length oc4) [96, 9, 1, 7, 192] * (blk d (.cells (dvV (dptr dp) (fptr p) 1 nilV (.pointer (some ⟨m, 0, Option.none⟩)) 0) 67 (0, 0)) * (Dec dp ⟨[], 70, false, false⟩ * (blk m (.cells (mK q) 127 (0, 0)) * (Kp q p R * (Flash p s * F)))))).on w4) := hide (by
        have h9 := Ho4.out
        rw [show ∀ Z A B C D E G9 F9 H9 : SP, A * (B * (C * (G9 * (D * (Z * (H9 * (E * F9))))))) = (A * (C * (H9 * (D * (E * (G9 * F9)))))) * (B * Z) from fun Z A B C D E G9 F9 H9 => by ac_rfl] at h9
        exact h9.left)
      exact ⟨⟨3, by omega, rfl, .inr (.inr (.inr ⟨rfl, H5.out⟩)), Hs4.out⟩, by simp [intOf]⟩
    · rw [show ((3 : Nat) : Int) = 3 from rfl]
      have H3 := hide hst
      have S3 := hide hstr
      obtain ⟨oa, oc, rfl, _, _, _, _⟩ := own_value hst
      clear hst hstr
      go_wp2_with fail
      go_ret
      exact ⟨_, rfl, H3.out, S3.out⟩
end Go.Proofs.YtgmpmlneoiagdaaGreatDoor

/- device: the chapter's example. -/
namespace Go.Proofs.YtgmpmlneoiagdaaGreatDoor
open Go.ChangeShapes Go.WideShapes Go.ChangeAt Go.RowKit
set_option linter.unusedVariables false
set_option linter.unusedSimpArgs false

theorem recErr_erasedD : recErr (List.replicate 160 255) = 7 := by
  set_option maxRecDepth 100000 in decide +kernel
theorem new_loadD (n : Nat) (h : 2 ≤ n) : (FlS.new n).load = (zeroS, 0, 15) := by
  have hpg : ∀ k, k < 2 → (FlS.new n).pg k = List.replicate 160 255 := fun k hk => by
    unfold FlS.pg FlS.new
    rw [List.drop_replicate, List.take_replicate, show min 160 (n * 256 - 256 * k) = 160 by omega]
  have hl : (FlS.new n).B.length = n * 256 := by simp [FlS.new]
  unfold FlS.load
  rw [if_neg (by omega), if_neg (by simp [FlS.new])]
  show (FlS.new n).best 2 = _
  unfold FlS.best
  rw [hpg 1 (by omega), recErr_erasedD, if_neg (fun h => absurd h.1 (by decide))]
  unfold FlS.best
  rw [hpg 0 (by omega), recErr_erasedD, if_neg (fun h => absurd h.1 (by decide))]
  rfl
theorem calm_new (n : Nat) (h1 : 34 ≤ n) (h2 : n ≤ 64) : (FlS.new n).Calm :=
  ⟨FlS.new_ok n (by omega) h2, rfl, by simp [FlS.new]; omega, by rw [new_loadD n (by omega)]; exact .inr rfl, by rw [new_loadD n (by omega)]; rfl, by rw [new_loadD n (by omega)]; rfl⟩
theorem limC_lit : limC 0 0 = #[.int .u8 0, .int .u8 0, .int .u8 0, .int .u8 0, .int .u8 0, .int .u8 0, .int .u8 0, .int .u8 0, .int .u8 0, .int .u8 0, .int .u8 0, .int .u8 0, .int .u8 0, .int .u8 0, .int .u8 0, .int .u8 0, .int .u8 0, .int .u8 0, .int .u8 0, .int .u8 0, .int .u8 0, .int .u8 0, .int .u8 0, .int .u8 0, .int .u8 0, .int .u8 0, .int .u8 0, .int .u8 0, .int .u8 0, .int .u8 0, .int .u8 0, .int .u8 0, .int .u32 0, .int .u8 0, .int .u32 0, .int .u32 0] := by kernel_rfl
set_option maxRecDepth 100000 in
set_option maxHeartbeats 16000000 in
theorem lives21_any (w : World) (hL : Lens w) : Calls Tryz.prog 5 #[] w fun e w' => e = .returned (.bool true) ∧ Below w.heap.size w w' := by
  have hu8s := Tryz.underlying22
  have hu8 := Tryz.underlying5
  have hstr := Tryz.underlying9
  have HLa : Hid (∀ W, (all w).on W → Lens W) := hide fun W hW i hi => by
    have h9 := hL i hi
    obtain ⟨x, hx, hy⟩ := hW
    have hb := World.block_lt_of_cell? _ _ h9
    rw [← h9]
    unfold World.cell?
    have : W.heap[1]? = w.heap[1]? := by
      have h1 := hy _ hb
      cases hq : w.heap[1]? with
      | none => rw [Array.getElem?_eq_getElem hb] at hq; cases hq
      | some o => exact hx _ _ (h1.trans hq)
    simp only [this]
  have hN := hide (new_any 34 (by decide) (by decide) w)
  have Hcalm := hide (calm_new 34 (by decide) (by decide))
  have Hld := hide (new_loadD 34 (by decide))
  have Hpw := hide (show ({ FlS.new 34 with off := false, armed := false } : FlS) = FlS.new 34 from rfl)
  have Hoff := hide (show (FlS.new 34).off = false from rfl)
  go_enter Tryz.func5, Tryz.ntmps5
  go_wp2_with fail
  refine hN.out.mono ?_
  clear hN
  rintro e w1 ⟨v, rfl, ho, hs1⟩
  obtain ⟨p, rfl, h1⟩ := newQ.out ho
  generalize FlS.new 34 = s at *
  have hD := hide (dnew_calm p s _ w1 h1 Hcalm.out Hpw.out false (fun _ => by rw [Hld.out]) HLa.out)
  have S1 := hide hs1
  clear ho h1 hs1
  have hD := hD.out
  rw [limC_lit] at hD
  go_wp2_with fail
  refine hD.mono ?_
  clear hD
  rintro e w2 ⟨d, dp, m, q, rfl, h2, hs2⟩
  have S2 := hide (S1.out.trans hs2)
  have h3 := h2.alloc (.cells (vbs [9, 7, 192]).toArray 5)
  rw [show ∀ A B C D E F9 G9 : SP, G9 * (A * (B * (C * (D * (E * F9))))) = A * (B * (C * (D * (E * (G9 * F9))))) from fun A B C D E F9 G9 => by ac_rfl] at h3
  have hrd : ∀ W, (blk w2.heap.size (.cells (vbs [9, 7, 192]).toArray 5 (0, 0)) * all w).on W → IsBytes W (.slice (some ⟨w2.heap.size, 0, Option.none⟩) 3 3) [9, 7, 192] := fun W hW => IsBytes.blk hW (by decide)
  have hv : (vbs [9, 7, 192]).toArray = #[.int .u8 9, .int .u8 7, .int .u8 192] := by simp [vbs, vb]
  have hF := feed_ping d dp p m q s _ _ _ h3 Hoff.out _ hrd
  rw [hv] at hF
  have HF := hide hF
  have S3 := hide (S2.out.alloc (.cells #[.int .u8 9, .int .u8 7, .int .u8 192] 5))
  clear h2 hs2 h3 hrd hF hv S1 S2
  go_wp2_with fail
  generalize w2.alloc (.cells #[.int .u8 9, .int .u8 7, .int .u8 192] 5) = w3 at *
  refine HF.out.mono ?_
  clear HF
  rintro e w4 ⟨out, rfl, h4, hs4⟩
  have S4 := hide (S3.out.trans hs4)
  have hSt := state_wait d p _ _ _ 0 s _ w4 (by
    have h9 := h4.right
    rw [show ∀ A B C D E F9 : SP, A * (B * (C * (D * (E * F9)))) = A * (E * (B * (C * (D * F9)))) from fun A B C D E F9 => by ac_rfl] at h9
    exact h9) Hoff.out
  have HSt := hide hSt
  obtain ⟨oa, oc, rfl, _, _, hl, _⟩ := own_value h4
  have k1 := run_string_of (P := Tryz.prog) (w := w4) (c := oc) hu8s hu8 hl _ hstr
  simp only [List.length_cons, List.length_nil, Nat.zero_add, Nat.reduceAdd] at k1
  have HB := hide (all_below h4.right.right.right.right.right.right.right S4.out)
  clear h4 hs4 hSt hl S3
  go_wp2_with fail
  refine HSt.out.mono ?_
  clear HSt
  rintro e _ ⟨rfl, rfl⟩
  go_wp2_with fail
  go_ret
  exact ⟨rfl, HB.out⟩
end Go.Proofs.YtgmpmlneoiagdaaGreatDoor
