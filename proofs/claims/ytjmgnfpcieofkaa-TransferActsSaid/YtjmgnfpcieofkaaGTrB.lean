/- LAID TOGETHER: Tr7, Tr8, Tr9. -/
import Derived.Test.YtjmgnfpcieofkaaGKeep
import Derived.Test.YtjmgnfpcieofkaaSet6
import Derived.Test.YtjmgnfpcieofkaaFlashLives
/- transfer: the chapter's example. -/
namespace Go.Proofs.Ytjmgnfpcieofkaa
open Go.ChangeShapes Go.WideShapes Go.ChangeAt Go.RowKit
set_option linter.unusedVariables false
set_option linter.unusedSimpArgs false

theorem bytes_blk {w : World} {g : Nat} {l : List UInt8} {t : TypeId} {fr : Nat × Nat} {F : SP} (h : (blk g (.cells (vbs l).toArray t fr) * F).on w) (hl : l.length ≤ maxLen) : IsBytes w (.slice (some ⟨g, 0, Option.none⟩) l.length l.length) l :=
  ⟨_, _, rfl, Nat.le_refl _, hl, fun i v hv => ⟨_, _, rfl, by rw [Nat.zero_add, cell_of_row _ _ _ _ _ _ (on_blk_mul h)]; simpa using hv⟩, fun h => (nomatch h)⟩
def initB : List UInt8 := [105, 110, 105, 116]
def zs1024 : List UInt8 := List.replicate 1024 0
theorem zs_len : zs1024.length = 1024 := List.length_replicate
/-- what the pure functions say of the example -/
theorem ex18 (s0 : FlS) (h0 : s0 = FlS.new 34) : s0.kErr = 0 ∧ s0.load.1 = zeroS ∧ s0.Fit 0 ∧ 34 ≤ s0.worn.length ∧ ∃ t1 R1, kStart s0 zeroS initB = (t1, R1, 0) ∧ t1.Fit 520 ∧ 34 ≤ t1.worn.length ∧ R1.Ok ∧ R1.done ≤ 4096 ∧
    ∃ t2 R2, kPut t1 R1 zs1024 = (t2, R2, 0) ∧ t2.Ok ∧ t2.kErr = 0 ∧ t2.load.1 = R2 ∧ R2.Ok ∧ R2.got = (initB, 1024) := by
  have K0 : KL s0 zeroS := by rw [h0]; exact KL.new 34 (by omega) (by omega)
  have fit0 : s0.Fit 0 := by rw [h0]; exact FlS.Fit.new 34 (by omega) (by omega)
  obtain ⟨t1, e1, k1, o1, l1, w1, _⟩ := K0.start (by decide) initB (by decide)
  obtain ⟨R1, hR1⟩ : ∃ R, R = ({ zeroS.put 1 0 initB with seq := zeroS.seq + 2 } : RecS) := ⟨_, rfl⟩
  rw [← hR1] at e1 k1
  have d1 : R1.done = 0 := by rw [hR1]; rfl
  have s1 : R1.seq = 2 := by rw [hR1]; rfl
  have i1 : R1.init = initB := by rw [hR1]; rfl
  have ph1 : R1.phase = 1 := by rw [hR1]; rfl
  clear hR1
  obtain ⟨t2, e2, k2, o2, l2, w2, _⟩ := k1.put (by omega) ph1 zs1024 (by omega) (by rw [zs_len]; omega)
  rw [zs_len, d1, i1, s1] at e2 k2
  have p0 := K0.pages
  have p2 := k2.pages
  have q2 := k2.worn
  have f1 := kStart_fit fit0 zeroS initB
  rw [e1] at f1
  have hL0 : s0.load.2.2 = 15 := by rw [h0, new_load 34 (by omega)]
  have q0 := K0.worn
  refine ⟨?_, K0.load, fit0, K0.worn, t1, _, e1, f1, k1.worn, k1.ok, by omega, t2, _, e2, k2.live.ok, ?_, k2.load, k2.ok, ?_⟩
  · unfold FlS.kErr
    rw [if_neg (by omega), if_neg (by omega)]
  · unfold FlS.kErr
    rw [if_neg (by omega), if_neg (by omega)]
  · show (if (1 : UInt8) = 1 then _ else _) = _
    rw [if_pos rfl]
    rfl
set_option maxRecDepth 100000 in
set_option maxHeartbeats 8000000 in
theorem lives18_any (w : World) : Calls Try.prog 20 #[] w fun e w' => e = .returned (.bool true) ∧ Below w.heap.size w w' := by
  have kc := fun (w : World) (b : Nat) (hb : b = w.heap.size) (C : Array Value) (n c : Nat) => run_bytes_const (P := Try.prog) w b hb 33 5 C n c Try.underlying33 Try.underlying5
  have hmk : ∀ W, (Instr.makeSlice 33 (.int .i64 1024) (.int .i64 1024)).run Try.prog W = .ok (.slice (some ⟨W.heap.size, 0, Option.none⟩) 1024 1024) (W.alloc (.cells (vbs zs1024).toArray 5)) := fun W =>
      (run_make_row' (P := Try.prog) 33 5 (.int .u8 0) 1 Try.underlying33 infoByte rfl .i64 .i64 1024 (by omega) (by omega) W).trans (by rw [mades_one]; rfl)
  have hsu := Try.underlying33
  have hsb := Try.underlying5
  have hst := Try.underlying9
  obtain ⟨s0, hs0⟩ : ∃ s, s = FlS.new 34 := ⟨_, rfl⟩
  obtain ⟨ke0, ld0, fit0, wn0, t1, R1, e1, fit1, wn1, okR1, dn1, t2, R2, e2, ok2, ke2, ld2, okR2, got2⟩ := ex18 s0 hs0
  have hnew := new_any 34 (by omega) (by omega) w
  go_enter Try.func20, Try.ntmps20
  go_wp2_with fail
  refine hnew.mono ?_
  rintro e w1 ⟨v, rfl, ho, hs⟩
  obtain ⟨p, rfl, ho2⟩ := newQ.out ho
  rw [show FlS.new 34 = s0 from hs0.symm] at ho2
  have hT := tnew_any p s0 _ w1 ho2 fit0.ok
  have HS := hide hs
  clear ho ho2 hs hnew
  go_wp2_with fail
  refine hT.mono ?_
  clear hT
  rintro e w2 (⟨h0, _⟩ | ⟨_, q, rfl, h2, hs2⟩)
  · exact absurd ke0 h0
  rw [ld0] at h2
  have h3 := h2.alloc (.cells (vbs initB).toArray 5 (4, 5))
  rw [SP.mul_left_comm, SP.mul_left_comm (blk _ _) (Flash p s0)] at h3
  have hP := kstart_any q p zeroS s0 _ 0 fit0 (by omega) wn0 zeroS_ok (.slice (some ⟨w2.heap.size, 0, Option.none⟩) 4 4) initB (by decide) (fun W h => bytes_blk (l := initB) h (by decide)) _ h3
  rw [e1] at hP
  have HS2 := hide ((HS.out.trans hs2).alloc (.cells (vbs initB).toArray 5 (4, 5)))
  clear h2 h3 hs2 HS
  go_wp2_with fail
  refine hP.mono ?_
  clear hP
  rintro e w3 ⟨rfl, h4, hs3⟩
  replace h4 : (Kp q p R1 * (Flash p t1 * (blk w2.heap.size (.cells (vbs initB).toArray 5 (4, 5)) * all w))).on w3 := h4
  have h5 := h4.alloc (.cells (vbs zs1024).toArray 5)
  rw [SP.mul_left_comm, SP.mul_left_comm (blk w3.heap.size _) (Flash p t1)] at h5
  have hP := kput_any q p R1 t1 _ 520 fit1 (by omega) wn1 okR1 dn1 (.slice (some ⟨w3.heap.size, 0, Option.none⟩) 1024 1024) zs1024 (fun W h => by have := IsBytes.blk (l := zs1024) h (by rw [zs_len]; decide); rw [zs_len] at this; exact this) _ h5
  rw [e2] at hP
  have HS3 := hide ((HS2.out.trans hs3).alloc (.cells (vbs zs1024).toArray 5))
  have hmk3 := hmk w3
  clear h4 h5 hs3 HS2 hmk
  generalize w3.alloc (.cells (vbs zs1024).toArray 5) = w3' at *
  go_wp2_with fail
  refine hP.mono ?_
  clear hP
  rintro e w4 ⟨rfl, h6, hs4⟩
  replace h6 : (Kp q p R2 * (Flash p t2 * (blk w3.heap.size (.cells (vbs zs1024).toArray 5 (0, 0)) * (blk w2.heap.size (.cells (vbs initB).toArray 5 (4, 5)) * all w)))).on w4 := h6
  rw [SP.mul_left_comm] at h6
  have hT := tnew_any p t2 _ w4 h6 ok2
  have HS4 := hide (HS3.out.trans hs4)
  clear h6 hs4 HS3
  go_wp2_with fail
  refine hT.mono ?_
  clear hT
  rintro e w5 (⟨h0, _⟩ | ⟨_, q2, rfl, h7, hs5⟩)
  · exact absurd ke2 h0
  rw [ld2] at h7
  have hL := kload_any q2 p R2 _ w5 h7 okR2
  have HS5 := hide (HS4.out.trans hs5)
  have H7 := hide h7
  clear h7 hs5 HS4
  go_wp2_with fail
  refine hL.mono ?_
  clear hL
  rintro e w6 ⟨v, rfl, h8, hs6⟩
  rw [got2] at h8 ⊢
  have hB := H7.out.below (all_below h8.right hs6)
  have HS6 := hide (HS5.out.trans hs6)
  have HB := hide (all_below hB.right.right.right.right.right HS6.out)
  obtain ⟨xa, xc, rfl, _, _, hxl, _⟩ := own_bytes h8
  have k1 := run_string_of (P := Try.prog) (w := w6) (c := xc) hsu hsb hxl _ hst
  clear h8 hB HS5 HS6 H7 hs6 hxl
  go_wp2_with fail
  go_ret
  exact ⟨rfl, HB.out⟩
end Go.Proofs.Ytjmgnfpcieofkaa

/- transfer: no flash; nothing is nothing. -/
namespace Go.Proofs.Ytjmgnfpcieofkaa
open Go.ChangeShapes Go.WideShapes Go.ChangeAt Go.RowKit
set_option linter.unusedVariables false
set_option linter.unusedSimpArgs false

set_option maxRecDepth 100000 in
set_option maxHeartbeats 8000000 in
theorem tnew_nil (w : World) : Calls Try.prog 21 #[fnil] w fun e w' => e = .returned (.tuple #[.pointer Option.none, .int .i64 1]) ∧ w = w' := by
  have hS := size_nil 0 0 w
  go_enter Try.func21, Try.ntmps21
  go_wp2_with fail
  refine hS.mono ?_
  clear hS
  rintro e w1 ⟨rfl, rfl⟩
  go_wp2_with fail
  go_ret2
  exact ⟨rfl, rfl⟩
set_option maxRecDepth 100000 in
set_option maxHeartbeats 8000000 in
theorem zsame_any (iv : Value) (w : World) (h : IsBytes w iv []) : Calls Try.prog 19 #[.agg (recCells zeroS iv), .agg (recCells zeroS nilV)] w fun e w' => e = .returned (.bool true) ∧ Below w.heap.size w w' := by
  have hb2 : Below w.heap.size w ((w.alloc (.cells (recCells zeroS iv) 35)).alloc (.cells (recCells zeroS nilV) 35)) := alloc1.alloc (by simp) _
  have g1 := h.below hb2
  obtain ⟨a1, c1, rfl, _, _, _, _⟩ := h
  have hE := equal_any _ _ _ _ _ g1 (IsBytes.nil _)
  rw [show decide (([] : List UInt8) = []) = true from rfl] at hE
  have Hb2 := hide hb2
  clear hb2 g1
  go_enter Try.func19, Try.ntmps19
  go_wp2_with fail
  refine hE.mono ?_
  clear hE
  rintro e w1 ⟨rfl, rfl⟩
  go_wp2_with fail
  go_ret
  exact ⟨rfl, Hb2.out⟩
end Go.Proofs.Ytjmgnfpcieofkaa

/- transfer: what is kept is told (Image). -/
namespace Go.Proofs.Ytjmgnfpcieofkaa
open Go.ChangeShapes Go.WideShapes Go.ChangeAt Go.RowKit
set_option linter.unusedVariables false
set_option linter.unusedSimpArgs false

set_option maxRecDepth 100000 in
set_option maxHeartbeats 8000000 in
theorem kimage_any (q p : Nat) (R : RecS) (s : FlS) (F : SP) (ok : s.Ok) (hoff : s.off = false) (hw34 : 34 ≤ s.worn.length) (hR : R.Ok) (hdn : R.got.2 ≤ 4096) (w : World) (h : (Kp q p R * (Flash p s * F)).on w) :
    Calls Try.prog 33 #[.pointer (some ⟨q, 0, Option.none⟩)] w (Makes w (readQ ((s.B.drop (4608 + 0)).take R.got.2))) := by
  have hub := Try.underlying113
  have hL := kload_any q p R _ w h hR
  have H0 := hide h
  clear h
  go_enter Try.func33, Try.ntmps33
  go_wp2_with fail
  refine hL.mono ?_
  clear hL
  rintro e w1 ⟨v, rfl, ho, hs⟩
  have h1 := (on_all_to ho H0.out).right
  obtain ⟨iv, hk⟩ := Kp.open h1
  have hbank := kp_bank p R iv w1 q _ (on_blk_mul hk)
  have Hib := hide (bk_info p)
  rw [SP.mul_left_comm] at h1
  have hB := bytes_any p s _ w1 h1 ok hoff 18 0 R.got.2 hw34 (by omega)
  rw [show 18 * 256 + 0 = 4608 + 0 from rfl] at hB
  have HA := hide ho.right
  have HS := hide hs
  clear h1 hk ho hs H0
  go_wp2_with (refine wpList_load_part rfl _ _ rfl q 0 rfl (#[fptr p, .int .i64 18]) _ hbank hub rfl Hib.out ?_; clear hbank)
  refine hB.mono ?_
  clear hB
  rintro e w2 ⟨v2, rfl, h2, hs2⟩
  obtain ⟨x, rfl, h3⟩ := readQ.out h2
  have H3 := hide (on_all_to h3 HA.out)
  have S3 := hide (HS.out.trans hs2)
  clear h2 h3 hs2 HA HS
  go_wp2_with fail
  go_ret2
  exact ⟨_, rfl, on_ex_mul.2 ⟨x, by rw [SP.mul_assoc]; exact on_pure_mul.2 ⟨rfl, H3.out⟩⟩, S3.out⟩
end Go.Proofs.Ytjmgnfpcieofkaa
