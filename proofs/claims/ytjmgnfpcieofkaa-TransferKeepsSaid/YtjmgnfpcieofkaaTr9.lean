/- transfer: what is kept is told (Image). -/
import Derived.Test.YtjmgnfpcieofkaaTr8
namespace Go.Proofs.Ytjmgnfpcieofkaa
open Go.ChangeShapes Go.WideShapes Go.ChangeAt Go.RowKit
set_option linter.unusedVariables false
set_option linter.unusedSimpArgs false

set_option maxRecDepth 100000 in
set_option maxHeartbeats 8000000 in
theorem kimage_any (q p : Nat) (R : RecS) (s : FlS) (F : SP) (ok : s.Ok) (hoff : s.off = false) (hw34 : 34 ≤ s.worn.length) (hR : R.Ok) (hdn : R.got.2 ≤ 4096) (w : World) (h : (Kp q p R * (Flash p s * F)).on w) :
    Calls Try.prog 33 #[.pointer (some ⟨q, 0, Option.none⟩)] w (Makes w (readQ ((s.B.drop (4608 + 0)).take R.got.2))) := by
  have hub := Try.underlying113
  have hL := kload_any q p R _ w h hR
  have H0 := hide h
  clear h
  go_enter Try.func33, Try.ntmps33
  go_wp2_with fail
  refine hL.mono ?_
  clear hL
  rintro e w1 ⟨v, rfl, ho, hs⟩
  have h1 := (on_all_to ho H0.out).right
  obtain ⟨iv, hk⟩ := Kp.open h1
  have hbank := kp_bank p R iv w1 q _ (on_blk_mul hk)
  have Hib := hide (bk_info p)
  rw [SP.mul_left_comm] at h1
  have hB := bytes_any p s _ w1 h1 ok hoff 18 0 R.got.2 hw34 (by omega)
  rw [show 18 * 256 + 0 = 4608 + 0 from rfl] at hB
  have HA := hide ho.right
  have HS := hide hs
  clear h1 hk ho hs H0
  go_wp2_with (refine wpList_load_part rfl _ _ rfl q 0 rfl (#[fptr p, .int .i64 18]) _ hbank hub rfl Hib.out ?_; clear hbank)
  refine hB.mono ?_
  clear hB
  rintro e w2 ⟨v2, rfl, h2, hs2⟩
  obtain ⟨x, rfl, h3⟩ := readQ.out h2
  have H3 := hide (on_all_to h3 HA.out)
  have S3 := hide (HS.out.trans hs2)
  clear h2 h3 hs2 HA HS
  go_wp2_with fail
  go_ret2
  exact ⟨_, rfl, on_ex_mul.2 ⟨x, by rw [SP.mul_assoc]; exact on_pure_mul.2 ⟨rfl, H3.out⟩⟩, S3.out⟩
end Go.Proofs.Ytjmgnfpcieofkaa
