/- LAID TOGETHER: Dv12, Dv14, Dv15, Dv16. -/
import Derived.Test.YtgmpmlneoiagdaaGreatDoorGDvA
import Derived.Test.YtgmpmlneoiagdaaGreatDoorGBk
import Derived.Test.YtgmpmlneoiagdaaGreatDoorGCrc
import Derived.Test.YtgmpmlneoiagdaaGreatDoorGDvB
import Derived.Test.YtgmpmlneoiagdaaGreatDoorGFlM
/- bank.Sum of an image in flash; activate.Valid where there is an image. -/
namespace Go.Proofs.YtgmpmlneoiagdaaGreatDoor
open Go.ChangeShapes Go.WideShapes Go.ChangeAt Go.RowKit
set_option linter.unusedVariables false
set_option linter.unusedSimpArgs false

set_option maxRecDepth 100000 in
set_option maxHeartbeats 16000000 in
theorem bsum_any (p : Nat) (s : FlS) (F : SP) (w : World) (h : (Flash p s * F).on w) (ok : s.Ok) (hoff : s.off = false) (first n : Nat) (hf : first + 16 ≤ s.worn.length) (hn : n ≤ 4096) :
    Calls Tryz.prog 45 #[bankV (fptr p) first, .int .i64 n] w fun e w' => e = .returned (.tuple #[.int .u32 (crcUpd 0 ((s.B.drop (first * 256)).take n) : Nat), .int .i64 0]) ∧ Below w.heap.size w w' := by
  have hu8s := Tryz.underlying22
  have HB0 := hide ((Below.refl w.heap.size w).alloc (Nat.le_refl _) (.cells #[fptr p, .int .i64 first] 82))
  have hE := bytes_any p s F _ (h.alloc' (.cells #[fptr p, .int .i64 first] 82)) ok hoff first 0 n hf (by omega)
  rw [Nat.add_zero] at hE
  generalize (s.B.drop (first * 256)).take n = l at *
  rw [show ((0 : Nat) : Int) = 0 from rfl] at hE
  clear h
  go_enter Tryz.func45, Tryz.ntmps45
  go_wp2_with fail
  generalize w.alloc (.cells #[fptr p, .int .i64 first] 82) = w0 at *
  refine hE.mono ?_
  clear hE
  rintro e w1 ⟨v, rfl, ho, hs⟩
  obtain ⟨x, rfl, ho2⟩ := readQ.out ho
  have hx := own_bytes ho2
  have HB1 := hide (HB0.out.trans ((all_below ho.right hs).mono HB0.out.size))
  have hS := sum_any _ [l] _ (IsRows.one hx 22)
  have HBn := hide ((HB1.out.trans ((Below.refl w1.heap.size w1).mono HB1.out.size)).trans (((Below.refl w1.heap.size w1).alloc (Nat.le_refl _) (.cells #[x] 22)).mono HB1.out.size))
  rw [show [l].flatten = l by simp] at hS
  obtain ⟨oa, oc, rfl, _, _, hl, _⟩ := hx
  clear ho hs hl
  go_wp2_with fail
  refine hS.mono ?_
  clear hS
  rintro e w2 ⟨rfl, hb⟩
  have HB2 := HBn.out.trans (hb.mono HBn.out.size)
  go_wp2_with fail
  go_ret2
  exact ⟨rfl, HB2⟩
theorem bk2_build (p : Nat) (w : World) : (Instr.build 82 #[(0, fptr p), (1, .int .i64 2)]).run Tryz.prog w = .ok (.agg #[fptr p, .int .i64 2]) w := by kernel_rfl
theorem active_any (p : Nat) (w : World) : Calls Tryz.prog 44 #[fptr p] w fun e w' => e = .returned (bankV (fptr p) 2) ∧ Below w.heap.size w w' := by
  have hb := bk2_build p
  have hu := Tryz.underlying82
  have hs : (Tryz.prog.info? 82).map (·.size) = some 2 := by kernel_rfl
  go_enter Tryz.func44, Tryz.ntmps44
  go_wp2_with (refine wpList_build_two rfl 82 0 1 _ _ rfl (fptr p) (.int .i64 2) rfl rfl #[fptr p, .int .i64 2] (hb _) ?_)
  refine bodyPost_ret (v := .agg #[fptr p, .int .i64 2]) (results_cell_row Tryz.results44 _ _ w.heap.size _ #[fptr p, .int .i64 2] (0, 0) _ rfl (heap_alloc_new w _) hu rfl hs) rfl ?_
  exact ⟨rfl, new1⟩

set_option maxRecDepth 100000 in
set_option maxHeartbeats 16000000 in
theorem valid_made (p : Nat) (s : FlS) (F : SP) (w : World) (h : (Flash p s * F).on w) (c : s.Calm) (he : s.load.2.2 = 0) (hn0 : s.load.1.bytes ≠ 0) (hn : s.load.1.bytes ≤ 4096) (hs9 : crcUpd 0 ((s.B.drop 512).take s.load.1.bytes) = s.load.1.sum) :
    Calls Tryz.prog 25 #[fptr p] w fun e w' => ∃ x, e = .returned (.tuple #[x, .bool true]) ∧ (ownBy x ((s.B.drop 512).take s.load.1.bytes) * all w).on w' ∧ Str w w' := by
  have hur := Tryz.underlying31
  have hz := rc_hz
  have hR := remembered_any p s F w h c.ok c.size
  have hph := c.phase
  have hBy := fun X hX => bytes_any p s F X hX c.ok c.on 2 0 s.load.1.bytes (by have := c.big; omega) (by omega)
  have hSu := fun X hX => bsum_any p s F X hX c.ok c.on 2 s.load.1.bytes (by have := c.big; omega) hn
  simp only [Nat.reduceMul, Nat.reduceAdd, Nat.add_zero] at hBy hSu
  rw [show ((2 : Nat) : Int) = 2 from rfl, hs9] at hSu
  rw [show ((2 : Nat) : Int) = 2 from rfl, show ((0 : Nat) : Int) = 0 from rfl] at hBy
  have Hfl := hide h
  rw [he] at hR
  generalize (s.B.drop 512).take s.load.1.bytes = img at *
  generalize s.load.1 = R at *
  have e1 : (((R.phase.toNat : Nat) : Int) == 2) = false := by rw [hph]; rfl
  have e2 : (((R.bytes : Nat) : Int) == 0) = false := by simp; omega
  have e3 : wrap64 (R.bytes : Int) = (R.bytes : Int) := IntWalk.wrap64_in _ (by omega)
  have hAc := hide (fun X => active_any p X)
  clear h c he hph hs9
  go_enter Tryz.func25, Tryz.ntmps25
  go_wp2_with fail
  refine hR.mono ?_
  clear hR
  rintro e w1 ⟨iv, rfl, ho, hs⟩
  rw [show ((0 : Nat) : Int) = 0 from rfl]
  have HoR := hide (rc_one (s := R) (iv := iv) (own_slice ho))
  have HsR := hide (rc_info R iv)
  have h1 := ho.alloc (.cells (recCells zeroS nilV) 31)
  have gA := hide (on_blk_mul h1)
  have h2 := h1.setRow (recCells R iv)
  have g2 := hide (on_blk_mul h2)
  have HB := hide (all_below h2.right.right ((hs.alloc (.cells (recCells zeroS nilV) 31)).setRow w1.heap.size (recCells R iv)))
  have hstop : ∀ p : Prop, Hid p → p := fun _ h => h.out
  clear ho hs h1 h2
  go_wp2_with (refine wpList_store_row rfl _ _ _ rfl w1.heap.size (recCells R iv) rfl rfl _ _ gA.out HsR.out rfl HoR.out ?_; refine hstop _ ?_)
  refine hide ?_
  clear hstop gA
  generalize (w1.alloc (.cells (recCells zeroS nilV) 31)).setRow w1.heap.size (recCells R iv) = w2 at *
  generalize w1.heap.size = gB at *
  have c2 : w2.cell? ⟨gB, 2, Option.none⟩ = some (u32v R.bytes) := cell_of_row _ _ 2 _ _ _ g2.out
  have c3 : w2.cell? ⟨gB, 3, Option.none⟩ = some (u32v R.sum) := cell_of_row _ _ 3 _ _ _ g2.out
  have c4 : w2.cell? ⟨gB, 4, Option.none⟩ = some (vb R.phase) := cell_of_row _ _ 4 _ _ _ g2.out
  have A2 := hAc.out w2
  go_wp2_with fail
  refine A2.mono ?_
  clear A2
  rintro e w2' ⟨rfl, hba⟩
  have HB' := hide (HB.out.trans (hba.mono HB.out.size))
  have c3 := (hba.cell (World.block_lt_of_cell? _ _ c3)).trans c3
  have S2 := hSu w2' (Hfl.out.below HB'.out)
  clear hba HB
  go_wp2_with fail
  refine S2.mono ?_
  clear S2
  rintro e w3 ⟨rfl, hb⟩
  have B3 := hide (HB'.out.trans (hb.mono HB'.out.size))
  have d3 := (hb.cell (World.block_lt_of_cell? _ _ c3)).trans c3
  have A3 := hAc.out w3
  have h3 := hide (Hfl.out.below B3.out)
  clear hb g2 HB'
  go_wp2_with fail
  refine A3.mono ?_
  clear A3
  rintro e w3' ⟨rfl, hba⟩
  have h4 := hide (h3.out.below hba)
  have Y3 := hBy w3' h4.out
  have T3 := hide (Str.below (B3.out.trans (hba.mono B3.out.size)))
  have A9 := hide ((on_all w).below (B3.out.trans (hba.mono B3.out.size)))
  clear hba h3 B3
  go_wp2_with fail
  refine Y3.mono ?_
  clear Y3
  rintro e w4 ⟨v, rfl, ho, hs⟩
  obtain ⟨x, rfl, ho2⟩ := readQ.out ho
  have hx := own_bytes ho2
  have H4 := hide (on_all_to ho2 A9.out)
  have S4 := hide (T3.out.trans hs)
  clear ho ho2 hs
  obtain ⟨oa, oc, rfl, _, _, _, _⟩ := hx
  go_wp2_with fail
  go_ret2
  exact ⟨_, rfl, H4.out, S4.out⟩
end Go.Proofs.YtgmpmlneoiagdaaGreatDoor

/- device: an image is run; ticks. -/
namespace Go.Proofs.YtgmpmlneoiagdaaGreatDoor
open Go.ChangeShapes Go.WideShapes Go.ChangeAt Go.RowKit
set_option linter.unusedVariables false
set_option linter.unusedSimpArgs false

theorem dv_buildR (a : Option Addr) (n c : Nat) (X : World) : (Instr.build 67 [(3, Value.int .i64 2), (4, .slice a n c)].toArray).run Tryz.prog X = .ok (.agg (dvV pnil pnil 2 (.slice a n c) pnil 0)) X := by kernel_rfl
set_option maxRecDepth 100000 in
set_option maxHeartbeats 16000000 in
theorem run_any (d p : Nat) (dec0 img0 mach0 : Value) (st0 t0 : Nat) (a : Option Addr) (n c : Nat) (F : SP) (w : World) (h : (blk d (.cells (dvV dec0 (fptr p) st0 img0 mach0 t0) 67 (0, 0)) * F).on w) :
    Calls Tryz.prog 26 #[.pointer (some ⟨d, 0, Option.none⟩), .slice a n c] w fun e w' => (∃ v, e = .returned v) ∧ (blk d (.cells (dvV pnil (fptr p) 2 (.slice a n c) pnil 0) 67 (0, 0)) * F).on w' ∧ Str w w' := by
  have hB := become_any d p dec0 img0 mach0 pnil (.slice a n c) pnil st0 t0 2 0 rfl rfl rfl F w h
  have hbs := dv_buildR a n c
  clear h
  generalize dvV pnil pnil 2 (.slice a n c) pnil 0 = zd at *
  go_enter Tryz.func26, Tryz.ntmps26
  go_wp2_with (refine wpList_build_list rfl 67 [(3, .const (.int .i64 2)), (4, .tmp 5)] rfl [(3, .int .i64 2), (4, .slice a n c)] rfl zd (hbs _) ?_)
  refine hB.mono ?_
  clear hB
  rintro e w1 ⟨⟨_, rfl⟩, h1, hs⟩
  have H1 := hide h1
  have S1 := hide hs
  clear h1 hs
  go_wp2_with fail
  go_end0
  exact ⟨⟨_, rfl⟩, H1.out, S1.out⟩

set_option maxRecDepth 100000 in
set_option maxHeartbeats 16000000 in
theorem tick_wait (d p : Nat) (dec img mach : Value) (t : Nat) (ht : t + 1 < 50) (s : FlS) (F : SP) (w : World) (h : (blk d (.cells (dvV dec (fptr p) 1 img mach t) 67 (0, 0)) * (Flash p s * F)).on w) (hoff : s.off = false) :
    Calls Tryz.prog 11 #[.pointer (some ⟨d, 0, Option.none⟩)] w fun e w' => (∃ v, e = .returned v) ∧ (blk d (.cells (dvV dec (fptr p) 1 img mach (t + 1)) 67 (0, 0)) * (Flash p s * F)).on w' ∧ Str w w' := by
  have hud := Tryz.underlying67
  have hN := now_on d p dec img mach 1 t s F w h hoff
  rw [show ((1 : Nat) : Int) = 1 from rfl] at hN
  have hg := on_blk_mul h
  have f41 := frozen_of_row w d 41 _ _ hg
  have c41 : w.cell? ⟨d, 41, Option.none⟩ = some (.int .i64 (t : Nat)) := by rw [cell_of_row _ _ 41 _ _ _ hg]; exact dvV_get41 _ _ _ _ _ _
  have ew : wrap64 ((t : Int) + 1) = ((t + 1 : Nat) : Int) := by rw [IntWalk.wrap64_in _ (by omega)]; omega
  have h1 := h.setCell (i := 41) (.int .i64 ((t + 1 : Nat) : Int))
  rw [dvV_set41, show ((t + 1 : Nat) : Int) = (t : Int) + 1 by omega] at h1
  have H1 := hide h1
  have S1 := hide ((Str.refl w).setCell ⟨d, 41, Option.none⟩ (.int .i64 ((t : Int) + 1)))
  have hlt : decide (((t + 1 : Nat) : Int) < 50) = true := by simp; omega
  clear h h1 hg
  go_enter Tryz.func11, Tryz.ntmps11
  go_wp2_with fail
  refine hN.mono ?_
  clear hN
  rintro e _ ⟨rfl, rfl⟩
  go_wp2_with fail
  exact bodyPost_ret (v := .tuple #[]) (by simp [results, Tryz.results11, go_sem]) rfl ⟨⟨_, rfl⟩, H1.out, S1.out⟩

set_option maxRecDepth 100000 in
set_option maxHeartbeats 16000000 in
theorem tick_end (d p : Nat) (dec img mach : Value) (s : FlS) (F : SP) (w : World) (h : (blk d (.cells (dvV dec (fptr p) 1 img mach 49) 67 (0, 0)) * (Flash p s * F)).on w) (hoff : s.off = false)
    (hV : ∀ X, (blk d (.cells (dvV dec (fptr p) 1 img mach 0) 67 (0, 0)) * (Flash p s * F)).on X → Calls Tryz.prog 25 #[fptr p] X fun e w' => e = .returned (.tuple #[nilV, .bool false]) ∧ Below X.heap.size X w') :
    Calls Tryz.prog 11 #[.pointer (some ⟨d, 0, Option.none⟩)] w fun e w' => (∃ v, e = .returned v) ∧ (blk d (.cells (dvV dec (fptr p) 1 img mach 0) 67 (0, 0)) * (Flash p s * F)).on w' ∧ Str w w' := by
  have hud := Tryz.underlying67
  have hN := now_on d p dec img mach 1 49 s F w h hoff
  rw [show ((1 : Nat) : Int) = 1 from rfl] at hN
  have hg := on_blk_mul h
  have f41 := frozen_of_row w d 41 _ _ hg
  have c41 : w.cell? ⟨d, 41, Option.none⟩ = some (.int .i64 49) := by rw [cell_of_row _ _ 41 _ _ _ hg]; exact dvV_get41 _ _ _ _ _ _
  have h1 := h.setCell (i := 41) (.int .i64 ((50 : Nat) : Int))
  rw [dvV_set41] at h1
  have h2 := h1.setCell (i := 41) (.int .i64 ((0 : Nat) : Int))
  rw [dvV_set41] at h2
  have f41b := frozen_of_row _ d 41 _ _ (on_blk_mul h1)
  have c1 := (cell_of_row _ _ 1 _ _ _ (on_blk_mul h2)).trans (dvV_get1 _ _ _ _ _ _)
  rw [show ((0 : Nat) : Int) = 0 from rfl, show ((50 : Nat) : Int) = 50 from rfl] at h2 c1
  rw [show ((50 : Nat) : Int) = 50 from rfl] at f41b
  have H2 := hide h2
  have HV := hide (hV _ h2)
  have S2 := hide (((Str.refl w).setCell ⟨d, 41, Option.none⟩ (.int .i64 50)).setCell ⟨d, 41, Option.none⟩ (.int .i64 0))
  clear h h1 hg hV h2
  go_enter Tryz.func11, Tryz.ntmps11
  go_wp2_with fail
  refine hN.mono ?_
  clear hN
  rintro e _ ⟨rfl, rfl⟩
  go_wp2_with fail
  refine HV.out.mono ?_
  clear HV
  rintro e w1 ⟨rfl, hb⟩
  have H3 := hide (H2.out.below hb)
  have S3 := hide (S2.out.trans (Str.below hb))
  clear hb
  go_wp2_with fail
  go_end0
  exact ⟨⟨_, rfl⟩, H3.out, S3.out⟩
set_option maxRecDepth 100000 in
set_option maxHeartbeats 16000000 in
theorem tick_run (d p : Nat) (dec img mach : Value) (s : FlS) (F : SP) (w : World) (h : (blk d (.cells (dvV dec (fptr p) 1 img mach 49) 67 (0, 0)) * (Flash p s * F)).on w) (img2 : List UInt8) (hoff : s.off = false)
    (hV : ∀ X, (blk d (.cells (dvV dec (fptr p) 1 img mach 0) 67 (0, 0)) * (Flash p s * F)).on X → Calls Tryz.prog 25 #[fptr p] X fun e w' => ∃ x, e = .returned (.tuple #[x, .bool true]) ∧ (ownBy x img2 * (Flash p s * (blk d (.cells (dvV dec (fptr p) 1 img mach 0) 67 (0, 0)) * F))).on w' ∧ Str X w') :
    Calls Tryz.prog 11 #[.pointer (some ⟨d, 0, Option.none⟩)] w fun e w' => (∃ v, e = .returned v) ∧ ∃ x, (blk d (.cells (dvV pnil (fptr p) 2 x pnil 0) 67 (0, 0)) * (ownBy x img2 * (Flash p s * F))).on w' ∧ Str w w' := by
  have hud := Tryz.underlying67
  have hN := now_on d p dec img mach 1 49 s F w h hoff
  rw [show ((1 : Nat) : Int) = 1 from rfl] at hN
  have hg := on_blk_mul h
  have f41 := frozen_of_row w d 41 _ _ hg
  have c41 : w.cell? ⟨d, 41, Option.none⟩ = some (.int .i64 49) := by rw [cell_of_row _ _ 41 _ _ _ hg]; exact dvV_get41 _ _ _ _ _ _
  have h1 := h.setCell (i := 41) (.int .i64 ((50 : Nat) : Int))
  rw [dvV_set41] at h1
  have h2 := h1.setCell (i := 41) (.int .i64 ((0 : Nat) : Int))
  rw [dvV_set41] at h2
  have f41b := frozen_of_row _ d 41 _ _ (on_blk_mul h1)
  have c1 := (cell_of_row _ _ 1 _ _ _ (on_blk_mul h2)).trans (dvV_get1 _ _ _ _ _ _)
  rw [show ((0 : Nat) : Int) = 0 from rfl, show ((50 : Nat) : Int) = 50 from rfl] at h2 c1
  rw [show ((50 : Nat) : Int) = 50 from rfl] at f41b
  have H2 := hide h2
  have HV := hide (hV _ h2)
  have S2 := hide (((Str.refl w).setCell ⟨d, 41, Option.none⟩ (.int .i64 50)).setCell ⟨d, 41, Option.none⟩ (.int .i64 0))
  clear h h1 hg hV h2
  go_enter Tryz.func11, Tryz.ntmps11
  go_wp2_with fail
  refine hN.mono ?_
  clear hN
  rintro e _ ⟨rfl, rfl⟩
  go_wp2_with fail
  refine HV.out.mono ?_
  clear HV
  rintro e w1 ⟨x, rfl, ho, hs⟩
  have hx := own_bytes ho
  have S3 := hide (S2.out.trans hs)
  rw [show ∀ A B C D : SP, A * (B * (C * D)) = C * (A * (B * D)) from fun A B C D => by ac_rfl] at ho
  obtain ⟨oa, oc, rfl, _, _, _, _⟩ := hx
  have hR := run_any d p dec img mach 1 0 oa img2.length oc _ w1 ho
  clear ho hs H2 S2
  go_wp2_with fail
  refine hR.mono ?_
  clear hR
  rintro e w2 ⟨⟨_, rfl⟩, h4, hs4⟩
  have H4 := hide h4
  have S4 := hide (S3.out.trans hs4)
  clear h4 hs4
  go_wp2_with fail
  go_end0
  exact ⟨⟨_, rfl⟩, _, H4.out, S4.out⟩
end Go.Proofs.YtgmpmlneoiagdaaGreatDoor

/- device, where a record tells of an image, or of none. -/
namespace Go.Proofs.YtgmpmlneoiagdaaGreatDoor
open Go.ChangeShapes Go.WideShapes Go.ChangeAt Go.RowKit
set_option linter.unusedVariables false
set_option linter.unusedSimpArgs false

theorem calm_of_KL {s : FlS} {R : RecS} (h : KL s R) (he : s.load.2.2 = 0) (hp : R.phase = 0) (hf : R.floor = 0) : s.Calm :=
  ⟨h.live.ok, h.live.off, h.worn, .inl he, by rw [h.load]; exact hp, by rw [h.load]; exact hf⟩
set_option maxRecDepth 100000 in
set_option maxHeartbeats 16000000 in
theorem valid_zero (p : Nat) (s : FlS) (F : SP) (w : World) (h : (Flash p s * F).on w) (c : s.Calm) (he : s.load.2.2 = 0) (hn : s.load.1.bytes = 0) :
    Calls Tryz.prog 25 #[fptr p] w fun e w' => e = .returned (.tuple #[nilV, .bool false]) ∧ Below w.heap.size w w' := by
  have hur := Tryz.underlying31
  have hz := rc_hz
  have hR := remembered_any p s F w h c.ok c.size
  rw [he] at hR
  generalize s.load.1 = R at *
  have e2 : (((R.bytes : Nat) : Int) == 0) = true := by rw [hn]; rfl
  clear h c he
  go_enter Tryz.func25, Tryz.ntmps25
  go_wp2_with fail
  refine hR.mono ?_
  clear hR
  rintro e w1 ⟨iv, rfl, ho, hs⟩
  rw [show ((0 : Nat) : Int) = 0 from rfl]
  have HoR := hide (rc_one (s := R) (iv := iv) (own_slice ho))
  have HsR := hide (rc_info R iv)
  have h1 := ho.alloc (.cells (recCells zeroS nilV) 31)
  have gA := hide (on_blk_mul h1)
  have h2 := h1.setRow (recCells R iv)
  have c2 : ((w1.alloc (.cells (recCells zeroS nilV) 31)).setRow w1.heap.size (recCells R iv)).cell? ⟨w1.heap.size, 2, Option.none⟩ = some (u32v R.bytes) := cell_of_row _ _ 2 _ _ _ (on_blk_mul h2)
  have HB := hide (all_below h2.right.right ((hs.alloc (.cells (recCells zeroS nilV) 31)).setRow w1.heap.size (recCells R iv)))
  have hstop : ∀ p : Prop, Hid p → p := fun _ h => h.out
  clear ho hs h1 h2
  go_wp2_with (refine wpList_store_row rfl _ _ _ rfl w1.heap.size (recCells R iv) rfl rfl _ _ gA.out HsR.out rfl HoR.out ?_; refine hstop _ ?_)
  refine hide ?_
  clear hstop gA
  generalize (w1.alloc (.cells (recCells zeroS nilV) 31)).setRow w1.heap.size (recCells R iv) = w2 at *
  generalize w1.heap.size = gB at *
  go_wp2_with fail
  go_ret2
  exact ⟨rfl, HB.out⟩

/-- the flash of the law DeviceIdle, before a device is made -/
theorem idle_calm (old : List UInt8) (h4 : old.length % 4 = 0) (hn : old.length ≤ 1000) :
    ((FlS.new 34).prog 512 old).2 = 0 ∧ ((FlS.new 34).prog 512 old).1.Live ∧ ∃ t, ((FlS.new 34).prog 512 old).1.save (idleR old) = (t, { idleR old with seq := 1 }, 0) ∧ t.Calm ∧ t.Live ∧ t.load.2.2 = 0 ∧ t.load.1.bytes = old.length ∧ t.load.1.sum = crcUpd 0 old ∧ (t.B.drop 512).take old.length = old := by
  obtain ⟨a1, a2, t, b1, b2, b3, b4⟩ := idle_flash old h4 hn
  exact ⟨a1, a2, t, b1, calm_of_KL b2 b3 rfl rfl, b2.live, b3, by rw [b2.load]; rfl, by rw [b2.load]; rfl, b4⟩
end Go.Proofs.YtgmpmlneoiagdaaGreatDoor

/- device: the state of one that runs an image. -/
namespace Go.Proofs.YtgmpmlneoiagdaaGreatDoor
open Go.ChangeShapes Go.WideShapes Go.ChangeAt Go.RowKit
set_option linter.unusedVariables false
set_option linter.unusedSimpArgs false

set_option maxRecDepth 100000 in
set_option maxHeartbeats 16000000 in
theorem state_run (d p : Nat) (dec mach x : Value) (img : List UInt8) (t : Nat) (s : FlS) (F : SP) (w : World) (h : (blk d (.cells (dvV dec (fptr p) 2 x mach t) 67 (0, 0)) * (Flash p s * F)).on w) (hoff : s.off = false) (hx : IsBytes w x img) (hl : img.length ≤ 100000) :
    Calls Tryz.prog 14 #[.pointer (some ⟨d, 0, Option.none⟩)] w fun e w' => ∃ y, e = .returned (.tuple #[.int .i64 2, y]) ∧ (ownBy y img * (blk d (.cells (dvV dec (fptr p) 2 x mach t) 67 (0, 0)) * (Flash p s * F))).on w' ∧ Str w w' := by
  have hud := Tryz.underlying67
  have hu := Tryz.underlying22
  have hi8 : (Tryz.prog.info? 5).map (fun i => (i.zero, i.size, i.bytes)) = some (some (.int .u8 0), 1, 1) := by kernel_rfl
  have hN := now_on d p dec x mach 2 t s F w h hoff
  rw [show ((2 : Nat) : Int) = 2 from rfl] at hN
  have hg := on_blk_mul h
  have c39 : w.cell? ⟨d, 39, Option.none⟩ = some x := by rw [cell_of_row _ _ 39 _ _ _ hg]; exact dvV_get39 _ _ _ _ _ _
  have H0 := hide (own_nil 5 1 h)
  have Hx := hide hx
  obtain ⟨xa, xc, rfl, _, _, _, _⟩ := hx
  clear h hg
  go_enter Tryz.func14, Tryz.ntmps14
  go_wp2_with fail
  refine hN.mono ?_
  clear hN
  rintro e _ ⟨rfl, rfl⟩
  go_wp2_with (at_builtin; refine wpList_append_bytes (F := blk d (.cells (dvV dec (fptr p) 2 (.slice xa img.length xc) mach t) 67 (0, 0)) * (Flash p s * F)) rfl _ _ 22 rfl 5 hu hi8 _ [] img rfl H0.out _ rfl Hx.out (by simp; omega) ?_; intro v3 w3 ho3 hs3; rw [List.nil_append] at ho3; obtain ⟨oa3, oc3, rfl, _, _, _, _⟩ := own_value ho3; have Ho3 := hide ho3; have Hs3 := hide hs3; clear ho3 hs3)
  go_ret2
  exact ⟨_, rfl, Ho3.out, Hs3.out⟩
end Go.Proofs.YtgmpmlneoiagdaaGreatDoor
