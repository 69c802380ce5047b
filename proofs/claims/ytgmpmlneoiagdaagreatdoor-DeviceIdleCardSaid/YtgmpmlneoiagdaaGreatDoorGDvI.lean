/- LAID TOGETHER: Dv27, Dv28. -/
import Derived.Test.YtgmpmlneoiagdaaGreatDoorGDvH
/- object: what a fresh machine answers to Create, and to any request. -/
namespace Go.Proofs.YtgmpmlneoiagdaaGreatDoor
open Go.ChangeShapes Go.WideShapes Go.ChangeAt Go.RowKit
set_option linter.unusedVariables false
set_option linter.unusedSimpArgs false

set_option maxRecDepth 100000 in
set_option maxHeartbeats 16000000 in
theorem oresp_1 (m q : Nat) (ty : UInt8) (sz : Nat) (da : Option Addr) (dn dc : Nat) (r : UInt8) (M : Array Value) (hC0 : CrIs m q ty sz r M) (F : SP) (w : World) (h : (blk m (.cells (mK q) 127 (0, 0)) * F).on w) :
    Calls Tryz.prog 78 #[.pointer (some ⟨m, 0, Option.none⟩), .agg (rqC 1 ty sz (.slice da dn dc))] w (AnEnd m F w) := by
  have hum := Tryz.underlying127
  have hu := Tryz.underlying93
  have huq := Tryz.underlying117
  have hz := zr_hz
  have hs : (Tryz.prog.info? 93).map (·.size) = some 3 := by kernel_rfl
  have h1 := (h.alloc (.cells (rqC 1 ty sz (.slice da dn dc)) 117)).alloc (.cells #[.int .u8 0, .int .u8 0, nV] 93)
  rw [World.size_alloc] at h1
  have S1 := hide (((Str.refl w).alloc (.cells (rqC 1 ty sz (.slice da dn dc)) 117)).alloc (.cells #[.int .u8 0, .int .u8 0, nV] 93))
  have c0 : ((w.alloc (.cells (rqC 1 ty sz (.slice da dn dc)) 117)).alloc (.cells #[.int .u8 0, .int .u8 0, nV] 93)).cell? ⟨w.heap.size, 0, Option.none⟩ = some (.int .u8 1) := cell_of_row _ _ 0 _ _ _ (on_blk_mul h1.right)
  have c1 : ((w.alloc (.cells (rqC 1 ty sz (.slice da dn dc)) 117)).alloc (.cells #[.int .u8 0, .int .u8 0, nV] 93)).cell? ⟨w.heap.size, 1, Option.none⟩ = some (vb ty) := cell_of_row _ _ 1 _ _ _ (on_blk_mul h1.right)
  have c2 : ((w.alloc (.cells (rqC 1 ty sz (.slice da dn dc)) 117)).alloc (.cells #[.int .u8 0, .int .u8 0, nV] 93)).cell? ⟨w.heap.size, 2, Option.none⟩ = some (.int .u32 (sz : Nat)) := cell_of_row _ _ 2 _ _ _ (on_blk_mul h1.right)
  rw [show ∀ A B C D : SP, A * (B * (C * D)) = C * (A * (B * D)) from fun A B C D => by ac_rfl] at h1
  clear h
  have Q1 := hide (on_blk_mul h1.right.right)
  have hC := hide hC0
  have hone : (rsC 1 r (.slice Option.none 0 0)).all (·.oneCell') = true := by simp [Value.oneCell', vb]
  clear hC0
  go_enter Tryz.func78, Tryz.ntmps78
  go_wp2_with fail
  generalize ((w.alloc (.cells (rqC 1 ty sz (.slice da dn dc)) 117)).alloc (.cells #[.int .u8 0, .int .u8 0, nV] 93)) = w1 at *
  generalize hg : w.heap.size + 1 = g at *
  generalize w.heap.size = gq at *
  have H1 := hide h1
  clear h1 hg c1 c2
  refine Multi2.wp_region_multi [7, 9] [] [9] [isV (.pointer (some ⟨gq, 0, Option.none⟩)), isV (.int .u8 1), isV (.pointer (some ⟨m, 0, Option.none⟩)), isV (.pointer (some ⟨gq, 1, Option.none⟩)), isV (vb ty), isV (.pointer (some ⟨gq, 2, Option.none⟩)), isV (.int .u32 (sz : Nat)), isV (vb r), isV (.agg (rsC 1 r (.slice Option.none 0 0))), (fun _ _ => True)]
    (by kernel_rfl) (by kernel_rfl) (by kernel_rfl) ⟨rfl, trivial⟩ (fun f sv X => ((blk g (.cells (if f 9 = true then (rsC 1 r (.slice Option.none 0 0)) else #[.int .u8 0, .int .u8 0, nV]) 93 (0, 0)) * (blk gq (.cells (rqC 1 ty sz (.slice da dn dc)) 117 (0, 0)) * (blk m (.cells (if f 7 = true then M else mK q) 127 (0, 0)) * F))).on X ∧ Str w1 X)) (fun _ => ⟨by
      rw [if_neg (by decide), if_neg (by decide), show ∀ A B C D : SP, A * (B * (C * D)) = C * (A * (B * D)) from fun A B C D => by ac_rfl]
      exact SP.on.drew H1.out, Str.drew (Str.refl w1)⟩) (fun f s a b h st => ⟨h.1.below st, h.2.trans (Str.below st)⟩) (fun f g2 s2 t X h h9 hI => by
      have e7 := h 7 rfl
      have e9 := h 9 rfl
      show ((blk g (.cells (if g2 9 = true then (rsC 1 r (.slice Option.none 0 0)) else #[.int .u8 0, .int .u8 0, nV]) 93 (0, 0)) * (blk gq (.cells (rqC 1 ty sz (.slice da dn dc)) 117 (0, 0)) * (blk m (.cells (if g2 7 = true then M else mK q) 127 (0, 0)) * F))).on X ∧ Str w1 X)
      rw [← e7, ← e9]
      exact hI) ?keep ?todo ?rest (by decide) (by decide)
  case keep => exact ⟨Keep.isV _, Keep.isV _, Keep.isV _, Keep.isV _, Keep.isV _, Keep.isV _, Keep.isV _, Keep.isV _, Keep.isV _, fun _ _ _ h _ => h, trivial⟩
  case todo =>
    refine ⟨?_, ?_, ?_, ?_, ?_, ?_, ?_, ?_, ?_, ?_, trivial⟩
    · intro f hf0 hw hn ev X hT hb hk hf
      have e0 : ev (.tmp 3) = .pointer (some ⟨gq, 0, Option.none⟩) := by have h9 := hk.1; rw [if_pos (by kernel_rfl)] at h9; exact h9
      exact OpOk.run (v := .pointer (some ⟨gq, 0, Option.none⟩)) (W' := X) (by simp [execOp, e0, huq, hb.1, go_sem]) (Multi2.ended_stay rfl rfl (Stay.refl _))
    · intro f hf0 hw hn ev X hT hb hk hf
      have e0 : ev (.tmp 67) = .pointer (some ⟨gq, 0, Option.none⟩) := hf.1
      have cW : X.cell? ⟨gq, 0, Option.none⟩ = some (.int .u8 1) := cell_of_row X gq 0 _ _ _ (on_blk_mul hT.1.right)
      exact OpOk.run (v := .int .u8 1) (W' := X) (by simp [execOp, e0, cW, go_sem]) (Multi2.ended_stay rfl rfl (Stay.refl _))
    · intro f hf0 hw hn ev X hT hb hk hf
      have e0 : ev (.tmp 0) = .pointer (some ⟨m, 0, Option.none⟩) := by have h9 := hk.1; rw [if_pos (by kernel_rfl)] at h9; exact h9
      exact OpOk.move rfl e0 (Multi2.ended_stay rfl rfl (Stay.refl _))
    · intro f hf0 hw hn ev X hT hb hk hf
      have e0 : ev (.tmp 3) = .pointer (some ⟨gq, 0, Option.none⟩) := by have h9 := hk.1; rw [if_pos (by kernel_rfl)] at h9; exact h9
      exact OpOk.run (v := .pointer (some ⟨gq, 1, Option.none⟩)) (W' := X) (by simp [execOp, e0, huq, hb.1, go_sem]) (Multi2.ended_stay rfl rfl (Stay.refl _))
    · intro f hf0 hw hn ev X hT hb hk hf
      have e0 : ev (.tmp 70) = .pointer (some ⟨gq, 1, Option.none⟩) := hf.1
      have cW : X.cell? ⟨gq, 1, Option.none⟩ = some (vb ty) := cell_of_row X gq 1 _ _ _ (on_blk_mul hT.1.right)
      exact OpOk.run (v := vb ty) (W' := X) (by simp [execOp, e0, cW, go_sem]) (Multi2.ended_stay rfl rfl (Stay.refl _))
    · intro f hf0 hw hn ev X hT hb hk hf
      have e0 : ev (.tmp 3) = .pointer (some ⟨gq, 0, Option.none⟩) := by have h9 := hk.1; rw [if_pos (by kernel_rfl)] at h9; exact h9
      exact OpOk.run (v := .pointer (some ⟨gq, 2, Option.none⟩)) (W' := X) (by simp [execOp, e0, huq, hb.1, go_sem]) (Multi2.ended_stay rfl rfl (Stay.refl _))
    · intro f hf0 hw hn ev X hT hb hk hf
      have e0 : ev (.tmp 72) = .pointer (some ⟨gq, 2, Option.none⟩) := hf.1
      have cW : X.cell? ⟨gq, 2, Option.none⟩ = some (.int .u32 (sz : Nat)) := cell_of_row X gq 2 _ _ _ (on_blk_mul hT.1.right)
      exact OpOk.run (v := .int .u32 (sz : Nat)) (W' := X) (by simp [execOp, e0, cW, go_sem]) (Multi2.ended_stay rfl rfl (Stay.refl _))
    · intro f hf0 hw hn ev X hT hb hk hf
      have e0 : ev (.tmp 69) = .pointer (some ⟨m, 0, Option.none⟩) := hf.1
      have e1 : ev (.tmp 71) = vb ty := hf.2.1
      have e2 : ev (.tmp 73) = .int .u32 (sz : Nat) := hf.2.2.1
      have f9 : f 9 = false := hn 9 (by kernel_rfl)
      have hX := hT.1
      rw [hf0, f9, if_neg (by decide), if_neg (by decide), show ∀ A B C D : SP, A * (B * (C * D)) = C * (A * (B * D)) from fun A B C D => by ac_rfl] at hX
      refine OpOk.enters (f := 87) (args := #[.pointer (some ⟨m, 0, Option.none⟩), vb ty, .int .u32 (sz : Nat)]) (W' := X) (by simp [execOp, resolve, invoke, e0, e1, e2, hb.1, hb.2.1, hb.2.2, go_sem]) ((hC.out.2 _ X hX).mono ?_)
      rintro e Y ⟨rfl, h1, h2⟩
      rw [← show ∀ A B C D : SP, A * (B * (C * D)) = C * (A * (B * D)) from fun A B C D => by ac_rfl] at h1
      exact ⟨_, rfl, Multi2.ended_turn rfl rfl ⟨by
          show (blk g (.cells (if f 9 = true then (rsC 1 r (.slice Option.none 0 0)) else #[.int .u8 0, .int .u8 0, nV]) 93 (0, 0)) * (blk gq (.cells (rqC 1 ty sz (.slice da dn dc)) 117 (0, 0)) * (blk m (.cells (if true = true then M else mK q) 127 (0, 0)) * F))).on Y
          rw [f9, if_neg (by decide), if_pos rfl]
          exact h1, hT.2.trans h2⟩ (Multi2.free_keep (by
                intro P hP
                simp only [List.mem_cons, List.not_mem_nil, or_false] at hP
                rcases hP with rfl | rfl | rfl | rfl | rfl | rfl | rfl | rfl | rfl | rfl <;> exact fun _ _ _ h => h) _ _)⟩
    · intro f hf0 hw hn ev X hT hb hk hf
      have e0 : ev (.tmp 68) = .int .u8 1 := hf.1
      have e1 : ev (.tmp 74) = vb r := hf.2.1
      refine OpOk.enters (f := 76) (args := #[.int .u8 1, vb r, .slice Option.none 0 0]) (W' := X) (by simp [execOp, resolve, invoke, e0, e1, hb.1, hb.2.1, hb.2.2, go_sem]) ((oanswer_any 1 r Option.none 0 0 X).mono ?_)
      rintro e Y ⟨rfl, h2⟩
      exact ⟨_, rfl, Multi2.ended_stay rfl rfl h2⟩
    · intro f hf0 hw hn ev X hT hb hk hf
      have e0 : ev (.tmp 4) = .pointer (some ⟨g, 0, Option.none⟩) := by have h9 := hk.1; rw [if_pos (by kernel_rfl)] at h9; exact h9
      have e1 : ev (.tmp 75) = .agg (rsC 1 r (.slice Option.none 0 0)) := hf.1
      have f7 : f 7 = true := hw 7 (by kernel_rfl)
      have hX := hT.1
      rw [hf0, f7, if_neg (by decide), if_pos rfl] at hX
      refine OpOk.store_agg _ _ _ rfl g (rsC 1 r (.slice Option.none 0 0)) e0 e1 _ #[.int .u8 0, .int .u8 0, nV] hX hs rfl hone (fun h3 => ?_)
      exact Multi2.ended_turn rfl trivial ⟨by
          show (blk g (.cells (if true = true then (rsC 1 r (.slice Option.none 0 0)) else #[.int .u8 0, .int .u8 0, nV]) 93 (0, 0)) * (blk gq (.cells (rqC 1 ty sz (.slice da dn dc)) 117 (0, 0)) * (blk m (.cells (if f 7 = true then M else mK q) 127 (0, 0)) * F))).on _
          rw [f7, if_pos rfl, if_pos rfl]
          exact h3, hT.2.setRow _ _⟩ (Multi2.free_keep (by
                intro P hP
                simp only [List.mem_cons, List.not_mem_nil, or_false] at hP
                rcases hP with rfl | rfl | rfl | rfl | rfl | rfl | rfl | rfl | rfl | rfl <;> exact fun _ _ _ h => h) _ _)
  case rest =>
    intro X sv hI
    rintro _ ⟨-, rfl⟩ _ ⟨-, rfl⟩ _ ⟨-, rfl⟩ _ ⟨-, rfl⟩ _ ⟨-, rfl⟩ _ ⟨-, rfl⟩ _ ⟨-, rfl⟩ _ ⟨-, rfl⟩ _ ⟨-, rfl⟩ _ -
    have hI : ((blk g (.cells (if true = true then (rsC 1 r (.slice Option.none 0 0)) else #[.int .u8 0, .int .u8 0, nV]) 93 (0, 0)) * (blk gq (.cells (rqC 1 ty sz (.slice da dn dc)) 117 (0, 0)) * (blk m (.cells (if true = true then M else mK q) 127 (0, 0)) * F))).on X ∧ Str w1 X) := hI
    have h2 := hI.1
    rw [if_pos rfl, if_pos rfl] at h2
    have g8 := hide (on_blk_mul h2)
    rw [show ∀ A B C D : SP, A * (B * (C * D)) = C * (B * (A * D)) from fun A B C D => by ac_rfl] at h2
    have H9 := hide (own_nil 5 1 h2)
    have S9 := hide (S1.out.trans hI.2)
    clear hI h2 H1 S1
    go_wp2
    refine Rest.done ?_
    go_wp2_with fail
    refine bodyPost_ret (v := .agg (rsC 1 r (.slice Option.none 0 0))) (results_cell_row Tryz.results78 _ _ g _ (rsC 1 r (.slice Option.none 0 0)) (0, 0) _ rfl g8.out hu rfl hs) rfl ?_
    exact ⟨1, r, _, [], M, rfl, hC.out.1, by decide, (SP.le.mul (SP.le.refl _) (SP.le.mul (SP.le.refl _) ((SP.le_right _ _).trans (SP.le_right _ _)))).on H9.out, S9.out⟩

/-- respond, whatever the request, but Write -/
def RsAny (m q : Nat) (op ty : UInt8) (sz : Nat) : Prop := ∀ (da : Option Addr) (dn dc : Nat) (F : SP) (w : World), (blk m (.cells (mK q) 127 (0, 0)) * F).on w → Calls Tryz.prog 78 #[.pointer (some ⟨m, 0, Option.none⟩), .agg (rqC op ty sz (.slice da dn dc))] w (AnEnd m F w)
theorem resp_any (m q : Nat) (op ty : UInt8) (sz : Nat) (hsz : sz < 4294967296) (hop : op = 0 ∨ op = 1 ∨ op = 2 ∨ op = 3 ∨ op = 4 ∨ op = 6 ∨ op = 7 ∨ op = 9 ∨ op = 12) : RsAny m q op ty sz := by
  intro da dn dc F w h
  rcases hop with rfl | rfl | rfl | rfl | rfl | rfl | rfl | rfl | rfl
  · exact oresp_0 m q ty sz da dn dc F w h
  · by_cases h1 : ty = 1
    · subst h1
      by_cases hb : sz = 0 ∨ 128 < sz
      · exact oresp_1 m q 1 sz da dn dc 4 _ (create_bad m q sz hsz hb) F w h
      · exact oresp_1 m q 1 sz da dn dc 1 _ (create_ok m q sz (by omega) (by omega)) F w h
    · by_cases h2 : ty = 2
      · subst h2
        exact oresp_1 m q 2 sz da dn dc 8 _ (create_data m q sz) F w h
      · exact oresp_1 m q ty sz da dn dc 7 _ (create_no m q sz ty h1 h2) F w h
  · exact oresp_2 m q ty sz da dn dc F w h
  · exact oresp_3 m q ty sz da dn dc F w h
  · exact oresp_4 m q ty sz da dn dc F w h
  · by_cases h1 : ty = 1
    · subst h1
      exact oresp_6c m q sz da dn dc F w h
    · by_cases h2 : ty = 2
      · subst h2
        exact oresp_6d m q sz da dn dc F w h
      · exact oresp_6n m q ty sz da dn dc h1 h2 F w h
  · exact oresp_7 m q ty sz da dn dc F w h
  · exact oresp_9 m q ty sz da dn dc F w h
  · exact oresp_12 m q ty sz da dn dc F w h

set_option maxRecDepth 100000 in
set_option maxHeartbeats 16000000 in
theorem ask_write (m q : Nat) (ty : UInt8) (sz : Nat) (hsz : sz < 4294967296) (da : Option Addr) (dn dc : Nat) (F : SP) (w : World) (h : (blk m (.cells (mK q) 127 (0, 0)) * F).on w) :
    Calls Tryz.prog 67 #[.pointer (some ⟨m, 0, Option.none⟩), .agg (rqC 8 ty sz (.slice da dn dc))] w (AsEnd m F w) := by
  have hu := Tryz.underlying93
  have huq := Tryz.underlying117
  have hz := zr_hz
  have hs : (Tryz.prog.info? 93).map (·.size) = some 3 := by kernel_rfl
  have hsq : (Tryz.prog.info? 117).map (·.size) = some 4 := by kernel_rfl
  have h1 := (h.alloc (.cells (rqC 8 ty sz (.slice da dn dc)) 117)).alloc (.cells #[.int .u8 0, .int .u8 0, nV] 93)
  rw [World.size_alloc] at h1
  have S1 := hide (((Str.refl w).alloc (.cells (rqC 8 ty sz (.slice da dn dc)) 117)).alloc (.cells #[.int .u8 0, .int .u8 0, nV] 93))
  have hgq := on_blk_mul h1.right
  have c0 : ((w.alloc (.cells (rqC 8 ty sz (.slice da dn dc)) 117)).alloc (.cells #[.int .u8 0, .int .u8 0, nV] 93)).cell? ⟨w.heap.size, 0, Option.none⟩ = some (.int .u8 8) := cell_of_row _ _ 0 _ _ _ hgq
  have c3 : ((w.alloc (.cells (rqC 8 ty sz (.slice da dn dc)) 117)).alloc (.cells #[.int .u8 0, .int .u8 0, nV] 93)).cell? ⟨w.heap.size, 3, Option.none⟩ = some (.slice da dn dc) := cell_of_row _ _ 3 _ _ _ hgq
  rw [show ∀ A B C D : SP, A * (B * (C * D)) = C * (A * (B * D)) from fun A B C D => by ac_rfl] at h1
  clear h
  have hC := hide (write_no m q da dn dc _ ((w.alloc (.cells (rqC 8 ty sz (.slice da dn dc)) 117)).alloc (.cells #[.int .u8 0, .int .u8 0, nV] 93)) h1)
  clear h1 hgq
  go_enter Tryz.func67, Tryz.ntmps67
  go_wp2_with fail
  generalize ((w.alloc (.cells (rqC 8 ty sz (.slice da dn dc)) 117)).alloc (.cells #[.int .u8 0, .int .u8 0, nV] 93)) = w2 at *
  generalize hg : w.heap.size + 1 = g at *
  have Hg := hide hg
  clear hg
  refine hC.out.mono ?_
  clear hC
  rintro e w8 ⟨op8, res8, v8, body8, M8, ok8, rfl, hM8, hl8, h8, hs8⟩
  have S8 := hide (S1.out.trans hs8)
  obtain ⟨oa8, oc8, rfl, _, _, _, _⟩ := own_value h8
  rw [show ∀ A B C D : SP, A * (B * (C * D)) = C * (A * (B * D)) from fun A B C D => by ac_rfl] at h8
  have H8 := hide h8
  have g8 := hide (on_blk_mul h8)
  have HM8 := hide hM8
  have Hl8 := hide hl8
  have hone8 : (rsC op8 res8 (.slice oa8 body8.length oc8)).all (·.oneCell') = true := by simp [Value.oneCell', vb]
  have H9 := hide (H8.out.setRow (rsC op8 res8 (.slice oa8 body8.length oc8)))
  have S9 := hide (S8.out.setRow g (rsC op8 res8 (.slice oa8 body8.length oc8)))
  clear hs8 h8 hM8 hl8
  go_wp2_with (refine wpList_store_row rfl _ _ _ rfl g (rsC op8 res8 (.slice oa8 body8.length oc8)) rfl rfl _ _ g8.out hs rfl hone8 ?_)
  refine bodyPost_ret (v := .tuple #[.agg (rsC op8 res8 (.slice oa8 body8.length oc8)), .bool ok8]) (results_cell_row_tmp Tryz.results67 _ _ g _ (rsC op8 res8 (.slice oa8 body8.length oc8)) (0, 0) _ rfl (setRow_heap_same _ _ _ _ _ _ g8.out) hu rfl hs (.bool ok8) rfl) rfl ?_
  exact ⟨op8, res8, _, body8, M8, ok8, rfl, HM8.out, Hl8.out, (SP.le.mul (SP.le.refl _) (SP.le.mul (SP.le.refl _) (SP.le_right _ _))).on H9.out.right, S9.out⟩

set_option maxRecDepth 100000 in
set_option maxHeartbeats 16000000 in
theorem ask_resp (m q : Nat) (op : UInt8) (hop : op = 0 ∨ op = 1 ∨ op = 2 ∨ op = 3 ∨ op = 4 ∨ op = 6 ∨ op = 7 ∨ op = 9 ∨ op = 12) (ty : UInt8) (sz : Nat) (hsz : sz < 4294967296) (da : Option Addr) (dn dc : Nat) (F : SP) (w : World) (h : (blk m (.cells (mK q) 127 (0, 0)) * F).on w) :
    Calls Tryz.prog 67 #[.pointer (some ⟨m, 0, Option.none⟩), .agg (rqC op ty sz (.slice da dn dc))] w (AsEnd m F w) := by
  have hu := Tryz.underlying93
  have huq := Tryz.underlying117
  have hz := zr_hz
  have hs : (Tryz.prog.info? 93).map (·.size) = some 3 := by kernel_rfl
  have hsq : (Tryz.prog.info? 117).map (·.size) = some 4 := by kernel_rfl
  have h1 := (h.alloc (.cells (rqC op ty sz (.slice da dn dc)) 117)).alloc (.cells #[.int .u8 0, .int .u8 0, nV] 93)
  rw [World.size_alloc] at h1
  have S1 := hide (((Str.refl w).alloc (.cells (rqC op ty sz (.slice da dn dc)) 117)).alloc (.cells #[.int .u8 0, .int .u8 0, nV] 93))
  have hgq := on_blk_mul h1.right
  have c0 : ((w.alloc (.cells (rqC op ty sz (.slice da dn dc)) 117)).alloc (.cells #[.int .u8 0, .int .u8 0, nV] 93)).cell? ⟨w.heap.size, 0, Option.none⟩ = some (vb op) := cell_of_row _ _ 0 _ _ _ hgq
  have c3 : ((w.alloc (.cells (rqC op ty sz (.slice da dn dc)) 117)).alloc (.cells #[.int .u8 0, .int .u8 0, nV] 93)).cell? ⟨w.heap.size, 3, Option.none⟩ = some (.slice da dn dc) := cell_of_row _ _ 3 _ _ _ hgq
  rw [show ∀ A B C D : SP, A * (B * (C * D)) = C * (A * (B * D)) from fun A B C D => by ac_rfl] at h1
  clear h
  have hC := hide (resp_any m q op ty sz hsz hop da dn dc _ ((w.alloc (.cells (rqC op ty sz (.slice da dn dc)) 117)).alloc (.cells #[.int .u8 0, .int .u8 0, nV] 93)) h1)
  have n8 : (((op.toNat : Nat) : Int) == 8) = false := by simpa using bne_u8 (c := op) (d := 8) (by rintro rfl; revert hop; decide)
  have Gq := hide hgq
  clear h1 hgq hop hsz
  go_enter Tryz.func67, Tryz.ntmps67
  go_wp2_with (refine wpList_load_row rfl _ _ rfl w.heap.size rfl _ (rqC op ty sz (.slice da dn dc)) _ _ Gq.out huq rfl hsq ?_)
  generalize ((w.alloc (.cells (rqC op ty sz (.slice da dn dc)) 117)).alloc (.cells #[.int .u8 0, .int .u8 0, nV] 93)) = w2 at *
  generalize hg : w.heap.size + 1 = g at *
  have Hg := hide hg
  clear hg
  refine hC.out.mono ?_
  clear hC
  rintro e w8 ⟨op8, res8, v8, body8, M8, rfl, hM8, hl8, h8, hs8⟩
  have S8 := hide (S1.out.trans hs8)
  obtain ⟨oa8, oc8, rfl, _, _, _, _⟩ := own_value h8
  rw [show ∀ A B C D : SP, A * (B * (C * D)) = C * (A * (B * D)) from fun A B C D => by ac_rfl] at h8
  have H8 := hide h8
  have g8 := hide (on_blk_mul h8)
  have HM8 := hide hM8
  have Hl8 := hide hl8
  have hone8 : (rsC op8 res8 (.slice oa8 body8.length oc8)).all (·.oneCell') = true := by simp [Value.oneCell', vb]
  have H9 := hide (H8.out.setRow (rsC op8 res8 (.slice oa8 body8.length oc8)))
  have S9 := hide (S8.out.setRow g (rsC op8 res8 (.slice oa8 body8.length oc8)))
  clear hs8 h8 hM8 hl8
  go_wp2_with (refine wpList_store_row rfl _ _ _ rfl g (rsC op8 res8 (.slice oa8 body8.length oc8)) rfl rfl _ _ g8.out hs rfl hone8 ?_)
  refine bodyPost_ret (v := .tuple #[.agg (rsC op8 res8 (.slice oa8 body8.length oc8)), .bool true]) (results_cell_row_tmp Tryz.results67 _ _ g _ (rsC op8 res8 (.slice oa8 body8.length oc8)) (0, 0) _ rfl (setRow_heap_same _ _ _ _ _ _ g8.out) hu rfl hs (.bool true) rfl) rfl ?_
  exact ⟨op8, res8, _, body8, M8, true, rfl, HM8.out, Hl8.out, (SP.le.mul (SP.le.refl _) (SP.le.mul (SP.le.refl _) (SP.le_right _ _))).on H9.out.right, S9.out⟩
end Go.Proofs.YtgmpmlneoiagdaaGreatDoor

/- device: what any text is answered with, on a fresh machine. -/
namespace Go.Proofs.YtgmpmlneoiagdaaGreatDoor
open Go.ChangeShapes Go.WideShapes Go.ChangeAt Go.RowKit
set_option linter.unusedVariables false
set_option linter.unusedSimpArgs false

/-- how a device answers -/
def DrEnd (d m : Nat) (D : Array Value) (F : SP) (w : World) (e : Ending) (w' : World) : Prop := ∃ (op res : UInt8) (v : Value) (body : List UInt8) (M : Array Value) (ok : Bool), e = .returned (.tuple #[.agg (rsC op res v), .bool ok]) ∧ M[47]? = some nV ∧ body.length ≤ 20 ∧ (ownR v body * (blk d (.cells D 67 (0, 0)) * (blk m (.cells M 127 (0, 0)) * F))).on w' ∧ Str w w'
/-- while a machine is asked, and what it said is taken apart -/
def AsI (g gQ d m q : Nat) (Rq D : Array Value) (F : SP) (f5 f6 f7 f8 f9 : Bool) (v5 v6 v7 v9 : Value) (X : World) : Prop :=
  if f5 = true then ∃ (op res : UInt8) (oa : Option Addr) (oc : Nat) (body : List UInt8) (M : Array Value) (ok : Bool), v5 = .tuple #[.agg (rsC op res (.slice oa body.length oc)), .bool ok] ∧ (f6 = true → v6 = .agg (rsC op res (.slice oa body.length oc))) ∧ (f7 = true → v7 = .bool ok) ∧ (f9 = true → v9 = .bool ok) ∧ M[47]? = some nV ∧ body.length ≤ 20 ∧ (blk g (.cells (if f8 = true then (rsC op res (.slice oa body.length oc)) else #[.int .u8 0, .int .u8 0, nV]) 93 (0, 0)) * (blk gQ (.cells Rq 117 (0, 0)) * (blk d (.cells D 67 (0, 0)) * (blk m (.cells M 127 (0, 0)) * (ownR (.slice oa body.length oc) body * F))))).on X
  else (blk g (.cells #[.int .u8 0, .int .u8 0, nV] 93 (0, 0)) * (blk gQ (.cells Rq 117 (0, 0)) * (blk d (.cells D 67 (0, 0)) * (blk m (.cells (mK q) 127 (0, 0)) * F)))).on X
variable {g gQ d m q : Nat} {Rq D : Array Value} {F : SP} {f5 f6 f7 f8 f9 : Bool} {v5 v6 v7 v9 : Value} {X : World}
theorem AsI.open (h : AsI g gQ d m q Rq D F f5 f6 f7 f8 f9 v5 v6 v7 v9 X) (hf : f5 = true) : ∃ (op res : UInt8) (oa : Option Addr) (oc : Nat) (body : List UInt8) (M : Array Value) (ok : Bool), v5 = .tuple #[.agg (rsC op res (.slice oa body.length oc)), .bool ok] ∧ (f6 = true → v6 = .agg (rsC op res (.slice oa body.length oc))) ∧ (f7 = true → v7 = .bool ok) ∧ (f9 = true → v9 = .bool ok) ∧ M[47]? = some nV ∧ body.length ≤ 20 ∧ (blk g (.cells (if f8 = true then (rsC op res (.slice oa body.length oc)) else #[.int .u8 0, .int .u8 0, nV]) 93 (0, 0)) * (blk gQ (.cells Rq 117 (0, 0)) * (blk d (.cells D 67 (0, 0)) * (blk m (.cells M 127 (0, 0)) * (ownR (.slice oa body.length oc) body * F))))).on X := by
  unfold AsI at h
  rw [if_pos hf] at h
  exact h
theorem AsI.shut (h : ∃ (op res : UInt8) (oa : Option Addr) (oc : Nat) (body : List UInt8) (M : Array Value) (ok : Bool), v5 = .tuple #[.agg (rsC op res (.slice oa body.length oc)), .bool ok] ∧ (f6 = true → v6 = .agg (rsC op res (.slice oa body.length oc))) ∧ (f7 = true → v7 = .bool ok) ∧ (f9 = true → v9 = .bool ok) ∧ M[47]? = some nV ∧ body.length ≤ 20 ∧ (blk g (.cells (if f8 = true then (rsC op res (.slice oa body.length oc)) else #[.int .u8 0, .int .u8 0, nV]) 93 (0, 0)) * (blk gQ (.cells Rq 117 (0, 0)) * (blk d (.cells D 67 (0, 0)) * (blk m (.cells M 127 (0, 0)) * (ownR (.slice oa body.length oc) body * F))))).on X) : AsI g gQ d m q Rq D F true f6 f7 f8 f9 v5 v6 v7 v9 X := by
  unfold AsI
  rw [if_pos rfl]
  exact h
theorem AsI.fresh (h : AsI g gQ d m q Rq D F false f6 f7 f8 f9 v5 v6 v7 v9 X) : (blk m (.cells (mK q) 127 (0, 0)) * (blk g (.cells #[.int .u8 0, .int .u8 0, nV] 93 (0, 0)) * (blk gQ (.cells Rq 117 (0, 0)) * (blk d (.cells D 67 (0, 0)) * F)))).on X := by
  unfold AsI at h
  rw [if_neg (by decide)] at h
  rw [show ∀ A B C E G : SP, C * (A * (B * (E * G))) = A * (B * (E * (C * G))) from fun A B C E G => by ac_rfl]
  exact h
theorem AsI.called {op res : UInt8} {oa : Option Addr} {oc : Nat} {body : List UInt8} {M : Array Value} {ok : Bool} (hM : M[47]? = some nV) (hl : body.length ≤ 20) (h : (ownR (.slice oa body.length oc) body * (blk m (.cells M 127 (0, 0)) * (blk g (.cells #[.int .u8 0, .int .u8 0, nV] 93 (0, 0)) * (blk gQ (.cells Rq 117 (0, 0)) * (blk d (.cells D 67 (0, 0)) * F))))).on X) :
    AsI g gQ d m q Rq D F true false false false false (.tuple #[.agg (rsC op res (.slice oa body.length oc)), .bool ok]) v6 v7 v9 X := by
  refine AsI.shut ⟨op, res, oa, oc, body, M, ok, rfl, fun h => (nomatch h), fun h => (nomatch h), fun h => (nomatch h), hM, hl, ?_⟩
  rw [if_neg (by decide)]
  rw [show ∀ A B C E O G : SP, A * (B * (E * (C * (O * G)))) = O * (C * (A * (B * (E * G)))) from fun A B C E O G => by ac_rfl]
  exact h
theorem AsI.start (h : (blk gQ (.cells Rq 117 (0, 0)) * (blk g (.cells #[.int .u8 0, .int .u8 0, nV] 93 (0, 0)) * (blk d (.cells D 67 (0, 0)) * (blk m (.cells (mK q) 127 (0, 0)) * F)))).on X) : AsI g gQ d m q Rq D F false false false false false v5 v6 v7 v9 X := by
  unfold AsI
  rw [if_neg (by decide), SP.mul_left_comm]
  exact h
theorem AsI.dev (h : AsI g gQ d m q Rq D F f5 f6 f7 f8 f9 v5 v6 v7 v9 X) : X.heap[d]? = some (.cells D 67 (0, 0)) := by
  cases f5 with
  | true =>
    obtain ⟨op, res, oa, oc, body, M, ok, e5, h6, h7, h9, hM, hl, hX⟩ := h.open rfl
    exact on_blk_mul hX.right.right
  | false => exact on_blk_mul h.fresh.right.right.right
theorem AsI.req (h : AsI g gQ d m q Rq D F f5 f6 f7 f8 f9 v5 v6 v7 v9 X) : X.heap[gQ]? = some (.cells Rq 117 (0, 0)) := by
  cases f5 with
  | true =>
    obtain ⟨op, res, oa, oc, body, M, ok, e5, h6, h7, h9, hM, hl, hX⟩ := h.open rfl
    exact on_blk_mul hX.right
  | false => exact on_blk_mul h.fresh.right.right
theorem AsI.below {Y : World} (h : AsI g gQ d m q Rq D F f5 f6 f7 f8 f9 v5 v6 v7 v9 X) (hb : Below X.heap.size X Y) : AsI g gQ d m q Rq D F f5 f6 f7 f8 f9 v5 v6 v7 v9 Y := by
  unfold AsI at h ⊢
  split
  · rename_i hf
    rw [if_pos hf] at h
    obtain ⟨op, res, oa, oc, body, M, ok, e5, h6, h7, h9, hM, hl, hX⟩ := h
    exact ⟨op, res, oa, oc, body, M, ok, e5, h6, h7, h9, hM, hl, hX.below hb⟩
  · rename_i hf
    rw [if_neg hf] at h
    exact h.below hb
theorem AsI.depend {u5 u6 u7 u9 : Value} (h : AsI g gQ d m q Rq D F f5 f6 f7 f8 f9 v5 v6 v7 v9 X) (i5 : f5 = true → v5 = u5) (i6 : f6 = true → v6 = u6) (i7 : f7 = true → v7 = u7) (i9 : f9 = true → v9 = u9) : AsI g gQ d m q Rq D F f5 f6 f7 f8 f9 u5 u6 u7 u9 X := by
  unfold AsI at h ⊢
  split
  · rename_i hf
    rw [if_pos hf] at h
    obtain ⟨op, res, oa, oc, body, M, ok, e5, h6, h7, h9, hM, hl, hX⟩ := h
    exact ⟨op, res, oa, oc, body, M, ok, (i5 hf).symm.trans e5, fun k => (i6 k).symm.trans (h6 k), fun k => (i7 k).symm.trans (h7 k), fun k => (i9 k).symm.trans (h9 k), hM, hl, hX⟩
  · rename_i hf
    rw [if_neg hf] at h
    exact h

set_option maxRecDepth 100000 in
set_option maxHeartbeats 16000000 in
theorem drespond_ok (d m q : Nat) (D : Array Value) (hD : D[40]? = some (.pointer (some ⟨m, 0, Option.none⟩))) (F : SP) (w : World) (h : (blk d (.cells D 67 (0, 0)) * (blk m (.cells (mK q) 127 (0, 0)) * F)).on w) (v : Value) (l : List UInt8) (hv : IsBytes w v l) (hl : l.length ≤ 100000) (he : reqErr l = 0) (hask : ∀ (da : Option Addr) (dn dc : Nat) (G : SP) (X : World), (blk m (.cells (mK q) 127 (0, 0)) * G).on X → Calls Tryz.prog 67 #[.pointer (some ⟨m, 0, Option.none⟩), .agg (reqCells (reqGot l) (.slice da dn dc))] X (AsEnd m G X)) :
    Calls Tryz.prog 51 #[.pointer (some ⟨d, 0, Option.none⟩), v] w (DrEnd d m D F w) := by
  have hud := Tryz.underlying67
  have huq := Tryz.underlying117
  have hur := Tryz.underlying93
  have hz := zr_hz
  have hzq : ∀ w, (zeroValue 117).run Tryz.prog w = .ok (.agg zq) w := fun w => by kernel_rfl
  have hsq2 : (Tryz.prog.info? 117).map (·.size) = some 4 := by kernel_rfl
  have hs : (Tryz.prog.info? 93).map (·.size) = some 3 := by kernel_rfl
  have H0 := hide (h.alloc (.cells #[.int .u8 0, .int .u8 0, nV] 93))
  have S0 := hide ((Str.refl w).alloc (.cells #[.int .u8 0, .int .u8 0, nV] 93))
  have HD := hide hD
  have HB0 := hide (show Below w.heap.size w (w.alloc (.cells #[.int .u8 0, .int .u8 0, nV] 93)) from (Below.refl _ _).alloc (Nat.le_refl _) _)
  have hE := oparse_any v l (w.alloc (.cells #[.int .u8 0, .int .u8 0, nV] 93)) (hv.below HB0.out) (by omega)
  unfold ReqEnd at hE
  rw [he, show ((0 : Nat) : Int) = 0 from rfl] at hE
  have HK := hide hask
  clear hask he
  generalize reqGot l = Q at *
  obtain ⟨va, vc, rfl, hvc, hvm, _, _⟩ := hv
  unfold maxLen at hvm
  have HE := hide hE
  clear h hE hD
  go_enter Tryz.func51, Tryz.ntmps51
  go_wp2_with fail
  generalize w.alloc (.cells #[.int .u8 0, .int .u8 0, nV] 93) = w0 at *
  refine HE.out.mono ?_
  clear HE
  rintro e w1 ⟨dv, rfl, ho, hs1⟩
  have h1 := on_all_to ho H0.out
  obtain ⟨da, dc, rfl, _, _, _, _⟩ := own_value ho
  have h2 := h1.right.alloc (.cells zq 117)
  have gA := hide (on_blk_mul h2)
  have h3 := h2.setRow (reqCells Q (.slice da Q.data.length dc))
  have S2 := hide (((S0.out.trans hs1).alloc (.cells zq 117)).setRow w1.heap.size (reqCells Q (.slice da Q.data.length dc)))
  have HB2 := hide (show Below w.heap.size w ((w1.alloc (.cells zq 117)).setRow w1.heap.size (reqCells Q (.slice da Q.data.length dc))) from below_setRow ((HB0.out.trans ((all_below ho.right hs1).mono HB0.out.size)).alloc (Nat.le_trans HB0.out.size hs1.size) _) (Nat.le_trans HB0.out.size hs1.size) _)
  have Hsq : Hid ((Tryz.prog.info? 117).map (·.size) = some (reqCells Q (.slice da Q.data.length dc)).size) := hide hsq2
  have Hone : Hid ((reqCells Q (.slice da Q.data.length dc)).all (·.oneCell') = true) := hide (by simp [Value.oneCell', vb])
  have H3 := hide h3
  have hstop : ∀ p : Prop, Hid p → p := fun _ h => h.out
  clear ho hs1 h1 h2 h3 S0 H0 HB0
  go_wp2_with (refine wpList_store_row rfl _ _ _ rfl w1.heap.size (reqCells Q (.slice da Q.data.length dc)) rfl rfl _ _ gA.out Hsq.out rfl Hone.out ?_; refine hstop _ ?_)
  refine hide ?_
  clear hstop gA
  generalize (w1.alloc (.cells zq 117)).setRow w1.heap.size (reqCells Q (.slice da Q.data.length dc)) = w2 at *
  generalize w1.heap.size = gQ at *
  generalize hgR : w.heap.size = g at *
  have HgE := hide hgR
  clear hgR
  have HA := hide (HK.out da Q.data.length dc)
  generalize reqCells Q (.slice da Q.data.length dc) = Rq at *
  go_wp2_with fail
  refine Multi2.wp_region_multi [5, 6, 7, 8, 9] [5, 6, 7, 9] [8] [isV (.pointer (some ⟨d, 0, Option.none⟩)), isV (.pointer (some ⟨d, 0, Option.none⟩)), isV (.pointer (some ⟨d, 40, Option.none⟩)), isV (.pointer (some ⟨m, 0, Option.none⟩)), isV (.agg Rq), (fun _ _ => True), (fun _ _ => True), (fun _ _ => True), (fun _ _ => True), (fun _ _ => True)]
    (by kernel_rfl) (by kernel_rfl) (by kernel_rfl) ⟨rfl, trivial⟩ (fun f sv X => (AsI g gQ d m q Rq D F (f 5) (f 6) (f 7) (f 8) (f 9) (sv 5) (sv 6) (sv 7) (sv 9) X ∧ Str w2 X)) (fun _ => ⟨AsI.start (SP.on.drew H3.out), Str.drew (Str.refl w2)⟩) (fun f s a b h st => ⟨h.1.below st, h.2.trans (Str.below st)⟩) (fun f g2 s2 t X h h9 hI => by
      have e5 := h 5 rfl
      have e6 := h 6 rfl
      have e7 := h 7 rfl
      have e8 := h 8 rfl
      have e9 := h 9 rfl
      have i5 := h9 5 rfl
      have i6 := h9 6 rfl
      have i7 := h9 7 rfl
      have i9 := h9 9 rfl
      show (AsI g gQ d m q Rq D F (g2 5) (g2 6) (g2 7) (g2 8) (g2 9) (t 5) (t 6) (t 7) (t 9) X ∧ Str w2 X)
      rw [← e5, ← e6, ← e7, ← e8, ← e9]
      exact ⟨AsI.depend hI.1 i5 i6 i7 i9, hI.2⟩) ?keep ?todo ?rest (by decide) (by decide)
  case keep => exact ⟨Keep.isV _, Keep.isV _, Keep.isV _, Keep.isV _, Keep.isV _, fun _ _ _ h _ => h, fun _ _ _ h _ => h, fun _ _ _ h _ => h, fun _ _ _ h _ => h, fun _ _ _ h _ => h, trivial⟩
  case todo =>
    refine ⟨?_, ?_, ?_, ?_, ?_, ?_, ?_, ?_, ?_, ?_, trivial⟩
    · intro f hf0 hw hn ev X hT hb hk hf
      have e0 : ev (.tmp 0) = .pointer (some ⟨d, 0, Option.none⟩) := by have h9 := hk.1; rw [if_pos (by kernel_rfl)] at h9; exact h9
      exact OpOk.move rfl e0 (Multi2.ended_stay rfl rfl (Stay.refl _))
    · intro f hf0 hw hn ev X hT hb hk hf
      have e0 : ev (.tmp 16) = .pointer (some ⟨d, 0, Option.none⟩) := hf.1
      exact OpOk.run (v := .pointer (some ⟨d, 0, Option.none⟩)) (W' := X) (by simp [execOp, e0, hb.1, go_sem]) (Multi2.ended_stay rfl rfl (Stay.refl _))
    · intro f hf0 hw hn ev X hT hb hk hf
      have e0 : ev (.tmp 17) = .pointer (some ⟨d, 0, Option.none⟩) := hf.1
      exact OpOk.run (v := .pointer (some ⟨d, 40, Option.none⟩)) (W' := X) (by simp [execOp, e0, hud, go_sem]) (Multi2.ended_stay rfl rfl (Stay.refl _))
    · intro f hf0 hw hn ev X hT hb hk hf
      have e0 : ev (.tmp 18) = .pointer (some ⟨d, 40, Option.none⟩) := hf.1
      have cW : X.cell? ⟨d, 40, Option.none⟩ = some (.pointer (some ⟨m, 0, Option.none⟩)) := by rw [cell_of_row _ _ 40 _ _ _ (AsI.dev hT.1)]; exact HD.out
      exact OpOk.run (v := .pointer (some ⟨m, 0, Option.none⟩)) (W' := X) (by simp [execOp, e0, cW, go_sem]) (Multi2.ended_stay rfl rfl (Stay.refl _))
    · intro f hf0 hw hn ev X hT hb hk hf
      have e0 : ev (.tmp 6) = .pointer (some ⟨gQ, 0, Option.none⟩) := by have h9 := hk.1; rw [if_pos (by kernel_rfl)] at h9; exact h9
      exact OpOk.load_row _ _ rfl gQ e0 _ Rq (0, 0) _ (AsI.req hT.1) huq rfl Hsq.out (Multi2.ended_stay rfl rfl (Stay.refl _))
    · intro f hf0 hw hn ev X hT hb hk hf
      have e0 : ev (.tmp 19) = .pointer (some ⟨m, 0, Option.none⟩) := hf.1
      have e1 : ev (.tmp 20) = .agg Rq := hf.2.1
      have f6 : f 6 = false := hn 6 (by kernel_rfl)
      have f7 : f 7 = false := hn 7 (by kernel_rfl)
      have f8 : f 8 = false := hn 8 (by kernel_rfl)
      have f9 : f 9 = false := hn 9 (by kernel_rfl)
      have hX : AsI g gQ d m q Rq D F (f 5) (f 6) (f 7) (f 8) (f 9) _ _ _ _ X := hT.1
      rw [hf0] at hX
      refine OpOk.enters (f := 67) (args := #[.pointer (some ⟨m, 0, Option.none⟩), .agg Rq]) (W' := X) (by simp [execOp, resolve, invoke, e0, e1, hb.1, hb.2.1, hb.2.2, go_sem]) ((HA.out _ X (AsI.fresh hX)).mono ?_)
      rintro e Y ⟨op, res, x, body, M, ok, rfl, hM, hl, h1, h2⟩
      obtain ⟨oa, oc, rfl, _, _, _, _⟩ := own_value h1
      exact ⟨_, rfl, Multi2.ended_turn rfl trivial ⟨by
          show AsI g gQ d m q Rq D F true (f 6) (f 7) (f 8) (f 9) _ _ _ _ Y
          rw [f6, f7, f8, f9]
          exact AsI.called hM hl h1, hT.2.trans h2⟩ (Multi2.free_keep (by
                intro P hP
                simp only [List.mem_cons, List.not_mem_nil, or_false] at hP
                rcases hP with rfl | rfl | rfl | rfl | rfl | rfl | rfl | rfl | rfl | rfl <;> exact fun _ _ _ h => h) _ _)⟩
    · intro f hf0 hw hn ev X hT hb hk hf
      obtain ⟨op, res, oa, oc, body, M, ok, e5, h6, h7, h9, hM, hl, hX⟩ := (show AsI g gQ d m q Rq D F (f 5) (f 6) (f 7) (f 8) (f 9) (ev (.tmp 21)) (ev (.tmp 22)) (ev (.tmp 23)) (ev (.tmp 5)) X from hT.1).open (hw 5 (by kernel_rfl))
      exact OpOk.run (v := .agg (rsC op res (.slice oa body.length oc))) (W' := X) (by simp [execOp, e5, go_sem]) (Multi2.ended_turn rfl trivial ⟨by
          show AsI g gQ d m q Rq D F (f 5) true (f 7) (f 8) (f 9) _ _ _ _ X
          rw [hw 5 (by kernel_rfl)]
          exact AsI.shut ⟨op, res, oa, oc, body, M, ok, e5, fun _ => rfl, h7, h9, hM, hl, hX⟩, hT.2⟩ (Multi2.free_keep (by
                intro P hP
                simp only [List.mem_cons, List.not_mem_nil, or_false] at hP
                rcases hP with rfl | rfl | rfl | rfl | rfl | rfl | rfl | rfl | rfl | rfl <;> exact fun _ _ _ h => h) _ _))
    · intro f hf0 hw hn ev X hT hb hk hf
      obtain ⟨op, res, oa, oc, body, M, ok, e5, h6, h7, h9, hM, hl, hX⟩ := (show AsI g gQ d m q Rq D F (f 5) (f 6) (f 7) (f 8) (f 9) (ev (.tmp 21)) (ev (.tmp 22)) (ev (.tmp 23)) (ev (.tmp 5)) X from hT.1).open (hw 5 (by kernel_rfl))
      exact OpOk.run (v := .bool ok) (W' := X) (by simp [execOp, e5, go_sem]) (Multi2.ended_turn rfl trivial ⟨by
          show AsI g gQ d m q Rq D F (f 5) (f 6) true (f 8) (f 9) _ _ _ _ X
          rw [hw 5 (by kernel_rfl)]
          exact AsI.shut ⟨op, res, oa, oc, body, M, ok, e5, h6, fun _ => rfl, h9, hM, hl, hX⟩, hT.2⟩ (Multi2.free_keep (by
                intro P hP
                simp only [List.mem_cons, List.not_mem_nil, or_false] at hP
                rcases hP with rfl | rfl | rfl | rfl | rfl | rfl | rfl | rfl | rfl | rfl <;> exact fun _ _ _ h => h) _ _))
    · intro f hf0 hw hn ev X hT hb hk hf
      obtain ⟨op, res, oa, oc, body, M, ok, e5, h6, h7, h9, hM, hl, hX⟩ := (show AsI g gQ d m q Rq D F (f 5) (f 6) (f 7) (f 8) (f 9) (ev (.tmp 21)) (ev (.tmp 22)) (ev (.tmp 23)) (ev (.tmp 5)) X from hT.1).open (hw 5 (by kernel_rfl))
      have e0 : ev (.tmp 4) = .pointer (some ⟨g, 0, Option.none⟩) := by have h9 := hk.1; rw [if_pos (by kernel_rfl)] at h9; exact h9
      have e1 : ev (.tmp 22) = .agg (rsC op res (.slice oa body.length oc)) := h6 (hw 6 (by kernel_rfl))
      rw [hf0, if_neg (by decide)] at hX
      refine OpOk.store_agg _ _ _ rfl g (rsC op res (.slice oa body.length oc)) e0 e1 _ #[.int .u8 0, .int .u8 0, nV] hX hs rfl (by simp [Value.oneCell', vb]) (fun h3 => ?_)
      exact Multi2.ended_turn rfl trivial ⟨by
          show AsI g gQ d m q Rq D F (f 5) (f 6) (f 7) true (f 9) _ _ _ _ _
          rw [hw 5 (by kernel_rfl)]
          exact AsI.shut ⟨op, res, oa, oc, body, M, ok, e5, h6, h7, h9, hM, hl, h3⟩, hT.2.setRow _ _⟩ (Multi2.free_keep (by
                intro P hP
                simp only [List.mem_cons, List.not_mem_nil, or_false] at hP
                rcases hP with rfl | rfl | rfl | rfl | rfl | rfl | rfl | rfl | rfl | rfl <;> exact fun _ _ _ h => h) _ _)
    · intro f hf0 hw hn ev X hT hb hk hf
      obtain ⟨op, res, oa, oc, body, M, ok, e5, h6, h7, h9, hM, hl, hX⟩ := (show AsI g gQ d m q Rq D F (f 5) (f 6) (f 7) (f 8) (f 9) (ev (.tmp 21)) (ev (.tmp 22)) (ev (.tmp 23)) (ev (.tmp 5)) X from hT.1).open (hw 5 (by kernel_rfl))
      have e1 : ev (.tmp 23) = .bool ok := h7 (hw 7 (by kernel_rfl))
      exact OpOk.assign rfl e1 (Multi2.ended_turn rfl trivial ⟨by
          show AsI g gQ d m q Rq D F (f 5) (f 6) (f 7) (f 8) true _ _ _ _ X
          rw [hw 5 (by kernel_rfl)]
          exact AsI.shut ⟨op, res, oa, oc, body, M, ok, e5, h6, h7, fun _ => rfl, hM, hl, hX⟩, hT.2⟩ (Multi2.free_keep (by
                intro P hP
                simp only [List.mem_cons, List.not_mem_nil, or_false] at hP
                rcases hP with rfl | rfl | rfl | rfl | rfl | rfl | rfl | rfl | rfl | rfl <;> exact fun _ _ _ h => h) _ _))
  case rest =>
    intro X sv hI
    rintro _ ⟨-, rfl⟩ _ ⟨-, rfl⟩ _ ⟨-, rfl⟩ _ ⟨-, rfl⟩ _ ⟨-, rfl⟩ x5 ⟨h5, -⟩ x6 ⟨h6, -⟩ x7 ⟨h7, -⟩ _ - x9 ⟨h9, -⟩
    obtain ⟨op, res, oa, oc, body, M, ok, e5, k6, k7, k9, hM, hl, hX⟩ := (show AsI g gQ d m q Rq D F true true true true true (sv 5) (sv 6) (sv 7) (sv 9) X from hI.1).open rfl
    have e9 := (h9 rfl).trans (k9 rfl)
    subst e9
    rw [if_pos rfl] at hX
    have g8 := hide (on_blk_mul hX)
    have H9 := hide hX.right.right
    have S9 := hide (S2.out.trans hI.2)
    have HM := hide hM
    have Hl := hide hl
    clear hI hX h5 h6 h7 h9 e5 k6 k7 k9 hM hl H3
    go_wp2
    refine Rest.done ?_
    go_wp2_with fail
    refine bodyPost_ret (v := .tuple #[.agg (rsC op res (.slice oa body.length oc)), .bool ok]) (results_cell_row_tmp Tryz.results51 _ _ g _ (rsC op res (.slice oa body.length oc)) (0, 0) _ rfl g8.out hur rfl hs (.bool ok) rfl) rfl ?_
    exact ⟨op, res, _, body, M, ok, rfl, HM.out, Hl.out, by
      rw [show ∀ A B C E : SP, E * (A * (B * C)) = A * (B * (E * C)) from fun A B C E => by ac_rfl]
      exact H9.out, S9.out⟩

set_option maxRecDepth 100000 in
set_option maxHeartbeats 16000000 in
theorem drespond_code (d m q : Nat) (D : Array Value) (hD : D[40]? = some (.pointer (some ⟨m, 0, Option.none⟩))) (F : SP) (w : World) (h : (blk d (.cells D 67 (0, 0)) * (blk m (.cells (mK q) 127 (0, 0)) * F)).on w) (v : Value) (l : List UInt8) (hv : IsBytes w v l) (hl : l.length ≤ 100000) (c : UInt8) (tl : List UInt8) (hlc : l = c :: tl) (he : reqErr l = 19) :
    Calls Tryz.prog 51 #[.pointer (some ⟨d, 0, Option.none⟩), v] w (DrEnd d m D F w) := by
  have hud := Tryz.underlying67
  have huq := Tryz.underlying117
  have hur := Tryz.underlying93
  have hz := zr_hz
  have hzq : ∀ w, (zeroValue 117).run Tryz.prog w = .ok (.agg zq) w := fun w => by kernel_rfl
  have hsq2 : (Tryz.prog.info? 117).map (·.size) = some 4 := by kernel_rfl
  have hs : (Tryz.prog.info? 93).map (·.size) = some 3 := by kernel_rfl
  have H0 := hide (h.alloc (.cells #[.int .u8 0, .int .u8 0, nV] 93))
  have S0 := hide ((Str.refl w).alloc (.cells #[.int .u8 0, .int .u8 0, nV] 93))
  have HD := hide hD
  have HB0 := hide (show Below w.heap.size w (w.alloc (.cells #[.int .u8 0, .int .u8 0, nV] 93)) from (Below.refl _ _).alloc (Nat.le_refl _) _)
  have hE := oparse_any v l (w.alloc (.cells #[.int .u8 0, .int .u8 0, nV] 93)) (hv.below HB0.out) (by omega)
  unfold ReqEnd at hE
  rw [he, show ((19 : Nat) : Int) = 19 from rfl] at hE
  clear he
  subst hlc
  generalize hQ : reqGot (c :: tl) = Q at *
  clear hQ
  have hv0 := hv
  obtain ⟨va, vc, rfl, hvc, hvm, hlay, _⟩ := hv
  unfold maxLen at hvm
  obtain ⟨bg, bo, rfl, cb⟩ := hlay 0 (vb c) rfl
  rw [Nat.add_zero] at cb
  have Cb := hide cb
  clear hlay hv0 cb
  have HE := hide hE
  clear h hE hD
  go_enter Tryz.func51, Tryz.ntmps51
  go_wp2_with fail
  generalize w.alloc (.cells #[.int .u8 0, .int .u8 0, nV] 93) = w0 at *
  refine HE.out.mono ?_
  clear HE
  rintro e w1 ⟨dv, rfl, ho, hs1⟩
  have h1 := on_all_to ho H0.out
  obtain ⟨da, dc, rfl, _, _, _, _⟩ := own_value ho
  have h2 := h1.right.alloc (.cells zq 117)
  have gA := hide (on_blk_mul h2)
  have h3 := h2.setRow (reqCells Q (.slice da Q.data.length dc))
  have S2 := hide (((S0.out.trans hs1).alloc (.cells zq 117)).setRow w1.heap.size (reqCells Q (.slice da Q.data.length dc)))
  have HB2 := hide (show Below w.heap.size w ((w1.alloc (.cells zq 117)).setRow w1.heap.size (reqCells Q (.slice da Q.data.length dc))) from below_setRow ((HB0.out.trans ((all_below ho.right hs1).mono HB0.out.size)).alloc (Nat.le_trans HB0.out.size hs1.size) _) (Nat.le_trans HB0.out.size hs1.size) _)
  have Hsq : Hid ((Tryz.prog.info? 117).map (·.size) = some (reqCells Q (.slice da Q.data.length dc)).size) := hide hsq2
  have Hone : Hid ((reqCells Q (.slice da Q.data.length dc)).all (·.oneCell') = true) := hide (by simp [Value.oneCell', vb])
  have H3 := hide h3
  have hstop : ∀ p : Prop, Hid p → p := fun _ h => h.out
  clear ho hs1 h1 h2 h3 S0 H0 HB0
  go_wp2_with (refine wpList_store_row rfl _ _ _ rfl w1.heap.size (reqCells Q (.slice da Q.data.length dc)) rfl rfl _ _ gA.out Hsq.out rfl Hone.out ?_; refine hstop _ ?_)
  refine hide ?_
  clear hstop gA
  generalize (w1.alloc (.cells zq 117)).setRow w1.heap.size (reqCells Q (.slice da Q.data.length dc)) = w2 at *
  generalize w1.heap.size = gQ at *
  generalize hgR : w.heap.size = g at *
  have HgE := hide hgR
  clear hgR
  have cB : w2.cell? ⟨bg, bo, Option.none⟩ = some (vb c) := by have e9 := HgE.out; subst e9; exact (HB2.out.cell (p := ⟨bg, bo, Option.none⟩) (World.block_lt_of_cell? _ _ Cb.out)).trans Cb.out
  have H4 := H3.out.right
  have g4 := hide (on_blk_mul H4)
  have H9 := hide (H4.right)
  have hbB : ∀ X, (Instr.build 93 #[(0, vb c), (1, .int .u8 2)]).run Tryz.prog X = .ok (.agg (rsC c 2 (.slice Option.none 0 0))) X := fun X => by kernel_rfl
  have hone : (rsC c 2 (.slice Option.none 0 0)).all (·.oneCell') = true := by simp [Value.oneCell', vb]
  have H10 := hide (H4.setRow (rsC c 2 (.slice Option.none 0 0)))
  have S10 := hide (S2.out.setRow g (rsC c 2 (.slice Option.none 0 0)))
  clear H3 H4 S2 HB2
  go_wp2_with (first
    | (refine wpList_build_two rfl 93 0 1 _ _ rfl (vb c) (.int .u8 2) rfl rfl (rsC c 2 (.slice Option.none 0 0)) (hbB _) ?_)
    | (refine wpList_store_row rfl _ _ _ rfl g (rsC c 2 (.slice Option.none 0 0)) rfl rfl _ _ g4.out hs rfl hone ?_))
  refine bodyPost_ret (v := .tuple #[.agg (rsC c 2 (.slice Option.none 0 0)), .bool true]) (results_cell_row_tmp Tryz.results51 _ _ g _ (rsC c 2 (.slice Option.none 0 0)) (0, 0) _ rfl (setRow_heap_same _ _ _ _ _ _ g4.out) hur rfl hs (.bool true) rfl) rfl ?_
  exact ⟨c, 2, _, [], mK q, true, rfl, rfl, by decide, own_nil 5 1 H10.out.right, S10.out⟩

set_option maxRecDepth 100000 in
set_option maxHeartbeats 16000000 in
theorem drespond_form (d m q : Nat) (D : Array Value) (hD : D[40]? = some (.pointer (some ⟨m, 0, Option.none⟩))) (F : SP) (w : World) (h : (blk d (.cells D 67 (0, 0)) * (blk m (.cells (mK q) 127 (0, 0)) * F)).on w) (v : Value) (l : List UInt8) (hv : IsBytes w v l) (hl : l.length ≤ 100000) (c : UInt8) (tl : List UInt8) (hlc : l = c :: tl) (he0 : reqErr l ≠ 0) (he9 : reqErr l ≠ 19) :
    Calls Tryz.prog 51 #[.pointer (some ⟨d, 0, Option.none⟩), v] w (DrEnd d m D F w) := by
  have hud := Tryz.underlying67
  have huq := Tryz.underlying117
  have hur := Tryz.underlying93
  have hz := zr_hz
  have hzq : ∀ w, (zeroValue 117).run Tryz.prog w = .ok (.agg zq) w := fun w => by kernel_rfl
  have hsq2 : (Tryz.prog.info? 117).map (·.size) = some 4 := by kernel_rfl
  have hs : (Tryz.prog.info? 93).map (·.size) = some 3 := by kernel_rfl
  have H0 := hide (h.alloc (.cells #[.int .u8 0, .int .u8 0, nV] 93))
  have S0 := hide ((Str.refl w).alloc (.cells #[.int .u8 0, .int .u8 0, nV] 93))
  have HD := hide hD
  have HB0 := hide (show Below w.heap.size w (w.alloc (.cells #[.int .u8 0, .int .u8 0, nV] 93)) from (Below.refl _ _).alloc (Nat.le_refl _) _)
  have hE := oparse_any v l (w.alloc (.cells #[.int .u8 0, .int .u8 0, nV] 93)) (hv.below HB0.out) (by omega)
  unfold ReqEnd at hE
  have n0 : (((reqErr l : Nat) : Int) == 0) = false := by simp; omega
  have n9 : (((reqErr l : Nat) : Int) == 19) = false := by simp; omega
  subst hlc
  generalize hEr : reqErr (c :: tl) = er at *
  generalize hQ : reqGot (c :: tl) = Q at *
  clear hEr hQ he0 he9
  have hv0 := hv
  obtain ⟨va, vc, rfl, hvc, hvm, hlay, _⟩ := hv
  unfold maxLen at hvm
  obtain ⟨bg, bo, rfl, cb⟩ := hlay 0 (vb c) rfl
  rw [Nat.add_zero] at cb
  have Cb := hide cb
  clear hlay hv0 cb
  have HE := hide hE
  clear h hE hD
  go_enter Tryz.func51, Tryz.ntmps51
  go_wp2_with fail
  generalize w.alloc (.cells #[.int .u8 0, .int .u8 0, nV] 93) = w0 at *
  refine HE.out.mono ?_
  clear HE
  rintro e w1 ⟨dv, rfl, ho, hs1⟩
  have h1 := on_all_to ho H0.out
  obtain ⟨da, dc, rfl, _, _, _, _⟩ := own_value ho
  have h2 := h1.right.alloc (.cells zq 117)
  have gA := hide (on_blk_mul h2)
  have h3 := h2.setRow (reqCells Q (.slice da Q.data.length dc))
  have S2 := hide (((S0.out.trans hs1).alloc (.cells zq 117)).setRow w1.heap.size (reqCells Q (.slice da Q.data.length dc)))
  have HB2 := hide (show Below w.heap.size w ((w1.alloc (.cells zq 117)).setRow w1.heap.size (reqCells Q (.slice da Q.data.length dc))) from below_setRow ((HB0.out.trans ((all_below ho.right hs1).mono HB0.out.size)).alloc (Nat.le_trans HB0.out.size hs1.size) _) (Nat.le_trans HB0.out.size hs1.size) _)
  have Hsq : Hid ((Tryz.prog.info? 117).map (·.size) = some (reqCells Q (.slice da Q.data.length dc)).size) := hide hsq2
  have Hone : Hid ((reqCells Q (.slice da Q.data.length dc)).all (·.oneCell') = true) := hide (by simp [Value.oneCell', vb])
  have H3 := hide h3
  have hstop : ∀ p : Prop, Hid p → p := fun _ h => h.out
  clear ho hs1 h1 h2 h3 S0 H0 HB0
  go_wp2_with (refine wpList_store_row rfl _ _ _ rfl w1.heap.size (reqCells Q (.slice da Q.data.length dc)) rfl rfl _ _ gA.out Hsq.out rfl Hone.out ?_; refine hstop _ ?_)
  refine hide ?_
  clear hstop gA
  generalize (w1.alloc (.cells zq 117)).setRow w1.heap.size (reqCells Q (.slice da Q.data.length dc)) = w2 at *
  generalize w1.heap.size = gQ at *
  generalize hgR : w.heap.size = g at *
  have HgE := hide hgR
  clear hgR
  have cB : w2.cell? ⟨bg, bo, Option.none⟩ = some (vb c) := by have e9 := HgE.out; subst e9; exact (HB2.out.cell (p := ⟨bg, bo, Option.none⟩) (World.block_lt_of_cell? _ _ Cb.out)).trans Cb.out
  have H4 := H3.out.right
  have g4 := hide (on_blk_mul H4)
  have H9 := hide (H4.right)
  have hbB : ∀ X, (Instr.build 93 #[(0, vb c), (1, .int .u8 3)]).run Tryz.prog X = .ok (.agg (rsC c 3 (.slice Option.none 0 0))) X := fun X => by kernel_rfl
  have hone : (rsC c 3 (.slice Option.none 0 0)).all (·.oneCell') = true := by simp [Value.oneCell', vb]
  have H10 := hide (H4.setRow (rsC c 3 (.slice Option.none 0 0)))
  have S10 := hide (S2.out.setRow g (rsC c 3 (.slice Option.none 0 0)))
  clear H3 H4 S2 HB2
  go_wp2_with (first
    | (refine wpList_build_two rfl 93 0 1 _ _ rfl (vb c) (.int .u8 3) rfl rfl (rsC c 3 (.slice Option.none 0 0)) (hbB _) ?_)
    | (refine wpList_store_row rfl _ _ _ rfl g (rsC c 3 (.slice Option.none 0 0)) rfl rfl _ _ g4.out hs rfl hone ?_))
  refine bodyPost_ret (v := .tuple #[.agg (rsC c 3 (.slice Option.none 0 0)), .bool true]) (results_cell_row_tmp Tryz.results51 _ _ g _ (rsC c 3 (.slice Option.none 0 0)) (0, 0) _ rfl (setRow_heap_same _ _ _ _ _ _ g4.out) hur rfl hs (.bool true) rfl) rfl ?_
  exact ⟨c, 3, _, [], mK q, true, rfl, rfl, by decide, own_nil 5 1 H10.out.right, S10.out⟩
end Go.Proofs.YtgmpmlneoiagdaaGreatDoor
