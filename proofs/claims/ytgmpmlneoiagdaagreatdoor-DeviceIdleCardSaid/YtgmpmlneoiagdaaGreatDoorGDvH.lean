/- LAID TOGETHER: Dv24, Dv25, Dv26. -/
import Derived.Test.YtgmpmlneoiagdaaGreatDoorGDvG
import Derived.Test.YtgmpmlneoiagdaaGreatDoorGTr
/- object: what fits; an object is created, on a fresh machine. -/
namespace Go.Proofs.YtgmpmlneoiagdaaGreatDoor
open Go.ChangeShapes Go.WideShapes Go.ChangeAt Go.RowKit
set_option linter.unusedVariables false
set_option linter.unusedSimpArgs false

set_option maxRecDepth 100000 in
set_option maxHeartbeats 16000000 in
theorem cfits_bad (n : Nat) (hn : n < 4294967296) (hb : n = 0 ∨ 128 < n) (w : World) : Calls Tryz.prog 101 #[.int .u32 (n : Nat)] w fun e w' => e = .returned (.int .u8 4) ∧ w = w' := by
  by_cases h0 : n = 0
  · subst h0
    clear hn hb
    go_enter Tryz.func101, Tryz.ntmps101
    go_wp2_with fail
    go_ret
    exact ⟨rfl, rfl⟩
  · have e1 : (((n : Nat) : Int) == 0) = false := by simp; omega
    have e2 : decide ((128 : Int) < (n : Int)) = true := by simp; omega
    have e3 : (128 : Int) < (n : Int) := by omega
    clear hn hb h0
    go_enter Tryz.func101, Tryz.ntmps101
    go_wp2_with fail
    go_ret
    exact ⟨rfl, rfl⟩
set_option maxRecDepth 100000 in
set_option maxHeartbeats 16000000 in
theorem cfits_ok (n : Nat) (h1 : 1 ≤ n) (h2 : n ≤ 128) (w : World) : Calls Tryz.prog 101 #[.int .u32 (n : Nat)] w fun e w' => e = .returned (.int .u8 1) ∧ w = w' := by
  have e1 : (((n : Nat) : Int) == 0) = false := by simp; omega
  have e2 : decide ((128 : Int) < (n : Int)) = false := by simp; omega
  have e3 : ¬ (128 : Int) < (n : Int) := by omega
  clear h1 h2
  go_enter Tryz.func101, Tryz.ntmps101
  go_wp2_with fail
  go_ret
  exact ⟨rfl, rfl⟩
set_option maxRecDepth 100000 in
set_option maxHeartbeats 16000000 in
theorem dfits_no (m q n : Nat) (F : SP) (w : World) (h : (blk m (.cells (mK q) 127 (0, 0)) * F).on w) : Calls Tryz.prog 102 #[.pointer (some ⟨m, 0, Option.none⟩), .int .u32 (n : Nat)] w fun e w' => e = .returned (.int .u8 8) ∧ w = w' := by
  have hE := executed_m m (mK q) rfl F w h
  clear h
  go_enter Tryz.func102, Tryz.ntmps102
  go_wp2_with fail
  refine hE.mono ?_
  clear hE
  rintro e _ ⟨rfl, rfl⟩
  go_wp2_with fail
  go_ret
  exact ⟨rfl, rfl⟩

theorem bld_p0 (w : World) : (Instr.build 124 #[]).run Tryz.prog w = .ok (.agg #[.bool false, .int .i64 0, .slice Option.none 0 0]) w := by kernel_rfl
theorem bld_p2 (n : Int) (w : World) : (Instr.build 124 #[(0, .bool true), (1, .int .i64 n)]).run Tryz.prog w = .ok (.agg #[.bool true, .int .i64 n, .slice Option.none 0 0]) w := by kernel_rfl
/-- the machine's cells behind Create of a packet -/
def mCr (q n : Nat) : Array Value := (((mK q).toList.take 41 ++ [Value.bool true, Value.int .i64 (n : Nat), Value.slice Option.none 0 0] ++ (mK q).toList.drop 44).toArray).setIfInBounds 37 (.int .u8 1)
/-- create ends with a result, and the machine's cells are these -/
def CrIs (m q : Nat) (ty : UInt8) (n : Nat) (r : UInt8) (M : Array Value) : Prop := M[47]? = some nV ∧ ∀ (F : SP) (w : World), (blk m (.cells (mK q) 127 (0, 0)) * F).on w → Calls Tryz.prog 87 #[.pointer (some ⟨m, 0, Option.none⟩), vb ty, .int .u32 (n : Nat)] w fun e w' => e = .returned (vb r) ∧ (blk m (.cells M 127 (0, 0)) * F).on w' ∧ Str w w'
set_option maxRecDepth 100000 in
set_option maxHeartbeats 16000000 in
theorem create_bad (m q n : Nat) (hn : n < 4294967296) (hb : n = 0 ∨ 128 < n) : CrIs m q 1 n 4 (mK q) := by
  refine ⟨rfl, fun F w h => ?_⟩
  have hE := cfits_bad n hn hb w
  have H := hide h
  clear h hn hb
  generalize mK q = M at *
  go_enter Tryz.func87, Tryz.ntmps87
  go_wp2_with fail
  refine hE.mono ?_
  clear hE
  rintro e _ ⟨rfl, rfl⟩
  go_wp2_with fail
  go_ret
  exact ⟨rfl, H.out, Str.refl _⟩
set_option maxRecDepth 100000 in
set_option maxHeartbeats 16000000 in
theorem create_data (m q n : Nat) : CrIs m q 2 n 8 (mK q) := by
  refine ⟨rfl, fun F w h => ?_⟩
  have hE := dfits_no m q n F w h
  have H := hide h
  clear h
  generalize mK q = M at *
  go_enter Tryz.func87, Tryz.ntmps87
  go_wp2_with fail
  refine hE.mono ?_
  clear hE
  rintro e _ ⟨rfl, rfl⟩
  go_wp2_with fail
  go_ret
  exact ⟨rfl, H.out, Str.refl _⟩
set_option maxRecDepth 100000 in
set_option maxHeartbeats 16000000 in
theorem create_no (m q n : Nat) (ty : UInt8) (h1 : ty ≠ 1) (h2 : ty ≠ 2) : CrIs m q ty n 7 (mK q) := by
  refine ⟨rfl, fun F w h => ?_⟩
  have n1 : (((ty.toNat : Nat) : Int) == 1) = false := by simpa using bne_u8 h1
  have n2 : (((ty.toNat : Nat) : Int) == 2) = false := by simpa using bne_u8 h2
  have H := hide h
  clear h
  generalize mK q = M at *
  go_enter Tryz.func87, Tryz.ntmps87
  go_wp2_with fail
  go_ret
  exact ⟨rfl, H.out, Str.refl _⟩
set_option maxRecDepth 100000 in
set_option maxHeartbeats 16000000 in
theorem create_ok (m q n : Nat) (hn1 : 1 ≤ n) (hn2 : n ≤ 128) : CrIs m q 1 n 1 (mCr q n) := by
  refine ⟨rfl, fun F w h => ?_⟩
  have hum := Tryz.underlying127
  have hE := cfits_ok n hn1 hn2 w
  have H0 := hide h
  have ew : wrap64 ((n : Nat) : Int) = (n : Int) := IntWalk.wrap64_in _ (by omega)
  have hi : (Tryz.prog.info? 124).map (·.size) = some 3 := by kernel_rfl
  have Hn0 := hide (show (mK q).toList.take 44 ++ (#[.bool false, .int .i64 0, .slice Option.none 0 0] : Array Value).toList ++ (mK q).toList.drop (44 + 3) = (mK q).toList from rfl)
  have Hs := hide (show 47 ≤ (mK q).size from Nat.le_of_ble_eq_true (by kernel_rfl))
  obtain ⟨M2, hM2⟩ : ∃ M2 : Array Value, M2 = (((mK q).toList.take 41 ++ [Value.bool true, Value.int .i64 (n : Nat), Value.slice Option.none 0 0] ++ (mK q).toList.drop (41 + 3)).toArray) := ⟨_, rfl⟩
  have Hset := hide (show M2.setIfInBounds 37 (.int .u8 1) = mCr q n by rw [hM2]; rfl)
  have H37 := hide (show M2[37]? = some (.int .u8 0) by rw [hM2]; rfl)
  have Hm2 := hide (show (mK q).toList.take 41 ++ (#[Value.bool true, Value.int .i64 (n : Nat), Value.slice Option.none 0 0] : Array Value).toList ++ (mK q).toList.drop (41 + 3) = M2.toList by rw [hM2])
  clear hM2
  clear h
  generalize mCr q n = Mn at *
  generalize mK q = M at *
  go_enter Tryz.func87, Tryz.ntmps87
  go_wp2_with fail
  refine hE.mono ?_
  clear hE
  rintro e _ ⟨rfl, rfl⟩
  have hstop : ∀ p : Prop, Hid p → p := fun _ h => h.out
  go_wp2_with (first
    | (refine wpList_build_eq rfl _ _ rfl #[.bool false, .int .i64 0, .slice Option.none 0 0] (bld_p0 _) ?_)
    | (refine wpList_store_part rfl _ _ _ rfl m 44 (#[.bool false, .int .i64 0, .slice Option.none 0 0] : Array Value).toList rfl rfl 127 M H0.out hi (by have := Hs.out; simp; omega) (by simp [Value.oneCell']) M Hn0.out ?_; refine hstop _ ?_))
  refine hide ?_
  clear hstop
  intro w1 h1 hs1
  have H1 := hide h1
  have S1 := hide hs1
  clear h1 hs1 H0
  have hstop : ∀ p : Prop, Hid p → p := fun _ h => h.out
  go_wp2_with (first
    | (refine wpList_build_two rfl 124 0 1 _ _ rfl (.bool true) (.int .i64 (n : Nat)) rfl rfl #[Value.bool true, Value.int .i64 (n : Nat), Value.slice Option.none 0 0] (bld_p2 _ _) ?_)
    | (refine wpList_store_part rfl _ _ _ rfl m 41 (#[Value.bool true, Value.int .i64 (n : Nat), Value.slice Option.none 0 0] : Array Value).toList rfl rfl 127 M H1.out hi (by have := Hs.out; simp; omega) (by simp [Value.oneCell']) M2 Hm2.out ?_; refine hstop _ ?_))
  refine hide ?_
  clear hstop
  intro w2 h2 hs2
  have f37 := frozen_of_row _ m 37 _ _ (on_blk_mul h2)
  have c37 : w2.cell? ⟨m, 37, Option.none⟩ = some (.int .u8 0) := by rw [cell_of_row _ _ 37 _ _ _ (on_blk_mul h2)]; exact H37.out
  have h3 := h2.setCell (i := 37) (.int .u8 1)
  rw [Hset.out] at h3
  have H3 := hide h3
  have S3 := hide ((S1.out.trans hs2).setCell ⟨m, 37, Option.none⟩ (.int .u8 1))
  clear h2 hs2 h3 H1 S1
  go_wp2_with fail
  go_ret
  exact ⟨rfl, H3.out, S3.out⟩
end Go.Proofs.YtgmpmlneoiagdaaGreatDoor

/- object: crc, write, execute, on a fresh machine. -/
namespace Go.Proofs.YtgmpmlneoiagdaaGreatDoor
open Go.ChangeShapes Go.WideShapes Go.ChangeAt Go.RowKit
set_option linter.unusedVariables false
set_option linter.unusedSimpArgs false

set_option maxRecDepth 100000 in
set_option maxHeartbeats 16000000 in
theorem mK_part0 (q : Nat) (j : Nat) (v : Value) (h : (#[.bool false, .int .i64 0, .slice Option.none 0 0] : Array Value)[j]? = some v) : (mK q)[38 + j]? = some v := by
  match j, h with
  | 0, h => rw [← h]; rfl
  | 1, h => rw [← h]; rfl
  | 2, h => rw [← h]; rfl
  | n + 3, h => simp at h
/-- how a machine answers a request, or doesn't -/
def AsEnd (m : Nat) (F : SP) (w : World) (e : Ending) (w' : World) : Prop := ∃ (op res : UInt8) (v : Value) (body : List UInt8) (M : Array Value) (ok : Bool), e = .returned (.tuple #[.agg (rsC op res v), .bool ok]) ∧ M[47]? = some nV ∧ body.length ≤ 20 ∧ (ownR v body * (blk m (.cells M 127 (0, 0)) * F)).on w' ∧ Str w w'

set_option maxRecDepth 100000 in
set_option maxHeartbeats 16000000 in
theorem crc_no (m q : Nat) (F : SP) (w : World) (h : (blk m (.cells (mK q) 127 (0, 0)) * F).on w) :
    Calls Tryz.prog 85 #[.pointer (some ⟨m, 0, Option.none⟩)] w (AnEnd m F w) := by
  have hum := Tryz.underlying127
  have hu := Tryz.underlying93
  have hz := zr_hz
  have hs : (Tryz.prog.info? 93).map (·.size) = some 3 := by kernel_rfl
  have h0 := h.alloc (.cells #[.int .u8 0, .int .u8 0, nV] 93)
  rw [SP.mul_left_comm] at h0
  have c37 : (w.alloc (.cells #[.int .u8 0, .int .u8 0, nV] 93)).cell? ⟨m, 37, Option.none⟩ = some (.int .u8 0) := by rw [cell_of_row _ _ 37 _ _ _ (on_blk_mul h0)]; rfl
  have H0 := hide (own_nil 5 1 h0)
  have H47 : Hid ((mK q)[47]? = some nV) := hide rfl
  have S0 := hide ((Str.refl w).alloc (.cells #[.int .u8 0, .int .u8 0, nV] 93))
  clear h h0
  generalize mK q = M1 at *
  have hE := hide (oanswer_any 3 8 Option.none 0 0 (w.alloc (.cells #[.int .u8 0, .int .u8 0, nV] 93)))
  go_enter Tryz.func85, Tryz.ntmps85
  go_wp2_with fail
  generalize w.alloc (.cells #[.int .u8 0, .int .u8 0, nV] 93) = w0 at *
  generalize hg : w.heap.size = g at *
  have Hg := hide hg
  clear hg

  refine hE.out.mono ?_
  clear hE
  rintro e w8 ⟨rfl, hb⟩
  have h8 := H0.out.below hb
  rw [show ∀ A B C D : SP, A * (B * (C * D)) = C * (A * (B * D)) from fun A B C D => by ac_rfl] at h8
  have H8 := hide h8
  have g8 := hide (on_blk_mul h8)
  have S8 := hide (S0.out.trans (Str.below hb))
  clear hb h8
  have hone8 : (rsC 3 8 (.slice Option.none 0 0)).all (·.oneCell') = true := by simp [Value.oneCell', vb]
  have H9 := hide (H8.out.setRow (rsC 3 8 (.slice Option.none 0 0)))
  have S9 := hide (S8.out.setRow g (rsC 3 8 (.slice Option.none 0 0)))
  go_wp2_with (refine wpList_store_row rfl _ _ _ rfl g (rsC 3 8 (.slice Option.none 0 0)) rfl rfl _ _ g8.out hs rfl hone8 ?_)
  refine bodyPost_ret (v := .agg (rsC 3 8 (.slice Option.none 0 0))) (results_cell_row Tryz.results85 _ _ g _ (rsC 3 8 (.slice Option.none 0 0)) (0, 0) _ rfl (setRow_heap_same _ _ _ _ _ _ g8.out) hu rfl hs) rfl ?_
  exact ⟨3, 8, _, [], M1, rfl, H47.out, (by decide), (SP.le.mul (SP.le.refl _) (SP.le.mul (SP.le.refl _) (SP.le.refl _))).on H9.out.right, S9.out⟩

set_option maxRecDepth 100000 in
set_option maxHeartbeats 16000000 in
theorem execute_no (m q : Nat) (F : SP) (w : World) (h : (blk m (.cells (mK q) 127 (0, 0)) * F).on w) :
    Calls Tryz.prog 88 #[.pointer (some ⟨m, 0, Option.none⟩)] w (AnEnd m F w) := by
  have hum := Tryz.underlying127
  have hup := Tryz.underlying124
  have hua := Tryz.underlying125
  have hps : ∀ w, (sizeOf 124).run Tryz.prog w = .ok 3 w := fun w => by kernel_rfl
  have hu := Tryz.underlying93
  have hz := zr_hz
  have hzp : ∀ w, (zeroValue 124).run Tryz.prog w = .ok (.agg #[.bool false, .int .i64 0, .slice Option.none 0 0]) w := fun w => by kernel_rfl
  have hs : (Tryz.prog.info? 93).map (·.size) = some 3 := by kernel_rfl
  have hs3 : (Tryz.prog.info? 124).map (·.size) = some 3 := by kernel_rfl
  have hone : (#[.bool false, .int .i64 0, .slice Option.none 0 0] : Array Value).all (·.oneCell') = true := by simp [Value.oneCell']
  have H1 := hide (h.alloc (.cells #[.int .u8 0, .int .u8 0, nV] 93))
  have S1 := hide ((Str.refl w).alloc (.cells #[.int .u8 0, .int .u8 0, nV] 93))
  clear h
  go_enter Tryz.func88, Tryz.ntmps88
  go_wp2_with fail
  generalize w.alloc (.cells #[.int .u8 0, .int .u8 0, nV] 93) = w1 at *
  generalize hg : w.heap.size = g at *
  have Hg := hide hg
  clear hg
  refine wp_region_tail 10 [isV (.pointer (some ⟨m, 0, Option.none⟩)), isV (.pointer (some ⟨m, 0, Option.none⟩)), isV (.pointer (some ⟨m, 0, Option.none⟩)), isV (.pointer (some ⟨m, 37, Option.none⟩)), isV (.int .u8 0), isV (.pointer (some ⟨m, 0, Option.none⟩)), isV (.pointer (some ⟨m, 38, Option.none⟩)), isV (.pointer (some ⟨m, 38, Option.none⟩)), isV (.agg #[.bool false, .int .i64 0, .slice Option.none 0 0]), fun v X => ∃ g2, v = .pointer (some ⟨g2, 0, Option.none⟩) ∧ (blk g2 (.cells #[.bool false, .int .i64 0, .slice Option.none 0 0] 124 (0, 0)) * (blk g (.cells #[.int .u8 0, .int .u8 0, nV] 93 (0, 0)) * (blk m (.cells (mK q) 127 (0, 0)) * F))).on X]
    (by simp only [List.take_succ_cons, List.take_zero]; rfl) (by simp only [List.drop_succ_cons, List.drop_zero]; rfl) (by kernel_rfl) (by kernel_rfl) (by kernel_rfl) (by decide) rfl ?keep ?todo ?rest
  case keep => exact ⟨Keep.isV _, Keep.isV _, Keep.isV _, Keep.isV _, Keep.isV _, Keep.isV _, Keep.isV _, Keep.isV _, Keep.isV _, fun _ _ _ ⟨g2, h0, h2⟩ k => ⟨g2, h0, h2.below k⟩, trivial⟩
  case todo =>
    refine ⟨?_, ?_, ?_, ?_, ?_, ?_, ?_, ?_, ?_, ?_, trivial⟩
    · intro ev X hT hb hk hf
      have e0 : ev (.tmp 0) = .pointer (some ⟨m, 0, Option.none⟩) := hk.1
      exact OpOk.move rfl e0 ⟨rfl, Stay.refl _⟩
    · intro ev X hT hb hk hf
      have e0 : ev (.tmp 0) = .pointer (some ⟨m, 0, Option.none⟩) := hk.1
      exact OpOk.move rfl e0 ⟨rfl, Stay.refl _⟩
    · intro ev X hT hb hk hf
      have e0 : ev (.tmp 5) = .pointer (some ⟨m, 0, Option.none⟩) := hf.1
      exact OpOk.run (v := .pointer (some ⟨m, 0, Option.none⟩)) (W' := X) (by simp [execOp, e0, hb.1, go_sem]) ⟨rfl, Stay.refl _⟩
    · intro ev X hT hb hk hf
      have e0 : ev (.tmp 6) = .pointer (some ⟨m, 0, Option.none⟩) := hf.1
      exact OpOk.run (v := .pointer (some ⟨m, 37, Option.none⟩)) (W' := X) (by simp [execOp, e0, hum, go_sem]) ⟨rfl, Stay.refl _⟩
    · intro ev X hT hb hk hf
      have e0 : ev (.tmp 7) = .pointer (some ⟨m, 37, Option.none⟩) := hf.1
      have cW : X.cell? ⟨m, 37, Option.none⟩ = some (.int .u8 0) := by rw [cell_of_row _ _ 37 _ _ _ (on_blk_mul (H1.out.below hT).right)]; rfl
      exact OpOk.run (v := .int .u8 0) (W' := X) (by simp [execOp, e0, cW, go_sem]) ⟨rfl, Stay.refl _⟩
    · intro ev X hT hb hk hf
      have e0 : ev (.tmp 4) = .pointer (some ⟨m, 0, Option.none⟩) := hf.1
      exact OpOk.run (v := .pointer (some ⟨m, 0, Option.none⟩)) (W' := X) (by simp [execOp, e0, hb.1, go_sem]) ⟨rfl, Stay.refl _⟩
    · intro ev X hT hb hk hf
      have e0 : ev (.tmp 9) = .pointer (some ⟨m, 0, Option.none⟩) := hf.1
      exact OpOk.run (v := .pointer (some ⟨m, 38, Option.none⟩)) (W' := X) (by simp [execOp, e0, hum, go_sem]) ⟨rfl, Stay.refl _⟩
    · intro ev X hT hb hk hf
      have e0 : ev (.tmp 10) = .pointer (some ⟨m, 38, Option.none⟩) := hf.1
      have e1 : ev (.tmp 8) = .int .u8 0 := hf.2.1
      exact OpOk.run (v := .pointer (some ⟨m, 38, Option.none⟩)) (W' := X) (by simp [execOp, e0, e1, hua, hps, go_sem]) ⟨rfl, Stay.refl _⟩
    · intro ev X hT hb hk hf
      have e0 : ev (.tmp 11) = .pointer (some ⟨m, 38, Option.none⟩) := hf.1
      exact OpOk.load_part _ _ rfl m 38 e0 #[.bool false, .int .i64 0, .slice Option.none 0 0] _ (fun j v hj => by rw [cell_of_row _ _ _ _ _ _ (on_blk_mul (H1.out.below hT).right)]; exact mK_part0 q j v hj) hup rfl hs3 ⟨rfl, Stay.refl _⟩
    · intro ev X hT hb hk hf
      exact OpOk.run (v := .pointer (some ⟨X.heap.size, 0, Option.none⟩)) (W' := X.alloc (.cells #[.bool false, .int .i64 0, .slice Option.none 0 0] 124)) (by simp [execOp, hzp, go_sem]) ⟨⟨_, rfl, (H1.out.below hT).alloc _⟩, (Below.refl _ _).alloc (Nat.le_refl _) _⟩
  case rest =>
    intro X hT
    rintro _ rfl _ rfl _ rfl _ rfl _ rfl _ rfl _ rfl _ rfl _ rfl v9 ⟨g2, rfl, hX⟩
    have gA := hide (on_blk_mul hX)
    have HX := hide (hX.setRow #[.bool false, .int .i64 0, .slice Option.none 0 0])
    have S2 := hide ((S1.out.trans (Str.below hT)).setRow g2 #[.bool false, .int .i64 0, .slice Option.none 0 0])
    have hstop : ∀ p : Prop, Hid p → p := fun _ h => h.out
    clear hT hX H1 S1
    go_wp2
    refine Rest.done ?_
    go_wp2_with (refine wpList_store_row rfl _ _ _ rfl g2 #[.bool false, .int .i64 0, .slice Option.none 0 0] rfl rfl _ _ gA.out hs3 rfl hone ?_; refine hstop _ ?_)
    refine hide ?_
    clear hstop gA
    generalize X.setRow g2 #[.bool false, .int .i64 0, .slice Option.none 0 0] = w3 at *
    have c0 : w3.cell? ⟨g2, 0, Option.none⟩ = some (.bool false) := cell_of_row _ _ 0 _ _ _ (on_blk_mul HX.out)
    have h4 := HX.out.right
    rw [SP.mul_left_comm] at h4
    have H4 := hide (own_nil 5 1 h4)
    have H47 : Hid ((mK q)[47]? = some nV) := hide rfl
    clear h4
    generalize mK q = M1 at *
    have hE := hide (oanswer_any 4 8 Option.none 0 0 w3)
    go_wp2_with fail
    refine hE.out.mono ?_
    clear hE
    rintro e w8 ⟨rfl, hb⟩
    have h8 := H4.out.below hb
    rw [show ∀ A B C D : SP, A * (B * (C * D)) = C * (A * (B * D)) from fun A B C D => by ac_rfl] at h8
    have H8 := hide h8
    have g8 := hide (on_blk_mul h8)
    have S8 := hide (S2.out.trans (Str.below hb))
    clear hb h8
    have hone8 : (rsC 4 8 (.slice Option.none 0 0)).all (·.oneCell') = true := by simp [Value.oneCell', vb]
    have H9 := hide (H8.out.setRow (rsC 4 8 (.slice Option.none 0 0)))
    have S9 := hide (S8.out.setRow g (rsC 4 8 (.slice Option.none 0 0)))
    go_wp2_with (refine wpList_store_row rfl _ _ _ rfl g (rsC 4 8 (.slice Option.none 0 0)) rfl rfl _ _ g8.out hs rfl hone8 ?_)
    refine bodyPost_ret (v := .agg (rsC 4 8 (.slice Option.none 0 0))) (results_cell_row Tryz.results88 _ _ g _ (rsC 4 8 (.slice Option.none 0 0)) (0, 0) _ rfl (setRow_heap_same _ _ _ _ _ _ g8.out) hu rfl hs) rfl ?_
    exact ⟨4, 8, _, [], M1, rfl, H47.out, (by decide), (SP.le.mul (SP.le.refl _) (SP.le.mul (SP.le.refl _) (SP.le.refl _))).on H9.out.right, S9.out⟩

set_option maxRecDepth 100000 in
set_option maxHeartbeats 16000000 in
theorem write_no (m q : Nat) (va : Option Addr) (vn vc : Nat) (F : SP) (w : World) (h : (blk m (.cells (mK q) 127 (0, 0)) * F).on w) :
    Calls Tryz.prog 77 #[.pointer (some ⟨m, 0, Option.none⟩), .slice va vn vc] w (AsEnd m F w) := by
  have hum := Tryz.underlying127
  have hup := Tryz.underlying124
  have hua := Tryz.underlying125
  have hps : ∀ w, (sizeOf 124).run Tryz.prog w = .ok 3 w := fun w => by kernel_rfl
  have hu := Tryz.underlying93
  have hz := zr_hz
  have hzp : ∀ w, (zeroValue 124).run Tryz.prog w = .ok (.agg #[.bool false, .int .i64 0, .slice Option.none 0 0]) w := fun w => by kernel_rfl
  have hs : (Tryz.prog.info? 93).map (·.size) = some 3 := by kernel_rfl
  have hs3 : (Tryz.prog.info? 124).map (·.size) = some 3 := by kernel_rfl
  have hone : (#[.bool false, .int .i64 0, .slice Option.none 0 0] : Array Value).all (·.oneCell') = true := by simp [Value.oneCell']
  have H1 := hide (h.alloc (.cells #[.int .u8 0, .int .u8 0, nV] 93))
  have S1 := hide ((Str.refl w).alloc (.cells #[.int .u8 0, .int .u8 0, nV] 93))
  clear h
  go_enter Tryz.func77, Tryz.ntmps77
  go_wp2_with fail
  generalize w.alloc (.cells #[.int .u8 0, .int .u8 0, nV] 93) = w1 at *
  generalize hg : w.heap.size = g at *
  have Hg := hide hg
  clear hg
  refine wp_region_tail 10 [isV (.pointer (some ⟨m, 0, Option.none⟩)), isV (.pointer (some ⟨m, 0, Option.none⟩)), isV (.pointer (some ⟨m, 0, Option.none⟩)), isV (.pointer (some ⟨m, 37, Option.none⟩)), isV (.int .u8 0), isV (.pointer (some ⟨m, 0, Option.none⟩)), isV (.pointer (some ⟨m, 38, Option.none⟩)), isV (.pointer (some ⟨m, 38, Option.none⟩)), isV (.agg #[.bool false, .int .i64 0, .slice Option.none 0 0]), fun v X => ∃ g2, v = .pointer (some ⟨g2, 0, Option.none⟩) ∧ (blk g2 (.cells #[.bool false, .int .i64 0, .slice Option.none 0 0] 124 (0, 0)) * (blk g (.cells #[.int .u8 0, .int .u8 0, nV] 93 (0, 0)) * (blk m (.cells (mK q) 127 (0, 0)) * F))).on X]
    (by simp only [List.take_succ_cons, List.take_zero]; rfl) (by simp only [List.drop_succ_cons, List.drop_zero]; rfl) (by kernel_rfl) (by kernel_rfl) (by kernel_rfl) (by decide) rfl ?keep ?todo ?rest
  case keep => exact ⟨Keep.isV _, Keep.isV _, Keep.isV _, Keep.isV _, Keep.isV _, Keep.isV _, Keep.isV _, Keep.isV _, Keep.isV _, fun _ _ _ ⟨g2, h0, h2⟩ k => ⟨g2, h0, h2.below k⟩, trivial⟩
  case todo =>
    refine ⟨?_, ?_, ?_, ?_, ?_, ?_, ?_, ?_, ?_, ?_, trivial⟩
    · intro ev X hT hb hk hf
      have e0 : ev (.tmp 0) = .pointer (some ⟨m, 0, Option.none⟩) := hk.1
      exact OpOk.move rfl e0 ⟨rfl, Stay.refl _⟩
    · intro ev X hT hb hk hf
      have e0 : ev (.tmp 0) = .pointer (some ⟨m, 0, Option.none⟩) := hk.1
      exact OpOk.move rfl e0 ⟨rfl, Stay.refl _⟩
    · intro ev X hT hb hk hf
      have e0 : ev (.tmp 8) = .pointer (some ⟨m, 0, Option.none⟩) := hf.1
      exact OpOk.run (v := .pointer (some ⟨m, 0, Option.none⟩)) (W' := X) (by simp [execOp, e0, hb.1, go_sem]) ⟨rfl, Stay.refl _⟩
    · intro ev X hT hb hk hf
      have e0 : ev (.tmp 9) = .pointer (some ⟨m, 0, Option.none⟩) := hf.1
      exact OpOk.run (v := .pointer (some ⟨m, 37, Option.none⟩)) (W' := X) (by simp [execOp, e0, hum, go_sem]) ⟨rfl, Stay.refl _⟩
    · intro ev X hT hb hk hf
      have e0 : ev (.tmp 10) = .pointer (some ⟨m, 37, Option.none⟩) := hf.1
      have cW : X.cell? ⟨m, 37, Option.none⟩ = some (.int .u8 0) := by rw [cell_of_row _ _ 37 _ _ _ (on_blk_mul (H1.out.below hT).right)]; rfl
      exact OpOk.run (v := .int .u8 0) (W' := X) (by simp [execOp, e0, cW, go_sem]) ⟨rfl, Stay.refl _⟩
    · intro ev X hT hb hk hf
      have e0 : ev (.tmp 7) = .pointer (some ⟨m, 0, Option.none⟩) := hf.1
      exact OpOk.run (v := .pointer (some ⟨m, 0, Option.none⟩)) (W' := X) (by simp [execOp, e0, hb.1, go_sem]) ⟨rfl, Stay.refl _⟩
    · intro ev X hT hb hk hf
      have e0 : ev (.tmp 12) = .pointer (some ⟨m, 0, Option.none⟩) := hf.1
      exact OpOk.run (v := .pointer (some ⟨m, 38, Option.none⟩)) (W' := X) (by simp [execOp, e0, hum, go_sem]) ⟨rfl, Stay.refl _⟩
    · intro ev X hT hb hk hf
      have e0 : ev (.tmp 13) = .pointer (some ⟨m, 38, Option.none⟩) := hf.1
      have e1 : ev (.tmp 11) = .int .u8 0 := hf.2.1
      exact OpOk.run (v := .pointer (some ⟨m, 38, Option.none⟩)) (W' := X) (by simp [execOp, e0, e1, hua, hps, go_sem]) ⟨rfl, Stay.refl _⟩
    · intro ev X hT hb hk hf
      have e0 : ev (.tmp 14) = .pointer (some ⟨m, 38, Option.none⟩) := hf.1
      exact OpOk.load_part _ _ rfl m 38 e0 #[.bool false, .int .i64 0, .slice Option.none 0 0] _ (fun j v hj => by rw [cell_of_row _ _ _ _ _ _ (on_blk_mul (H1.out.below hT).right)]; exact mK_part0 q j v hj) hup rfl hs3 ⟨rfl, Stay.refl _⟩
    · intro ev X hT hb hk hf
      exact OpOk.run (v := .pointer (some ⟨X.heap.size, 0, Option.none⟩)) (W' := X.alloc (.cells #[.bool false, .int .i64 0, .slice Option.none 0 0] 124)) (by simp [execOp, hzp, go_sem]) ⟨⟨_, rfl, (H1.out.below hT).alloc _⟩, (Below.refl _ _).alloc (Nat.le_refl _) _⟩
  case rest =>
    intro X hT
    rintro _ rfl _ rfl _ rfl _ rfl _ rfl _ rfl _ rfl _ rfl _ rfl v9 ⟨g2, rfl, hX⟩
    have gA := hide (on_blk_mul hX)
    have HX := hide (hX.setRow #[.bool false, .int .i64 0, .slice Option.none 0 0])
    have S2 := hide ((S1.out.trans (Str.below hT)).setRow g2 #[.bool false, .int .i64 0, .slice Option.none 0 0])
    have hstop : ∀ p : Prop, Hid p → p := fun _ h => h.out
    clear hT hX H1 S1
    go_wp2
    refine Rest.done ?_
    go_wp2_with (refine wpList_store_row rfl _ _ _ rfl g2 #[.bool false, .int .i64 0, .slice Option.none 0 0] rfl rfl _ _ gA.out hs3 rfl hone ?_; refine hstop _ ?_)
    refine hide ?_
    clear hstop gA
    generalize X.setRow g2 #[.bool false, .int .i64 0, .slice Option.none 0 0] = w3 at *
    have c0 : w3.cell? ⟨g2, 0, Option.none⟩ = some (.bool false) := cell_of_row _ _ 0 _ _ _ (on_blk_mul HX.out)
    have h4 := HX.out.right
    rw [SP.mul_left_comm] at h4
    have H4 := hide (own_nil 5 1 h4)
    have H47 : Hid ((mK q)[47]? = some nV) := hide rfl
    clear h4
    generalize mK q = M1 at *
    have hE := hide (oanswer_any 8 8 Option.none 0 0 w3)
    go_wp2_with fail
    refine hE.out.mono ?_
    clear hE
    rintro e w8 ⟨rfl, hb⟩
    have h8 := H4.out.below hb
    rw [show ∀ A B C D : SP, A * (B * (C * D)) = C * (A * (B * D)) from fun A B C D => by ac_rfl] at h8
    have H8 := hide h8
    have g8 := hide (on_blk_mul h8)
    have S8 := hide (S2.out.trans (Str.below hb))
    clear hb h8
    have hone8 : (rsC 8 8 (.slice Option.none 0 0)).all (·.oneCell') = true := by simp [Value.oneCell', vb]
    have H9 := hide (H8.out.setRow (rsC 8 8 (.slice Option.none 0 0)))
    have S9 := hide (S8.out.setRow g (rsC 8 8 (.slice Option.none 0 0)))
    go_wp2_with (refine wpList_store_row rfl _ _ _ rfl g (rsC 8 8 (.slice Option.none 0 0)) rfl rfl _ _ g8.out hs rfl hone8 ?_)
    refine bodyPost_ret (v := .tuple #[.agg (rsC 8 8 (.slice Option.none 0 0)), .bool true]) (results_cell_row_tmp Tryz.results77 _ _ g _ (rsC 8 8 (.slice Option.none 0 0)) (0, 0) _ rfl (setRow_heap_same _ _ _ _ _ _ g8.out) hu rfl hs (.bool true) rfl) rfl ?_
    exact ⟨8, 8, _, [], M1, true, rfl, H47.out, by decide, H9.out.right, S9.out⟩
end Go.Proofs.YtgmpmlneoiagdaaGreatDoor

/- object: what a fresh machine answers to a request. -/
namespace Go.Proofs.YtgmpmlneoiagdaaGreatDoor
open Go.ChangeShapes Go.WideShapes Go.ChangeAt Go.RowKit
set_option linter.unusedVariables false
set_option linter.unusedSimpArgs false

set_option maxRecDepth 100000 in
set_option maxHeartbeats 16000000 in
theorem oresp_0 (m q : Nat) (ty : UInt8) (sz : Nat) (da : Option Addr) (dn dc : Nat) (F : SP) (w : World) (h : (blk m (.cells (mK q) 127 (0, 0)) * F).on w) :
    Calls Tryz.prog 78 #[.pointer (some ⟨m, 0, Option.none⟩), .agg (rqC 0 ty sz (.slice da dn dc))] w (AnEnd m F w) := by
  have hum := Tryz.underlying127
  have hu := Tryz.underlying93
  have huq := Tryz.underlying117
  have hz := zr_hz
  have hs : (Tryz.prog.info? 93).map (·.size) = some 3 := by kernel_rfl
  have h1 := (h.alloc (.cells (rqC 0 ty sz (.slice da dn dc)) 117)).alloc (.cells #[.int .u8 0, .int .u8 0, nV] 93)
  rw [World.size_alloc] at h1
  have S1 := hide (((Str.refl w).alloc (.cells (rqC 0 ty sz (.slice da dn dc)) 117)).alloc (.cells #[.int .u8 0, .int .u8 0, nV] 93))
  have c0 : ((w.alloc (.cells (rqC 0 ty sz (.slice da dn dc)) 117)).alloc (.cells #[.int .u8 0, .int .u8 0, nV] 93)).cell? ⟨w.heap.size, 0, Option.none⟩ = some (.int .u8 0) := cell_of_row _ _ 0 _ _ _ (on_blk_mul h1.right)
  have c1 : ((w.alloc (.cells (rqC 0 ty sz (.slice da dn dc)) 117)).alloc (.cells #[.int .u8 0, .int .u8 0, nV] 93)).cell? ⟨w.heap.size, 1, Option.none⟩ = some (vb ty) := cell_of_row _ _ 1 _ _ _ (on_blk_mul h1.right)
  have c2 : ((w.alloc (.cells (rqC 0 ty sz (.slice da dn dc)) 117)).alloc (.cells #[.int .u8 0, .int .u8 0, nV] 93)).cell? ⟨w.heap.size, 2, Option.none⟩ = some (.int .u32 (sz : Nat)) := cell_of_row _ _ 2 _ _ _ (on_blk_mul h1.right)
  rw [show ∀ A B C D : SP, A * (B * (C * D)) = C * (A * (B * D)) from fun A B C D => by ac_rfl] at h1
  clear h
  have hsz : ((w.alloc (.cells (rqC 0 ty sz (.slice da dn dc)) 117)).alloc (.cells #[.int .u8 0, .int .u8 0, nV] 93)).heap.size = w.heap.size + 1 + 1 := by simp
  have h2 := own_new 5 1 1 (vbs [1]) h1 rfl (by decide)
  rw [hsz] at h2
  have H2 := hide (show (ownR (.slice (some ⟨w.heap.size + 1 + 1, 0, Option.none⟩) 1 1) [1] * (blk m (.cells (mK q) 127 (0, 0)) * (blk (w.heap.size + 1) (.cells #[.int .u8 0, .int .u8 0, nV] 93 (0, 0)) * (blk w.heap.size (.cells (rqC 0 ty sz (.slice da dn dc)) 117 (0, 0)) * F)))).on (((w.alloc (.cells (rqC 0 ty sz (.slice da dn dc)) 117)).alloc (.cells #[.int .u8 0, .int .u8 0, nV] 93)).alloc (.cells #[.int .u8 1] 5)) from h2)
  have S2 := hide (S1.out.alloc (.cells #[.int .u8 1] 5))
  have H47 : Hid ((mK q)[47]? = some nV) := hide rfl
  have hE := hide (oanswer_any 0 1 (some ⟨w.heap.size + 1 + 1, 0, Option.none⟩) 1 1 (((w.alloc (.cells (rqC 0 ty sz (.slice da dn dc)) 117)).alloc (.cells #[.int .u8 0, .int .u8 0, nV] 93)).alloc (.cells #[.int .u8 1] 5)))
  clear h1 h2 hsz S1
  generalize mK q = M1 at *
  go_enter Tryz.func78, Tryz.ntmps78
  go_wp2_with fail
  generalize (((w.alloc (.cells (rqC 0 ty sz (.slice da dn dc)) 117)).alloc (.cells #[.int .u8 0, .int .u8 0, nV] 93)).alloc (.cells #[.int .u8 1] 5)) = w2 at *
  generalize hg : w.heap.size + 1 = g at *
  have Hg := hide hg
  clear hg
  generalize g + 1 = c at *
  clear c0 c1 c2
  refine hE.out.mono ?_
  clear hE
  rintro e w8 ⟨rfl, hb⟩
  have h8 := H2.out.below hb
  rw [show ∀ A B C D : SP, A * (B * (C * D)) = C * (A * (B * D)) from fun A B C D => by ac_rfl] at h8
  have H8 := hide h8
  have g8 := hide (on_blk_mul h8)
  have S8 := hide (S2.out.trans (Str.below hb))
  clear hb h8
  have hone8 : (rsC 0 1 (.slice (some ⟨c, 0, Option.none⟩) 1 1)).all (·.oneCell') = true := by simp [Value.oneCell', vb]
  have H9 := hide (H8.out.setRow (rsC 0 1 (.slice (some ⟨c, 0, Option.none⟩) 1 1)))
  have S9 := hide (S8.out.setRow g (rsC 0 1 (.slice (some ⟨c, 0, Option.none⟩) 1 1)))
  go_wp2_with (refine wpList_store_row rfl _ _ _ rfl g (rsC 0 1 (.slice (some ⟨c, 0, Option.none⟩) 1 1)) rfl rfl _ _ g8.out hs rfl hone8 ?_)
  refine bodyPost_ret (v := .agg (rsC 0 1 (.slice (some ⟨c, 0, Option.none⟩) 1 1))) (results_cell_row Tryz.results78 _ _ g _ (rsC 0 1 (.slice (some ⟨c, 0, Option.none⟩) 1 1)) (0, 0) _ rfl (setRow_heap_same _ _ _ _ _ _ g8.out) hu rfl hs) rfl ?_
  exact ⟨0, 1, _, [1], M1, rfl, H47.out, (by simp), (SP.le.mul (SP.le.refl _) (SP.le.mul (SP.le.refl _) (SP.le_right _ _))).on H9.out.right, S9.out⟩

set_option maxRecDepth 100000 in
set_option maxHeartbeats 16000000 in
theorem oresp_9 (m q : Nat) (ty : UInt8) (sz : Nat) (da : Option Addr) (dn dc : Nat) (F : SP) (w : World) (h : (blk m (.cells (mK q) 127 (0, 0)) * F).on w) :
    Calls Tryz.prog 78 #[.pointer (some ⟨m, 0, Option.none⟩), .agg (rqC 9 ty sz (.slice da dn dc))] w (AnEnd m F w) := by
  have hum := Tryz.underlying127
  have hu := Tryz.underlying93
  have huq := Tryz.underlying117
  have hz := zr_hz
  have hs : (Tryz.prog.info? 93).map (·.size) = some 3 := by kernel_rfl
  have h1 := (h.alloc (.cells (rqC 9 ty sz (.slice da dn dc)) 117)).alloc (.cells #[.int .u8 0, .int .u8 0, nV] 93)
  rw [World.size_alloc] at h1
  have S1 := hide (((Str.refl w).alloc (.cells (rqC 9 ty sz (.slice da dn dc)) 117)).alloc (.cells #[.int .u8 0, .int .u8 0, nV] 93))
  have c0 : ((w.alloc (.cells (rqC 9 ty sz (.slice da dn dc)) 117)).alloc (.cells #[.int .u8 0, .int .u8 0, nV] 93)).cell? ⟨w.heap.size, 0, Option.none⟩ = some (.int .u8 9) := cell_of_row _ _ 0 _ _ _ (on_blk_mul h1.right)
  have c1 : ((w.alloc (.cells (rqC 9 ty sz (.slice da dn dc)) 117)).alloc (.cells #[.int .u8 0, .int .u8 0, nV] 93)).cell? ⟨w.heap.size, 1, Option.none⟩ = some (vb ty) := cell_of_row _ _ 1 _ _ _ (on_blk_mul h1.right)
  have c2 : ((w.alloc (.cells (rqC 9 ty sz (.slice da dn dc)) 117)).alloc (.cells #[.int .u8 0, .int .u8 0, nV] 93)).cell? ⟨w.heap.size, 2, Option.none⟩ = some (.int .u32 (sz : Nat)) := cell_of_row _ _ 2 _ _ _ (on_blk_mul h1.right)
  rw [show ∀ A B C D : SP, A * (B * (C * D)) = C * (A * (B * D)) from fun A B C D => by ac_rfl] at h1
  clear h
  have hsz : ((w.alloc (.cells (rqC 9 ty sz (.slice da dn dc)) 117)).alloc (.cells #[.int .u8 0, .int .u8 0, nV] 93)).heap.size = w.heap.size + 1 + 1 := by simp
  have h2 := own_new 5 1 1 (vbs [ty]) h1 rfl (by decide)
  rw [hsz] at h2
  have H2 := hide (show (ownR (.slice (some ⟨w.heap.size + 1 + 1, 0, Option.none⟩) 1 1) [ty] * (blk m (.cells (mK q) 127 (0, 0)) * (blk (w.heap.size + 1) (.cells #[.int .u8 0, .int .u8 0, nV] 93 (0, 0)) * (blk w.heap.size (.cells (rqC 9 ty sz (.slice da dn dc)) 117 (0, 0)) * F)))).on (((w.alloc (.cells (rqC 9 ty sz (.slice da dn dc)) 117)).alloc (.cells #[.int .u8 0, .int .u8 0, nV] 93)).alloc (.cells #[vb ty] 5)) from h2)
  have S2 := hide (S1.out.alloc (.cells #[vb ty] 5))
  have H47 : Hid ((mK q)[47]? = some nV) := hide rfl
  have hE := hide (oanswer_any 9 1 (some ⟨w.heap.size + 1 + 1, 0, Option.none⟩) 1 1 (((w.alloc (.cells (rqC 9 ty sz (.slice da dn dc)) 117)).alloc (.cells #[.int .u8 0, .int .u8 0, nV] 93)).alloc (.cells #[vb ty] 5)))
  clear h1 h2 hsz S1
  generalize mK q = M1 at *
  go_enter Tryz.func78, Tryz.ntmps78
  go_wp2_with fail
  generalize (((w.alloc (.cells (rqC 9 ty sz (.slice da dn dc)) 117)).alloc (.cells #[.int .u8 0, .int .u8 0, nV] 93)).alloc (.cells #[vb ty] 5)) = w2 at *
  generalize hg : w.heap.size + 1 = g at *
  have Hg := hide hg
  clear hg
  generalize g + 1 = c at *
  clear c0 c1 c2
  refine hE.out.mono ?_
  clear hE
  rintro e w8 ⟨rfl, hb⟩
  have h8 := H2.out.below hb
  rw [show ∀ A B C D : SP, A * (B * (C * D)) = C * (A * (B * D)) from fun A B C D => by ac_rfl] at h8
  have H8 := hide h8
  have g8 := hide (on_blk_mul h8)
  have S8 := hide (S2.out.trans (Str.below hb))
  clear hb h8
  have hone8 : (rsC 9 1 (.slice (some ⟨c, 0, Option.none⟩) 1 1)).all (·.oneCell') = true := by simp [Value.oneCell', vb]
  have H9 := hide (H8.out.setRow (rsC 9 1 (.slice (some ⟨c, 0, Option.none⟩) 1 1)))
  have S9 := hide (S8.out.setRow g (rsC 9 1 (.slice (some ⟨c, 0, Option.none⟩) 1 1)))
  go_wp2_with (refine wpList_store_row rfl _ _ _ rfl g (rsC 9 1 (.slice (some ⟨c, 0, Option.none⟩) 1 1)) rfl rfl _ _ g8.out hs rfl hone8 ?_)
  refine bodyPost_ret (v := .agg (rsC 9 1 (.slice (some ⟨c, 0, Option.none⟩) 1 1))) (results_cell_row Tryz.results78 _ _ g _ (rsC 9 1 (.slice (some ⟨c, 0, Option.none⟩) 1 1)) (0, 0) _ rfl (setRow_heap_same _ _ _ _ _ _ g8.out) hu rfl hs) rfl ?_
  exact ⟨9, 1, _, [ty], M1, rfl, H47.out, (by simp), (SP.le.mul (SP.le.refl _) (SP.le.mul (SP.le.refl _) (SP.le_right _ _))).on H9.out.right, S9.out⟩

set_option maxRecDepth 100000 in
set_option maxHeartbeats 16000000 in
theorem oresp_7 (m q : Nat) (ty : UInt8) (sz : Nat) (da : Option Addr) (dn dc : Nat) (F : SP) (w : World) (h : (blk m (.cells (mK q) 127 (0, 0)) * F).on w) :
    Calls Tryz.prog 78 #[.pointer (some ⟨m, 0, Option.none⟩), .agg (rqC 7 ty sz (.slice da dn dc))] w (AnEnd m F w) := by
  have hum := Tryz.underlying127
  have hu := Tryz.underlying93
  have huq := Tryz.underlying117
  have hz := zr_hz
  have hs : (Tryz.prog.info? 93).map (·.size) = some 3 := by kernel_rfl
  have h1 := (h.alloc (.cells (rqC 7 ty sz (.slice da dn dc)) 117)).alloc (.cells #[.int .u8 0, .int .u8 0, nV] 93)
  rw [World.size_alloc] at h1
  have S1 := hide (((Str.refl w).alloc (.cells (rqC 7 ty sz (.slice da dn dc)) 117)).alloc (.cells #[.int .u8 0, .int .u8 0, nV] 93))
  have c0 : ((w.alloc (.cells (rqC 7 ty sz (.slice da dn dc)) 117)).alloc (.cells #[.int .u8 0, .int .u8 0, nV] 93)).cell? ⟨w.heap.size, 0, Option.none⟩ = some (.int .u8 7) := cell_of_row _ _ 0 _ _ _ (on_blk_mul h1.right)
  have c1 : ((w.alloc (.cells (rqC 7 ty sz (.slice da dn dc)) 117)).alloc (.cells #[.int .u8 0, .int .u8 0, nV] 93)).cell? ⟨w.heap.size, 1, Option.none⟩ = some (vb ty) := cell_of_row _ _ 1 _ _ _ (on_blk_mul h1.right)
  have c2 : ((w.alloc (.cells (rqC 7 ty sz (.slice da dn dc)) 117)).alloc (.cells #[.int .u8 0, .int .u8 0, nV] 93)).cell? ⟨w.heap.size, 2, Option.none⟩ = some (.int .u32 (sz : Nat)) := cell_of_row _ _ 2 _ _ _ (on_blk_mul h1.right)
  rw [show ∀ A B C D : SP, A * (B * (C * D)) = C * (A * (B * D)) from fun A B C D => by ac_rfl] at h1
  clear h
  have hsz : ((w.alloc (.cells (rqC 7 ty sz (.slice da dn dc)) 117)).alloc (.cells #[.int .u8 0, .int .u8 0, nV] 93)).heap.size = w.heap.size + 1 + 1 := by simp
  have h2 := own_new 5 1 2 (vbs [70, 0]) h1 rfl (by decide)
  rw [hsz] at h2
  have H2 := hide (show (ownR (.slice (some ⟨w.heap.size + 1 + 1, 0, Option.none⟩) 2 2) [70, 0] * (blk m (.cells (mK q) 127 (0, 0)) * (blk (w.heap.size + 1) (.cells #[.int .u8 0, .int .u8 0, nV] 93 (0, 0)) * (blk w.heap.size (.cells (rqC 7 ty sz (.slice da dn dc)) 117 (0, 0)) * F)))).on (((w.alloc (.cells (rqC 7 ty sz (.slice da dn dc)) 117)).alloc (.cells #[.int .u8 0, .int .u8 0, nV] 93)).alloc (.cells #[.int .u8 70, .int .u8 0] 5)) from h2)
  have S2 := hide (S1.out.alloc (.cells #[.int .u8 70, .int .u8 0] 5))
  have H47 : Hid ((mK q)[47]? = some nV) := hide rfl
  have hE := hide (oanswer_any 7 1 (some ⟨w.heap.size + 1 + 1, 0, Option.none⟩) 2 2 (((w.alloc (.cells (rqC 7 ty sz (.slice da dn dc)) 117)).alloc (.cells #[.int .u8 0, .int .u8 0, nV] 93)).alloc (.cells #[.int .u8 70, .int .u8 0] 5)))
  clear h1 h2 hsz S1
  generalize mK q = M1 at *
  go_enter Tryz.func78, Tryz.ntmps78
  go_wp2_with fail
  generalize (((w.alloc (.cells (rqC 7 ty sz (.slice da dn dc)) 117)).alloc (.cells #[.int .u8 0, .int .u8 0, nV] 93)).alloc (.cells #[.int .u8 70, .int .u8 0] 5)) = w2 at *
  generalize hg : w.heap.size + 1 = g at *
  have Hg := hide hg
  clear hg
  generalize g + 1 = c at *
  clear c0 c1 c2
  refine hE.out.mono ?_
  clear hE
  rintro e w8 ⟨rfl, hb⟩
  have h8 := H2.out.below hb
  rw [show ∀ A B C D : SP, A * (B * (C * D)) = C * (A * (B * D)) from fun A B C D => by ac_rfl] at h8
  have H8 := hide h8
  have g8 := hide (on_blk_mul h8)
  have S8 := hide (S2.out.trans (Str.below hb))
  clear hb h8
  have hone8 : (rsC 7 1 (.slice (some ⟨c, 0, Option.none⟩) 2 2)).all (·.oneCell') = true := by simp [Value.oneCell', vb]
  have H9 := hide (H8.out.setRow (rsC 7 1 (.slice (some ⟨c, 0, Option.none⟩) 2 2)))
  have S9 := hide (S8.out.setRow g (rsC 7 1 (.slice (some ⟨c, 0, Option.none⟩) 2 2)))
  go_wp2_with (refine wpList_store_row rfl _ _ _ rfl g (rsC 7 1 (.slice (some ⟨c, 0, Option.none⟩) 2 2)) rfl rfl _ _ g8.out hs rfl hone8 ?_)
  refine bodyPost_ret (v := .agg (rsC 7 1 (.slice (some ⟨c, 0, Option.none⟩) 2 2))) (results_cell_row Tryz.results78 _ _ g _ (rsC 7 1 (.slice (some ⟨c, 0, Option.none⟩) 2 2)) (0, 0) _ rfl (setRow_heap_same _ _ _ _ _ _ g8.out) hu rfl hs) rfl ?_
  exact ⟨7, 1, _, [70, 0], M1, rfl, H47.out, (by simp), (SP.le.mul (SP.le.refl _) (SP.le.mul (SP.le.refl _) (SP.le_right _ _))).on H9.out.right, S9.out⟩

set_option maxRecDepth 100000 in
set_option maxHeartbeats 16000000 in
theorem oresp_2 (m q : Nat) (ty : UInt8) (sz : Nat) (da : Option Addr) (dn dc : Nat) (F : SP) (w : World) (h : (blk m (.cells (mK q) 127 (0, 0)) * F).on w) :
    Calls Tryz.prog 78 #[.pointer (some ⟨m, 0, Option.none⟩), .agg (rqC 2 ty sz (.slice da dn dc))] w (AnEnd m F w) := by
  have hum := Tryz.underlying127
  have hu := Tryz.underlying93
  have huq := Tryz.underlying117
  have hz := zr_hz
  have hs : (Tryz.prog.info? 93).map (·.size) = some 3 := by kernel_rfl
  have h1 := (h.alloc (.cells (rqC 2 ty sz (.slice da dn dc)) 117)).alloc (.cells #[.int .u8 0, .int .u8 0, nV] 93)
  rw [World.size_alloc] at h1
  have S1 := hide (((Str.refl w).alloc (.cells (rqC 2 ty sz (.slice da dn dc)) 117)).alloc (.cells #[.int .u8 0, .int .u8 0, nV] 93))
  have c0 : ((w.alloc (.cells (rqC 2 ty sz (.slice da dn dc)) 117)).alloc (.cells #[.int .u8 0, .int .u8 0, nV] 93)).cell? ⟨w.heap.size, 0, Option.none⟩ = some (.int .u8 2) := cell_of_row _ _ 0 _ _ _ (on_blk_mul h1.right)
  have c1 : ((w.alloc (.cells (rqC 2 ty sz (.slice da dn dc)) 117)).alloc (.cells #[.int .u8 0, .int .u8 0, nV] 93)).cell? ⟨w.heap.size, 1, Option.none⟩ = some (vb ty) := cell_of_row _ _ 1 _ _ _ (on_blk_mul h1.right)
  have c2 : ((w.alloc (.cells (rqC 2 ty sz (.slice da dn dc)) 117)).alloc (.cells #[.int .u8 0, .int .u8 0, nV] 93)).cell? ⟨w.heap.size, 2, Option.none⟩ = some (.int .u32 (sz : Nat)) := cell_of_row _ _ 2 _ _ _ (on_blk_mul h1.right)
  rw [show ∀ A B C D : SP, A * (B * (C * D)) = C * (A * (B * D)) from fun A B C D => by ac_rfl] at h1
  clear h
  have f150 := frozen_of_row _ m 150 _ _ (on_blk_mul h1)
  have c150 : ((w.alloc (.cells (rqC 2 ty sz (.slice da dn dc)) 117)).alloc (.cells #[.int .u8 0, .int .u8 0, nV] 93)).cell? ⟨m, 150, Option.none⟩ = some (.int .u32 0) := by rw [cell_of_row _ _ 150 _ _ _ (on_blk_mul h1)]; rfl
  have h2 := h1.setCell (i := 150) (.int .u32 (sz : Nat))
  have f151b := frozen_of_row _ m 151 _ _ (on_blk_mul h2)
  have c151b : (((w.alloc (.cells (rqC 2 ty sz (.slice da dn dc)) 117)).alloc (.cells #[.int .u8 0, .int .u8 0, nV] 93)).setCell ⟨m, 150, Option.none⟩ (.int .u32 (sz : Nat))).cell? ⟨m, 151, Option.none⟩ = some (.int .u32 0) := by rw [cell_of_row _ _ 151 _ _ _ (on_blk_mul h2)]; rfl
  have h3 := h2.setCell (i := 151) (.int .u32 0)
  have H2 := hide (own_nil 5 1 h3)
  have S2 := hide ((S1.out.setCell ⟨m, 150, Option.none⟩ (.int .u32 (sz : Nat))).setCell ⟨m, 151, Option.none⟩ (.int .u32 0))
  have H47 : Hid ((((mK q).setIfInBounds 150 (.int .u32 (sz : Nat))).setIfInBounds 151 (.int .u32 0))[47]? = some nV) := hide rfl
  have d0 : ((((w.alloc (.cells (rqC 2 ty sz (.slice da dn dc)) 117)).alloc (.cells #[.int .u8 0, .int .u8 0, nV] 93)).setCell ⟨m, 150, Option.none⟩ (.int .u32 (sz : Nat))).setCell ⟨m, 151, Option.none⟩ (.int .u32 0)).cell? ⟨w.heap.size, 0, Option.none⟩ = some (.int .u8 2) := cell_of_row _ _ 0 _ _ _ (on_blk_mul h3.right.right)
  have hE := hide (oanswer_any 2 1 Option.none 0 0 ((((w.alloc (.cells (rqC 2 ty sz (.slice da dn dc)) 117)).alloc (.cells #[.int .u8 0, .int .u8 0, nV] 93)).setCell ⟨m, 150, Option.none⟩ (.int .u32 (sz : Nat))).setCell ⟨m, 151, Option.none⟩ (.int .u32 0)))
  clear h1 h2 h3 S1
  generalize (((mK q).setIfInBounds 150 (.int .u32 (sz : Nat))).setIfInBounds 151 (.int .u32 0)) = M1 at *
  go_enter Tryz.func78, Tryz.ntmps78
  go_wp2_with fail
  generalize ((((w.alloc (.cells (rqC 2 ty sz (.slice da dn dc)) 117)).alloc (.cells #[.int .u8 0, .int .u8 0, nV] 93)).setCell ⟨m, 150, Option.none⟩ (.int .u32 (sz : Nat))).setCell ⟨m, 151, Option.none⟩ (.int .u32 0)) = w2 at *
  generalize hg : w.heap.size + 1 = g at *
  have Hg := hide hg
  clear hg
  clear c0 c1 c2 c150 c151b f150 f151b d0
  refine hE.out.mono ?_
  clear hE
  rintro e w8 ⟨rfl, hb⟩
  have h8 := H2.out.below hb
  rw [show ∀ A B C D : SP, A * (B * (C * D)) = C * (A * (B * D)) from fun A B C D => by ac_rfl] at h8
  have H8 := hide h8
  have g8 := hide (on_blk_mul h8)
  have S8 := hide (S2.out.trans (Str.below hb))
  clear hb h8
  have hone8 : (rsC 2 1 (.slice Option.none 0 0)).all (·.oneCell') = true := by simp [Value.oneCell', vb]
  have H9 := hide (H8.out.setRow (rsC 2 1 (.slice Option.none 0 0)))
  have S9 := hide (S8.out.setRow g (rsC 2 1 (.slice Option.none 0 0)))
  go_wp2_with (refine wpList_store_row rfl _ _ _ rfl g (rsC 2 1 (.slice Option.none 0 0)) rfl rfl _ _ g8.out hs rfl hone8 ?_)
  refine bodyPost_ret (v := .agg (rsC 2 1 (.slice Option.none 0 0))) (results_cell_row Tryz.results78 _ _ g _ (rsC 2 1 (.slice Option.none 0 0)) (0, 0) _ rfl (setRow_heap_same _ _ _ _ _ _ g8.out) hu rfl hs) rfl ?_
  exact ⟨2, 1, _, [], M1, rfl, H47.out, (by decide), (SP.le.mul (SP.le.refl _) (SP.le.mul (SP.le.refl _) (SP.le_right _ _))).on H9.out.right, S9.out⟩

set_option maxRecDepth 100000 in
set_option maxHeartbeats 16000000 in
theorem oresp_12 (m q : Nat) (ty : UInt8) (sz : Nat) (da : Option Addr) (dn dc : Nat) (F : SP) (w : World) (h : (blk m (.cells (mK q) 127 (0, 0)) * F).on w) :
    Calls Tryz.prog 78 #[.pointer (some ⟨m, 0, Option.none⟩), .agg (rqC 12 ty sz (.slice da dn dc))] w (AnEnd m F w) := by
  have hum := Tryz.underlying127
  have hu := Tryz.underlying93
  have huq := Tryz.underlying117
  have hz := zr_hz
  have hs : (Tryz.prog.info? 93).map (·.size) = some 3 := by kernel_rfl
  have h1 := (h.alloc (.cells (rqC 12 ty sz (.slice da dn dc)) 117)).alloc (.cells #[.int .u8 0, .int .u8 0, nV] 93)
  rw [World.size_alloc] at h1
  have S1 := hide (((Str.refl w).alloc (.cells (rqC 12 ty sz (.slice da dn dc)) 117)).alloc (.cells #[.int .u8 0, .int .u8 0, nV] 93))
  have c0 : ((w.alloc (.cells (rqC 12 ty sz (.slice da dn dc)) 117)).alloc (.cells #[.int .u8 0, .int .u8 0, nV] 93)).cell? ⟨w.heap.size, 0, Option.none⟩ = some (.int .u8 12) := cell_of_row _ _ 0 _ _ _ (on_blk_mul h1.right)
  have c1 : ((w.alloc (.cells (rqC 12 ty sz (.slice da dn dc)) 117)).alloc (.cells #[.int .u8 0, .int .u8 0, nV] 93)).cell? ⟨w.heap.size, 1, Option.none⟩ = some (vb ty) := cell_of_row _ _ 1 _ _ _ (on_blk_mul h1.right)
  have c2 : ((w.alloc (.cells (rqC 12 ty sz (.slice da dn dc)) 117)).alloc (.cells #[.int .u8 0, .int .u8 0, nV] 93)).cell? ⟨w.heap.size, 2, Option.none⟩ = some (.int .u32 (sz : Nat)) := cell_of_row _ _ 2 _ _ _ (on_blk_mul h1.right)
  rw [show ∀ A B C D : SP, A * (B * (C * D)) = C * (A * (B * D)) from fun A B C D => by ac_rfl] at h1
  clear h
  have f37 := frozen_of_row _ m 37 _ _ (on_blk_mul h1)
  have c37 : ((w.alloc (.cells (rqC 12 ty sz (.slice da dn dc)) 117)).alloc (.cells #[.int .u8 0, .int .u8 0, nV] 93)).cell? ⟨m, 37, Option.none⟩ = some (.int .u8 0) := by rw [cell_of_row _ _ 37 _ _ _ (on_blk_mul h1)]; rfl
  have h2 := h1.setCell (i := 37) (.int .u8 0)
  have f151b := frozen_of_row _ m 151 _ _ (on_blk_mul h2)
  have c151b : (((w.alloc (.cells (rqC 12 ty sz (.slice da dn dc)) 117)).alloc (.cells #[.int .u8 0, .int .u8 0, nV] 93)).setCell ⟨m, 37, Option.none⟩ (.int .u8 0)).cell? ⟨m, 151, Option.none⟩ = some (.int .u32 0) := by rw [cell_of_row _ _ 151 _ _ _ (on_blk_mul h2)]; rfl
  have h3 := h2.setCell (i := 151) (.int .u32 0)
  have S2 := hide ((S1.out.setCell ⟨m, 37, Option.none⟩ (.int .u8 0)).setCell ⟨m, 151, Option.none⟩ (.int .u32 0))
  have hi9 : (Tryz.prog.info? 125).map (·.size) = some 9 := by kernel_rfl
  have hb9 : ∀ w, (Instr.build 125 #[]).run Tryz.prog w = .ok (.agg #[.bool false, .int .i64 0, .slice Option.none 0 0, .bool false, .int .i64 0, .slice Option.none 0 0, .bool false, .int .i64 0, .slice Option.none 0 0]) w := fun w => by kernel_rfl
  have hz9 := hide (show 47 ≤ ((((mK q).setIfInBounds 37 (.int .u8 0)).setIfInBounds 151 (.int .u32 0))).size from Nat.le_of_ble_eq_true (by kernel_rfl))
  obtain ⟨M2, hM2⟩ : ∃ M2 : Array Value, M2 = (((((mK q).setIfInBounds 37 (.int .u8 0)).setIfInBounds 151 (.int .u32 0))).toList.take 38 ++ (#[.bool false, .int .i64 0, .slice Option.none 0 0, .bool false, .int .i64 0, .slice Option.none 0 0, .bool false, .int .i64 0, .slice Option.none 0 0] : Array Value).toList ++ ((((mK q).setIfInBounds 37 (.int .u8 0)).setIfInBounds 151 (.int .u32 0))).toList.drop (38 + 9)).toArray := ⟨_, rfl⟩
  have Hm2 := hide (show ((((mK q).setIfInBounds 37 (.int .u8 0)).setIfInBounds 151 (.int .u32 0))).toList.take 38 ++ (#[.bool false, .int .i64 0, .slice Option.none 0 0, .bool false, .int .i64 0, .slice Option.none 0 0, .bool false, .int .i64 0, .slice Option.none 0 0] : Array Value).toList ++ ((((mK q).setIfInBounds 37 (.int .u8 0)).setIfInBounds 151 (.int .u32 0))).toList.drop (38 + 9) = M2.toList by rw [hM2])
  have H47 := hide (show M2[47]? = some nV by rw [hM2]; rfl)
  have H3 := hide h3
  clear hM2 h1 h2 h3 S1
  generalize (((mK q).setIfInBounds 37 (.int .u8 0)).setIfInBounds 151 (.int .u32 0)) = M1 at *
  have hstop : ∀ p : Prop, Hid p → p := fun _ h => h.out
  go_enter Tryz.func78, Tryz.ntmps78
  go_wp2_with (first
    | (refine wpList_build_eq rfl _ _ rfl #[.bool false, .int .i64 0, .slice Option.none 0 0, .bool false, .int .i64 0, .slice Option.none 0 0, .bool false, .int .i64 0, .slice Option.none 0 0] (hb9 _) ?_)
    | (refine wpList_store_part rfl _ _ _ rfl m 38 (#[.bool false, .int .i64 0, .slice Option.none 0 0, .bool false, .int .i64 0, .slice Option.none 0 0, .bool false, .int .i64 0, .slice Option.none 0 0] : Array Value).toList rfl rfl 127 M1 H3.out hi9 (by have := hz9.out; simp; omega) (by simp [Value.oneCell']) M2 Hm2.out ?_; refine hstop _ ?_))
  refine hide ?_
  clear hstop c0 c1 c2 c37 c151b f37 f151b
  intro w2 h4 hs4
  have d0 : w2.cell? ⟨w.heap.size, 0, Option.none⟩ = some (.int .u8 12) := cell_of_row _ _ 0 _ _ _ (on_blk_mul h4.right.right)
  have H2 := hide (own_nil 5 1 h4)
  have S3 := hide (S2.out.trans hs4)
  have hE := hide (oanswer_any 12 1 Option.none 0 0 w2)
  clear h4 hs4 H3 S2
  go_wp2_with fail
  generalize hg : w.heap.size + 1 = g at *
  have Hg := hide hg
  clear hg
  clear d0
  refine hE.out.mono ?_
  clear hE
  rintro e w8 ⟨rfl, hb⟩
  have h8 := H2.out.below hb
  rw [show ∀ A B C D : SP, A * (B * (C * D)) = C * (A * (B * D)) from fun A B C D => by ac_rfl] at h8
  have H8 := hide h8
  have g8 := hide (on_blk_mul h8)
  have S8 := hide (S3.out.trans (Str.below hb))
  clear hb h8
  have hone8 : (rsC 12 1 (.slice Option.none 0 0)).all (·.oneCell') = true := by simp [Value.oneCell', vb]
  have H9 := hide (H8.out.setRow (rsC 12 1 (.slice Option.none 0 0)))
  have S9 := hide (S8.out.setRow g (rsC 12 1 (.slice Option.none 0 0)))
  go_wp2_with (refine wpList_store_row rfl _ _ _ rfl g (rsC 12 1 (.slice Option.none 0 0)) rfl rfl _ _ g8.out hs rfl hone8 ?_)
  refine bodyPost_ret (v := .agg (rsC 12 1 (.slice Option.none 0 0))) (results_cell_row Tryz.results78 _ _ g _ (rsC 12 1 (.slice Option.none 0 0)) (0, 0) _ rfl (setRow_heap_same _ _ _ _ _ _ g8.out) hu rfl hs) rfl ?_
  exact ⟨12, 1, _, [], M2, rfl, H47.out, (by decide), (SP.le.mul (SP.le.refl _) (SP.le.mul (SP.le.refl _) (SP.le_right _ _))).on H9.out.right, S9.out⟩

set_option maxRecDepth 100000 in
set_option maxHeartbeats 16000000 in
theorem oresp_3 (m q : Nat) (ty : UInt8) (sz : Nat) (da : Option Addr) (dn dc : Nat) (F : SP) (w : World) (h : (blk m (.cells (mK q) 127 (0, 0)) * F).on w) :
    Calls Tryz.prog 78 #[.pointer (some ⟨m, 0, Option.none⟩), .agg (rqC 3 ty sz (.slice da dn dc))] w (AnEnd m F w) := by
  have hum := Tryz.underlying127
  have hu := Tryz.underlying93
  have huq := Tryz.underlying117
  have hz := zr_hz
  have hs : (Tryz.prog.info? 93).map (·.size) = some 3 := by kernel_rfl
  have h1 := (h.alloc (.cells (rqC 3 ty sz (.slice da dn dc)) 117)).alloc (.cells #[.int .u8 0, .int .u8 0, nV] 93)
  rw [World.size_alloc] at h1
  have S1 := hide (((Str.refl w).alloc (.cells (rqC 3 ty sz (.slice da dn dc)) 117)).alloc (.cells #[.int .u8 0, .int .u8 0, nV] 93))
  have c0 : ((w.alloc (.cells (rqC 3 ty sz (.slice da dn dc)) 117)).alloc (.cells #[.int .u8 0, .int .u8 0, nV] 93)).cell? ⟨w.heap.size, 0, Option.none⟩ = some (.int .u8 3) := cell_of_row _ _ 0 _ _ _ (on_blk_mul h1.right)
  have c1 : ((w.alloc (.cells (rqC 3 ty sz (.slice da dn dc)) 117)).alloc (.cells #[.int .u8 0, .int .u8 0, nV] 93)).cell? ⟨w.heap.size, 1, Option.none⟩ = some (vb ty) := cell_of_row _ _ 1 _ _ _ (on_blk_mul h1.right)
  have c2 : ((w.alloc (.cells (rqC 3 ty sz (.slice da dn dc)) 117)).alloc (.cells #[.int .u8 0, .int .u8 0, nV] 93)).cell? ⟨w.heap.size, 2, Option.none⟩ = some (.int .u32 (sz : Nat)) := cell_of_row _ _ 2 _ _ _ (on_blk_mul h1.right)
  rw [show ∀ A B C D : SP, A * (B * (C * D)) = C * (A * (B * D)) from fun A B C D => by ac_rfl] at h1
  clear h
  have hC := hide (crc_no m q _ ((w.alloc (.cells (rqC 3 ty sz (.slice da dn dc)) 117)).alloc (.cells #[.int .u8 0, .int .u8 0, nV] 93)) h1)
  clear h1
  go_enter Tryz.func78, Tryz.ntmps78
  go_wp2_with fail
  generalize ((w.alloc (.cells (rqC 3 ty sz (.slice da dn dc)) 117)).alloc (.cells #[.int .u8 0, .int .u8 0, nV] 93)) = w2 at *
  generalize hg : w.heap.size + 1 = g at *
  have Hg := hide hg
  clear hg
  clear c0 c1 c2
  refine hC.out.mono ?_
  clear hC
  rintro e w8 ⟨op8, res8, v8, body8, M8, rfl, hM8, hl8, h8, hs8⟩
  have S8 := hide (S1.out.trans hs8)
  obtain ⟨oa8, oc8, rfl, _, _, _, _⟩ := own_value h8
  rw [show ∀ A B C D : SP, A * (B * (C * D)) = C * (A * (B * D)) from fun A B C D => by ac_rfl] at h8
  have H8 := hide h8
  have g8 := hide (on_blk_mul h8)
  have HM8 := hide hM8
  have Hl8 := hide hl8
  clear hs8 h8 hM8 hl8
  have hone8 : (rsC op8 res8 (.slice oa8 body8.length oc8)).all (·.oneCell') = true := by simp [Value.oneCell', vb]
  have H9 := hide (H8.out.setRow (rsC op8 res8 (.slice oa8 body8.length oc8)))
  have S9 := hide (S8.out.setRow g (rsC op8 res8 (.slice oa8 body8.length oc8)))
  go_wp2_with (refine wpList_store_row rfl _ _ _ rfl g (rsC op8 res8 (.slice oa8 body8.length oc8)) rfl rfl _ _ g8.out hs rfl hone8 ?_)
  refine bodyPost_ret (v := .agg (rsC op8 res8 (.slice oa8 body8.length oc8))) (results_cell_row Tryz.results78 _ _ g _ (rsC op8 res8 (.slice oa8 body8.length oc8)) (0, 0) _ rfl (setRow_heap_same _ _ _ _ _ _ g8.out) hu rfl hs) rfl ?_
  exact ⟨op8, res8, _, body8, M8, rfl, HM8.out, Hl8.out, (SP.le.mul (SP.le.refl _) (SP.le.mul (SP.le.refl _) (SP.le_right _ _))).on H9.out.right, S9.out⟩

set_option maxRecDepth 100000 in
set_option maxHeartbeats 16000000 in
theorem oresp_4 (m q : Nat) (ty : UInt8) (sz : Nat) (da : Option Addr) (dn dc : Nat) (F : SP) (w : World) (h : (blk m (.cells (mK q) 127 (0, 0)) * F).on w) :
    Calls Tryz.prog 78 #[.pointer (some ⟨m, 0, Option.none⟩), .agg (rqC 4 ty sz (.slice da dn dc))] w (AnEnd m F w) := by
  have hum := Tryz.underlying127
  have hu := Tryz.underlying93
  have huq := Tryz.underlying117
  have hz := zr_hz
  have hs : (Tryz.prog.info? 93).map (·.size) = some 3 := by kernel_rfl
  have h1 := (h.alloc (.cells (rqC 4 ty sz (.slice da dn dc)) 117)).alloc (.cells #[.int .u8 0, .int .u8 0, nV] 93)
  rw [World.size_alloc] at h1
  have S1 := hide (((Str.refl w).alloc (.cells (rqC 4 ty sz (.slice da dn dc)) 117)).alloc (.cells #[.int .u8 0, .int .u8 0, nV] 93))
  have c0 : ((w.alloc (.cells (rqC 4 ty sz (.slice da dn dc)) 117)).alloc (.cells #[.int .u8 0, .int .u8 0, nV] 93)).cell? ⟨w.heap.size, 0, Option.none⟩ = some (.int .u8 4) := cell_of_row _ _ 0 _ _ _ (on_blk_mul h1.right)
  have c1 : ((w.alloc (.cells (rqC 4 ty sz (.slice da dn dc)) 117)).alloc (.cells #[.int .u8 0, .int .u8 0, nV] 93)).cell? ⟨w.heap.size, 1, Option.none⟩ = some (vb ty) := cell_of_row _ _ 1 _ _ _ (on_blk_mul h1.right)
  have c2 : ((w.alloc (.cells (rqC 4 ty sz (.slice da dn dc)) 117)).alloc (.cells #[.int .u8 0, .int .u8 0, nV] 93)).cell? ⟨w.heap.size, 2, Option.none⟩ = some (.int .u32 (sz : Nat)) := cell_of_row _ _ 2 _ _ _ (on_blk_mul h1.right)
  rw [show ∀ A B C D : SP, A * (B * (C * D)) = C * (A * (B * D)) from fun A B C D => by ac_rfl] at h1
  clear h
  have hC := hide (execute_no m q _ ((w.alloc (.cells (rqC 4 ty sz (.slice da dn dc)) 117)).alloc (.cells #[.int .u8 0, .int .u8 0, nV] 93)) h1)
  clear h1
  go_enter Tryz.func78, Tryz.ntmps78
  go_wp2_with fail
  generalize ((w.alloc (.cells (rqC 4 ty sz (.slice da dn dc)) 117)).alloc (.cells #[.int .u8 0, .int .u8 0, nV] 93)) = w2 at *
  generalize hg : w.heap.size + 1 = g at *
  have Hg := hide hg
  clear hg
  clear c0 c1 c2
  refine hC.out.mono ?_
  clear hC
  rintro e w8 ⟨op8, res8, v8, body8, M8, rfl, hM8, hl8, h8, hs8⟩
  have S8 := hide (S1.out.trans hs8)
  obtain ⟨oa8, oc8, rfl, _, _, _, _⟩ := own_value h8
  rw [show ∀ A B C D : SP, A * (B * (C * D)) = C * (A * (B * D)) from fun A B C D => by ac_rfl] at h8
  have H8 := hide h8
  have g8 := hide (on_blk_mul h8)
  have HM8 := hide hM8
  have Hl8 := hide hl8
  clear hs8 h8 hM8 hl8
  have hone8 : (rsC op8 res8 (.slice oa8 body8.length oc8)).all (·.oneCell') = true := by simp [Value.oneCell', vb]
  have H9 := hide (H8.out.setRow (rsC op8 res8 (.slice oa8 body8.length oc8)))
  have S9 := hide (S8.out.setRow g (rsC op8 res8 (.slice oa8 body8.length oc8)))
  go_wp2_with (refine wpList_store_row rfl _ _ _ rfl g (rsC op8 res8 (.slice oa8 body8.length oc8)) rfl rfl _ _ g8.out hs rfl hone8 ?_)
  refine bodyPost_ret (v := .agg (rsC op8 res8 (.slice oa8 body8.length oc8))) (results_cell_row Tryz.results78 _ _ g _ (rsC op8 res8 (.slice oa8 body8.length oc8)) (0, 0) _ rfl (setRow_heap_same _ _ _ _ _ _ g8.out) hu rfl hs) rfl ?_
  exact ⟨op8, res8, _, body8, M8, rfl, HM8.out, Hl8.out, (SP.le.mul (SP.le.refl _) (SP.le.mul (SP.le.refl _) (SP.le_right _ _))).on H9.out.right, S9.out⟩

set_option maxRecDepth 100000 in
set_option maxHeartbeats 16000000 in
theorem oresp_6c (m q : Nat) (sz : Nat) (da : Option Addr) (dn dc : Nat) (F : SP) (w : World) (h : (blk m (.cells (mK q) 127 (0, 0)) * F).on w) :
    Calls Tryz.prog 78 #[.pointer (some ⟨m, 0, Option.none⟩), .agg (rqC 6 1 sz (.slice da dn dc))] w (AnEnd m F w) := by
  have hum := Tryz.underlying127
  have hu := Tryz.underlying93
  have huq := Tryz.underlying117
  have hz := zr_hz
  have hs : (Tryz.prog.info? 93).map (·.size) = some 3 := by kernel_rfl
  have h1 := (h.alloc (.cells (rqC 6 1 sz (.slice da dn dc)) 117)).alloc (.cells #[.int .u8 0, .int .u8 0, nV] 93)
  rw [World.size_alloc] at h1
  have S1 := hide (((Str.refl w).alloc (.cells (rqC 6 1 sz (.slice da dn dc)) 117)).alloc (.cells #[.int .u8 0, .int .u8 0, nV] 93))
  have c0 : ((w.alloc (.cells (rqC 6 1 sz (.slice da dn dc)) 117)).alloc (.cells #[.int .u8 0, .int .u8 0, nV] 93)).cell? ⟨w.heap.size, 0, Option.none⟩ = some (.int .u8 6) := cell_of_row _ _ 0 _ _ _ (on_blk_mul h1.right)
  have c1 : ((w.alloc (.cells (rqC 6 1 sz (.slice da dn dc)) 117)).alloc (.cells #[.int .u8 0, .int .u8 0, nV] 93)).cell? ⟨w.heap.size, 1, Option.none⟩ = some (.int .u8 1) := cell_of_row _ _ 1 _ _ _ (on_blk_mul h1.right)
  have c2 : ((w.alloc (.cells (rqC 6 1 sz (.slice da dn dc)) 117)).alloc (.cells #[.int .u8 0, .int .u8 0, nV] 93)).cell? ⟨w.heap.size, 2, Option.none⟩ = some (.int .u32 (sz : Nat)) := cell_of_row _ _ 2 _ _ _ (on_blk_mul h1.right)
  rw [show ∀ A B C D : SP, A * (B * (C * D)) = C * (A * (B * D)) from fun A B C D => by ac_rfl] at h1
  clear h
  have hC := hide (choose_1 m q _ ((w.alloc (.cells (rqC 6 1 sz (.slice da dn dc)) 117)).alloc (.cells #[.int .u8 0, .int .u8 0, nV] 93)) h1)
  clear h1
  go_enter Tryz.func78, Tryz.ntmps78
  go_wp2_with fail
  generalize ((w.alloc (.cells (rqC 6 1 sz (.slice da dn dc)) 117)).alloc (.cells #[.int .u8 0, .int .u8 0, nV] 93)) = w2 at *
  generalize hg : w.heap.size + 1 = g at *
  have Hg := hide hg
  clear hg
  clear c0 c1 c2
  refine hC.out.mono ?_
  clear hC
  rintro e w8 ⟨op8, res8, v8, body8, M8, rfl, hM8, hl8, h8, hs8⟩
  have S8 := hide (S1.out.trans hs8)
  obtain ⟨oa8, oc8, rfl, _, _, _, _⟩ := own_value h8
  rw [show ∀ A B C D : SP, A * (B * (C * D)) = C * (A * (B * D)) from fun A B C D => by ac_rfl] at h8
  have H8 := hide h8
  have g8 := hide (on_blk_mul h8)
  have HM8 := hide hM8
  have Hl8 := hide hl8
  clear hs8 h8 hM8 hl8
  have hone8 : (rsC op8 res8 (.slice oa8 body8.length oc8)).all (·.oneCell') = true := by simp [Value.oneCell', vb]
  have H9 := hide (H8.out.setRow (rsC op8 res8 (.slice oa8 body8.length oc8)))
  have S9 := hide (S8.out.setRow g (rsC op8 res8 (.slice oa8 body8.length oc8)))
  go_wp2_with (refine wpList_store_row rfl _ _ _ rfl g (rsC op8 res8 (.slice oa8 body8.length oc8)) rfl rfl _ _ g8.out hs rfl hone8 ?_)
  refine bodyPost_ret (v := .agg (rsC op8 res8 (.slice oa8 body8.length oc8))) (results_cell_row Tryz.results78 _ _ g _ (rsC op8 res8 (.slice oa8 body8.length oc8)) (0, 0) _ rfl (setRow_heap_same _ _ _ _ _ _ g8.out) hu rfl hs) rfl ?_
  exact ⟨op8, res8, _, body8, M8, rfl, HM8.out, Hl8.out, (SP.le.mul (SP.le.refl _) (SP.le.mul (SP.le.refl _) (SP.le_right _ _))).on H9.out.right, S9.out⟩

set_option maxRecDepth 100000 in
set_option maxHeartbeats 16000000 in
theorem oresp_6d (m q : Nat) (sz : Nat) (da : Option Addr) (dn dc : Nat) (F : SP) (w : World) (h : (blk m (.cells (mK q) 127 (0, 0)) * F).on w) :
    Calls Tryz.prog 78 #[.pointer (some ⟨m, 0, Option.none⟩), .agg (rqC 6 2 sz (.slice da dn dc))] w (AnEnd m F w) := by
  have hum := Tryz.underlying127
  have hu := Tryz.underlying93
  have huq := Tryz.underlying117
  have hz := zr_hz
  have hs : (Tryz.prog.info? 93).map (·.size) = some 3 := by kernel_rfl
  have h1 := (h.alloc (.cells (rqC 6 2 sz (.slice da dn dc)) 117)).alloc (.cells #[.int .u8 0, .int .u8 0, nV] 93)
  rw [World.size_alloc] at h1
  have S1 := hide (((Str.refl w).alloc (.cells (rqC 6 2 sz (.slice da dn dc)) 117)).alloc (.cells #[.int .u8 0, .int .u8 0, nV] 93))
  have c0 : ((w.alloc (.cells (rqC 6 2 sz (.slice da dn dc)) 117)).alloc (.cells #[.int .u8 0, .int .u8 0, nV] 93)).cell? ⟨w.heap.size, 0, Option.none⟩ = some (.int .u8 6) := cell_of_row _ _ 0 _ _ _ (on_blk_mul h1.right)
  have c1 : ((w.alloc (.cells (rqC 6 2 sz (.slice da dn dc)) 117)).alloc (.cells #[.int .u8 0, .int .u8 0, nV] 93)).cell? ⟨w.heap.size, 1, Option.none⟩ = some (.int .u8 2) := cell_of_row _ _ 1 _ _ _ (on_blk_mul h1.right)
  have c2 : ((w.alloc (.cells (rqC 6 2 sz (.slice da dn dc)) 117)).alloc (.cells #[.int .u8 0, .int .u8 0, nV] 93)).cell? ⟨w.heap.size, 2, Option.none⟩ = some (.int .u32 (sz : Nat)) := cell_of_row _ _ 2 _ _ _ (on_blk_mul h1.right)
  rw [show ∀ A B C D : SP, A * (B * (C * D)) = C * (A * (B * D)) from fun A B C D => by ac_rfl] at h1
  clear h
  have hC := hide (choose_2 m q _ ((w.alloc (.cells (rqC 6 2 sz (.slice da dn dc)) 117)).alloc (.cells #[.int .u8 0, .int .u8 0, nV] 93)) h1)
  clear h1
  go_enter Tryz.func78, Tryz.ntmps78
  go_wp2_with fail
  generalize ((w.alloc (.cells (rqC 6 2 sz (.slice da dn dc)) 117)).alloc (.cells #[.int .u8 0, .int .u8 0, nV] 93)) = w2 at *
  generalize hg : w.heap.size + 1 = g at *
  have Hg := hide hg
  clear hg
  clear c0 c1 c2
  refine hC.out.mono ?_
  clear hC
  rintro e w8 ⟨op8, res8, v8, body8, M8, rfl, hM8, hl8, h8, hs8⟩
  have S8 := hide (S1.out.trans hs8)
  obtain ⟨oa8, oc8, rfl, _, _, _, _⟩ := own_value h8
  rw [show ∀ A B C D : SP, A * (B * (C * D)) = C * (A * (B * D)) from fun A B C D => by ac_rfl] at h8
  have H8 := hide h8
  have g8 := hide (on_blk_mul h8)
  have HM8 := hide hM8
  have Hl8 := hide hl8
  clear hs8 h8 hM8 hl8
  have hone8 : (rsC op8 res8 (.slice oa8 body8.length oc8)).all (·.oneCell') = true := by simp [Value.oneCell', vb]
  have H9 := hide (H8.out.setRow (rsC op8 res8 (.slice oa8 body8.length oc8)))
  have S9 := hide (S8.out.setRow g (rsC op8 res8 (.slice oa8 body8.length oc8)))
  go_wp2_with (refine wpList_store_row rfl _ _ _ rfl g (rsC op8 res8 (.slice oa8 body8.length oc8)) rfl rfl _ _ g8.out hs rfl hone8 ?_)
  refine bodyPost_ret (v := .agg (rsC op8 res8 (.slice oa8 body8.length oc8))) (results_cell_row Tryz.results78 _ _ g _ (rsC op8 res8 (.slice oa8 body8.length oc8)) (0, 0) _ rfl (setRow_heap_same _ _ _ _ _ _ g8.out) hu rfl hs) rfl ?_
  exact ⟨op8, res8, _, body8, M8, rfl, HM8.out, Hl8.out, (SP.le.mul (SP.le.refl _) (SP.le.mul (SP.le.refl _) (SP.le_right _ _))).on H9.out.right, S9.out⟩

set_option maxRecDepth 100000 in
set_option maxHeartbeats 16000000 in
theorem oresp_6n (m q : Nat) (ty : UInt8) (sz : Nat) (da : Option Addr) (dn dc : Nat) (n1 : ty ≠ 1) (n2 : ty ≠ 2) (F : SP) (w : World) (h : (blk m (.cells (mK q) 127 (0, 0)) * F).on w) :
    Calls Tryz.prog 78 #[.pointer (some ⟨m, 0, Option.none⟩), .agg (rqC 6 ty sz (.slice da dn dc))] w (AnEnd m F w) := by
  have hum := Tryz.underlying127
  have hu := Tryz.underlying93
  have huq := Tryz.underlying117
  have hz := zr_hz
  have hs : (Tryz.prog.info? 93).map (·.size) = some 3 := by kernel_rfl
  have h1 := (h.alloc (.cells (rqC 6 ty sz (.slice da dn dc)) 117)).alloc (.cells #[.int .u8 0, .int .u8 0, nV] 93)
  rw [World.size_alloc] at h1
  have S1 := hide (((Str.refl w).alloc (.cells (rqC 6 ty sz (.slice da dn dc)) 117)).alloc (.cells #[.int .u8 0, .int .u8 0, nV] 93))
  have c0 : ((w.alloc (.cells (rqC 6 ty sz (.slice da dn dc)) 117)).alloc (.cells #[.int .u8 0, .int .u8 0, nV] 93)).cell? ⟨w.heap.size, 0, Option.none⟩ = some (.int .u8 6) := cell_of_row _ _ 0 _ _ _ (on_blk_mul h1.right)
  have c1 : ((w.alloc (.cells (rqC 6 ty sz (.slice da dn dc)) 117)).alloc (.cells #[.int .u8 0, .int .u8 0, nV] 93)).cell? ⟨w.heap.size, 1, Option.none⟩ = some (vb ty) := cell_of_row _ _ 1 _ _ _ (on_blk_mul h1.right)
  have c2 : ((w.alloc (.cells (rqC 6 ty sz (.slice da dn dc)) 117)).alloc (.cells #[.int .u8 0, .int .u8 0, nV] 93)).cell? ⟨w.heap.size, 2, Option.none⟩ = some (.int .u32 (sz : Nat)) := cell_of_row _ _ 2 _ _ _ (on_blk_mul h1.right)
  rw [show ∀ A B C D : SP, A * (B * (C * D)) = C * (A * (B * D)) from fun A B C D => by ac_rfl] at h1
  clear h
  have hC := hide (choose_no m q ty n1 n2 _ ((w.alloc (.cells (rqC 6 ty sz (.slice da dn dc)) 117)).alloc (.cells #[.int .u8 0, .int .u8 0, nV] 93)) h1)
  clear h1
  go_enter Tryz.func78, Tryz.ntmps78
  go_wp2_with fail
  generalize ((w.alloc (.cells (rqC 6 ty sz (.slice da dn dc)) 117)).alloc (.cells #[.int .u8 0, .int .u8 0, nV] 93)) = w2 at *
  generalize hg : w.heap.size + 1 = g at *
  have Hg := hide hg
  clear hg
  clear c0 c1 c2
  refine hC.out.mono ?_
  clear hC
  rintro e w8 ⟨op8, res8, v8, body8, M8, rfl, hM8, hl8, h8, hs8⟩
  have S8 := hide (S1.out.trans hs8)
  obtain ⟨oa8, oc8, rfl, _, _, _, _⟩ := own_value h8
  rw [show ∀ A B C D : SP, A * (B * (C * D)) = C * (A * (B * D)) from fun A B C D => by ac_rfl] at h8
  have H8 := hide h8
  have g8 := hide (on_blk_mul h8)
  have HM8 := hide hM8
  have Hl8 := hide hl8
  clear hs8 h8 hM8 hl8
  have hone8 : (rsC op8 res8 (.slice oa8 body8.length oc8)).all (·.oneCell') = true := by simp [Value.oneCell', vb]
  have H9 := hide (H8.out.setRow (rsC op8 res8 (.slice oa8 body8.length oc8)))
  have S9 := hide (S8.out.setRow g (rsC op8 res8 (.slice oa8 body8.length oc8)))
  go_wp2_with (refine wpList_store_row rfl _ _ _ rfl g (rsC op8 res8 (.slice oa8 body8.length oc8)) rfl rfl _ _ g8.out hs rfl hone8 ?_)
  refine bodyPost_ret (v := .agg (rsC op8 res8 (.slice oa8 body8.length oc8))) (results_cell_row Tryz.results78 _ _ g _ (rsC op8 res8 (.slice oa8 body8.length oc8)) (0, 0) _ rfl (setRow_heap_same _ _ _ _ _ _ g8.out) hu rfl hs) rfl ?_
  exact ⟨op8, res8, _, body8, M8, rfl, HM8.out, Hl8.out, (SP.le.mul (SP.le.refl _) (SP.le.mul (SP.le.refl _) (SP.le_right _ _))).on H9.out.right, S9.out⟩
end Go.Proofs.YtgmpmlneoiagdaaGreatDoor
