/- the document's points: by three numbers; None, the sum, the other side. -/
import Derived.Test.YtbplbdnofobbiaaDoorGCv1
import Derived.Test.YtbplbdnofobbiaaDoorGEd
import Derived.Test.YtbplbdnofobbiaaDoorFe16
import Derived.Test.YtbplbdnofobbiaaDoorFe18
namespace Go.Proofs.YtbplbdnofobbiaaDoor
namespace Cv
open Fe
open Go.ChangeShapes Go.WideShapes Go.ChangeAt Go.RowKit
set_option linter.unusedVariables false
set_option linter.unusedSimpArgs false

def mC (x y z : Nat) : Array Value := dvs (ds 17 x ++ (ds 17 y ++ ds 17 z))
theorem mC_size (x y z : Nat) : (mC x y z).size = 51 := by unfold mC; rw [dvs_size]; simp only [List.length_append, ds_len]
theorem mC_one (x y z : Nat) : (mC x y z).all (·.oneCell') = true := dvs_one _
theorem mInfo (x y z : Nat) : (Tryd.prog.info? 31).map (·.size) = some (mC x y z).size := by rw [mC_size]; kernel_rfl
theorem mSize (x y z x2 y2 z2 : Nat) : (mC x y z).size = (mC x2 y2 z2).size := by rw [mC_size, mC_size]
theorem ds_lit (n : Nat) : ds 17 n = [dg n 0, dg n 1, dg n 2, dg n 3, dg n 4, dg n 5, dg n 6, dg n 7, dg n 8, dg n 9, dg n 10, dg n 11, dg n 12, dg n 13, dg n 14, dg n 15, dg n 16] := rfl
theorem dg_0 (k : Nat) : dg 0 k = 0 := by unfold dg; rw [Nat.zero_div]
theorem mZero (w : World) : (zeroValue 31).run Tryd.prog w = .ok (.agg (mC 0 0 0)) w := by
  unfold mC
  rw [ds_lit]
  simp only [dg_0]
  kernel_rfl
theorem dvs_part (a b c : List Nat) (j : Nat) (v : Value) (h : (dvs b)[j]? = some v) : (dvs (a ++ (b ++ c)))[a.length + j]? = some v := by
  have hj : j < b.length := by
    have := (Array.getElem?_eq_some_iff.1 h).1
    rwa [dvs_size] at this
  have h2 : (b.map nv)[j]? = some v := by simpa [dvs] using h
  unfold dvs
  rw [List.getElem?_toArray, List.map_append, List.map_append, List.getElem?_append_right (by rw [List.length_map]; omega), List.length_map, Nat.add_sub_cancel_left, List.getElem?_append_left (by rw [List.length_map]; exact hj)]
  exact h2
theorem mC_x (x y z j : Nat) (v : Value) (h : (n17 x)[j]? = some v) : (mC x y z)[0 + j]? = some v := dvs_part [] (ds 17 x) _ j v h
theorem mC_y (x y z j : Nat) (v : Value) (h : (n17 y)[j]? = some v) : (mC x y z)[17 + j]? = some v := by
  have := dvs_part (ds 17 x) (ds 17 y) (ds 17 z) j v h
  rwa [ds_len] at this
theorem mC_z (x y z j : Nat) (v : Value) (h : (n17 z)[j]? = some v) : (mC x y z)[34 + j]? = some v := by
  have := dvs_part (ds 17 x ++ ds 17 y) (ds 17 z) [] j v h
  rw [List.append_nil, List.append_assoc, List.length_append, ds_len, ds_len] at this
  exact this
theorem n17_lit (n : Nat) : n17 n = #[nv (dg n 0), nv (dg n 1), nv (dg n 2), nv (dg n 3), nv (dg n 4), nv (dg n 5), nv (dg n 6), nv (dg n 7), nv (dg n 8), nv (dg n 9), nv (dg n 10), nv (dg n 11), nv (dg n 12), nv (dg n 13), nv (dg n 14), nv (dg n 15), nv (dg n 16)] := rfl
theorem mC_lit (x y z : Nat) : mC x y z = #[nv (dg x 0), nv (dg x 1), nv (dg x 2), nv (dg x 3), nv (dg x 4), nv (dg x 5), nv (dg x 6), nv (dg x 7), nv (dg x 8), nv (dg x 9), nv (dg x 10), nv (dg x 11), nv (dg x 12), nv (dg x 13), nv (dg x 14), nv (dg x 15), nv (dg x 16),
  nv (dg y 0), nv (dg y 1), nv (dg y 2), nv (dg y 3), nv (dg y 4), nv (dg y 5), nv (dg y 6), nv (dg y 7), nv (dg y 8), nv (dg y 9), nv (dg y 10), nv (dg y 11), nv (dg y 12), nv (dg y 13), nv (dg y 14), nv (dg y 15), nv (dg y 16),
  nv (dg z 0), nv (dg z 1), nv (dg z 2), nv (dg z 3), nv (dg z 4), nv (dg z 5), nv (dg z 6), nv (dg z 7), nv (dg z 8), nv (dg z 9), nv (dg z 10), nv (dg z 11), nv (dg z 12), nv (dg z 13), nv (dg z 14), nv (dg z 15), nv (dg z 16)] := rfl
theorem run_bm (x y z : Nat) (w : World) : (Instr.build 31 #[(0, .agg (n17 x)), (1, .agg (n17 y)), (2, .agg (n17 z))]).run Tryd.prog w = .ok (.agg (mC x y z)) w := by
  rw [n17_lit, n17_lit, n17_lit, mC_lit]; kernel_rfl
theorem rsm (n : Nat) (h : n < P5) (h2 : n ≤ 1152921504606846976) (X : World) : Calls Tryd.prog 46 #[.int .i64 (n : Int)] X fun e w' => e = .returned (.agg (n17 n)) ∧ Below X.heap.size X w' := by
  have := rsmall_any n h2 X
  rwa [Nat.mod_eq_of_lt h] at this
theorem lt255 {a : Nat} (h : a < P5) : a < 2 ^ 255 := by have := Ed.P5_255; omega
theorem rmul5 (a b : Nat) (ha : a < P5) (hb : b < P5) (X : World) : Calls Tryd.prog 42 #[.agg (n17 a), .agg (n17 b)] X fun e w' => e = .returned (.agg (n17 (a * b % P5))) ∧ Below X.heap.size X w' := rmul_any a b (lt255 ha) (lt255 hb) X
theorem radd5 (a b : Nat) (ha : a < P5) (hb : b < P5) (X : World) : Calls Tryd.prog 44 #[.agg (n17 a), .agg (n17 b)] X fun e w' => e = .returned (.agg (n17 ((a + b) % P5))) ∧ Below X.heap.size X w' := radd_any a b (lt255 ha) (lt255 hb) X
/-- a point's cells -/
def tpC (s : Ed.Tp) : Array Value := mC s.x.val s.y.val s.z.val
set_option maxRecDepth 100000 in
set_option maxHeartbeats 8000000 in
theorem mnone_any (w : World) : Calls Tryd.prog 59 #[] w fun e w' => e = .returned (.agg (tpC Ed.Tp.none)) ∧ Below w.heap.size w w' := by
  show Calls _ _ _ _ fun e w' => e = .returned (.agg (mC 0 1 1)) ∧ Below w.heap.size w w'
  have hum := Tryd.underlying31
  have hun := Tryd.underlying29
  have hzM := mZero
  have hzN := nZero
  have h0 := (on_all w).alloc (.cells (mC 0 0 0) 31)
  have s0 := (Str.refl w).alloc (.cells (mC 0 0 0) 31)
  try simp only [World.size_alloc] at h0
  have H1 := hide h0
  have S1 := hide s0
  clear h0 s0
  have Hb := hide (fun X => run_bm 0 1 1 X)
  have H0s := hide (fun X => rsm 0 (by decide) (by decide) X)
  have H1s := hide (fun X => rsm 1 (by decide) (by decide) X)
  have HsR := hide (mInfo 0 1 1)
  have HoR := hide (mC_one 0 1 1)
  have HzR := hide (mSize 0 0 0 0 1 1)
  have HsN0 := hide (nInfo 0)
  have HoN0 := hide (nOne 0)
  have HzN0 := hide (nSize 0 0)
  have HsN1 := hide (nInfo 1)
  have HoN1 := hide (nOne 1)
  have HzN1 := hide (nSize 0 1)
  generalize hvR : mC 0 1 1 = R at *
  clear hvR
  generalize hvN0 : n17 0 = N0 at *
  clear hvN0
  generalize hvN1 : n17 1 = N1 at *
  clear hvN1
  generalize hvZm : mC 0 0 0 = Zm at *
  clear hvZm
  generalize hvZn : n17 0 = Zn at *
  clear hvZn
  go_enter Tryd.func59, Tryd.ntmps59
  refine wp_seq_h fun K1 hK1 => ?_
  go_wp2_with fail
  refine hK1.out _ _ ?_
  clear hK1 K1
  generalize w.alloc (.cells Zm 31) = w1 at *
  refine wp_seq_h fun K2 hK2 => ?_
  refine wp_region_seq 4 [isV (.agg N0), isV (.agg N1), isV (.agg N1), isV (.agg R)]
    (by simp only [List.take_succ_cons, List.take_zero]; rfl) (by simp only [List.drop_succ_cons, List.drop_zero]; rfl) (by kernel_rfl) (by kernel_rfl) (by kernel_rfl) (by decide) rfl ?keep ?todo ?rest
  case keep => exact ⟨Keep.isV _, Keep.isV _, Keep.isV _, Keep.isV _, trivial⟩
  case todo =>
    refine ⟨?_, ?_, ?_, ?_, trivial⟩
    · intro ev X hT hb hk hf
      refine OpOk.enters (f := 46) (args := #[.int .i64 0]) (W' := X) (by simp [execOp, resolve, invoke, hb.1, hb.2.1, go_sem]) ((H0s.out X).mono ?_)
      rintro e _ ⟨rfl, hB⟩
      exact ⟨_, rfl, rfl, hB⟩
    · intro ev X hT hb hk hf
      refine OpOk.enters (f := 46) (args := #[.int .i64 1]) (W' := X) (by simp [execOp, resolve, invoke, hb.1, hb.2.1, go_sem]) ((H1s.out X).mono ?_)
      rintro e _ ⟨rfl, hB⟩
      exact ⟨_, rfl, rfl, hB⟩
    · intro ev X hT hb hk hf
      refine OpOk.enters (f := 46) (args := #[.int .i64 1]) (W' := X) (by simp [execOp, resolve, invoke, hb.1, hb.2.1, go_sem]) ((H1s.out X).mono ?_)
      rintro e _ ⟨rfl, hB⟩
      exact ⟨_, rfl, rfl, hB⟩
    · intro ev X hT hb hk hf
      have e0 : ev (.tmp 1) = .agg N0 := hf.1
      have e1 : ev (.tmp 2) = .agg N1 := hf.2.1
      have e2 : ev (.tmp 3) = .agg N1 := hf.2.2.1
      exact OpOk.run (v := .agg R) (W' := X) (by simp [execOp, e0, e1, e2, Hb.out X]) ⟨rfl, Stay.refl _⟩
  case rest =>
    intro w2 hX
    rintro _ rfl _ rfl _ rfl _ rfl
    have H2 := hide (H1.out.below hX)
    have S2 := hide (S1.out.trans (Str.below hX))
    clear hX H1 S1
    go_wp2
    refine Rest.done ?_
    have gR := on_blk_mul H2.out
    have HB := hide (all_below H2.out.right S2.out)
    go_wp2_with (first
      | (refine wpList_store_row rfl _ _ _ rfl (w.heap.size) R rfl rfl _ _ gR HsR.out HzR.out HoR.out ?_))
    refine hK2.out _ _ ?_
    clear hK2 K2
    go_wp2_with fail
    exact bodyPost_ret (v := .agg R) (results_cell_row Tryd.results59 _ _ (w.heap.size) _ R (0, 0) _ rfl (setRow_heap_same _ _ _ _ _ _ gR) hum rfl HsR.out) rfl ⟨rfl, below_setRow HB.out (by omega) _⟩
set_option maxRecDepth 100000 in
set_option maxHeartbeats 8000000 in
theorem mneg_any (s : Ed.Tp) (w : World) : Calls Tryd.prog 17 #[.agg (tpC s)] w fun e w' => e = .returned (.agg (tpC ⟨-s.x, s.y, s.z⟩)) ∧ Below w.heap.size w w' := by
  unfold tpC
  rw [Ed.val_neg]
  have bx := s.x.isLt
  generalize s.x.val = x at *
  generalize s.y.val = y at *
  generalize s.z.val = z at *
  have hum := Tryd.underlying31
  have hun := Tryd.underlying29
  have hzM := mZero
  have hzN := nZero
  have h0 := ((on_all w).alloc (.cells (mC x y z) 31)).alloc (.cells (mC 0 0 0) 31)
  have s0 := ((Str.refl w).alloc (.cells (mC x y z) 31)).alloc (.cells (mC 0 0 0) 31)
  try simp only [World.size_alloc] at h0
  have H1 := hide h0
  have S1 := hide s0
  clear h0 s0
  have Hb := hide (fun X => run_bm ((P5 - x) % P5) y z X)
  have Hn := hide (fun X => rneg_any x bx X)
  have HsA := hide (mInfo x y z)
  have HoA := hide (mC_one x y z)
  have HzA := hide (mSize 0 0 0 x y z)
  have HpA_0 := hide (mC_x x y z)
  have HpA_17 := hide (mC_y x y z)
  have HpA_34 := hide (mC_z x y z)
  have HsR := hide (mInfo ((P5 - x) % P5) y z)
  have HoR := hide (mC_one ((P5 - x) % P5) y z)
  have HzR := hide (mSize 0 0 0 ((P5 - x) % P5) y z)
  have HsXN := hide (nInfo ((P5 - x) % P5))
  have HoXN := hide (nOne ((P5 - x) % P5))
  have HzXN := hide (nSize 0 ((P5 - x) % P5))
  have HsXA := hide (nInfo x)
  have HoXA := hide (nOne x)
  have HzXA := hide (nSize 0 x)
  have HsYA := hide (nInfo y)
  have HoYA := hide (nOne y)
  have HzYA := hide (nSize 0 y)
  have HsZA := hide (nInfo z)
  have HoZA := hide (nOne z)
  have HzZA := hide (nSize 0 z)
  generalize hvA : mC x y z = A at *
  clear hvA
  generalize hvR : mC ((P5 - x) % P5) y z = R at *
  clear hvR
  generalize hvXN : n17 ((P5 - x) % P5) = XN at *
  clear hvXN
  generalize hvXA : n17 x = XA at *
  clear hvXA
  generalize hvYA : n17 y = YA at *
  clear hvYA
  generalize hvZA : n17 z = ZA at *
  clear hvZA
  generalize hvZm : mC 0 0 0 = Zm at *
  clear hvZm
  generalize hvZn : n17 0 = Zn at *
  clear hvZn
  go_enter Tryd.func17, Tryd.ntmps17
  refine wp_seq_h fun K3 hK3 => ?_
  go_wp2_with fail
  refine hK3.out _ _ ?_
  clear hK3 K3
  generalize (w.alloc (.cells A 31)).alloc (.cells Zm 31) = w1 at *
  refine wp_seq_h fun K4 hK4 => ?_
  refine wp_region_tail 8 [isV (.pointer (some ⟨w.heap.size, 0, Option.none⟩)), isV (.agg XA), isV (.agg XN), isV (.pointer (some ⟨w.heap.size, 17, Option.none⟩)), isV (.agg YA), isV (.pointer (some ⟨w.heap.size, 34, Option.none⟩)), isV (.agg ZA), isV (.agg R)]
    (by simp only [List.take_succ_cons, List.take_zero]; rfl) (by simp only [List.drop_succ_cons, List.drop_zero]; rfl) (by kernel_rfl) (by kernel_rfl) (by kernel_rfl) (by decide) rfl ?keep ?todo ?rest
  case keep => exact ⟨Keep.isV _, Keep.isV _, Keep.isV _, Keep.isV _, Keep.isV _, Keep.isV _, Keep.isV _, Keep.isV _, trivial⟩
  case todo =>
    refine ⟨?_, ?_, ?_, ?_, ?_, ?_, ?_, ?_, trivial⟩
    · intro ev X hT hb hk hf
      have e0 : ev (.tmp 1) = .pointer (some ⟨w.heap.size, 0, Option.none⟩) := hk.1
      exact OpOk.run (v := .pointer (some ⟨w.heap.size, 0, Option.none⟩)) (W' := X) (by simp [execOp, e0, go_sem]) ⟨rfl, Stay.refl _⟩
    · intro ev X hT hb hk hf
      have e0 : ev (.tmp 3) = .pointer (some ⟨w.heap.size, 0, Option.none⟩) := hf.1
      exact OpOk.load_part _ _ rfl _ _ e0 XA _ (rowPart (on_blk_mul (H1.out.below hT).right) HpA_0.out) hun rfl HsXA.out ⟨rfl, Stay.refl _⟩
    · intro ev X hT hb hk hf
      have e0 : ev (.tmp 4) = .agg XA := hf.1
      refine OpOk.enters (f := 45) (args := #[.agg XA]) (W' := X) (by simp [execOp, resolve, invoke, e0, hb.1, hb.2.1, go_sem]) ((Hn.out X).mono ?_)
      rintro e _ ⟨rfl, hB⟩
      exact ⟨_, rfl, rfl, hB⟩
    · intro ev X hT hb hk hf
      have e0 : ev (.tmp 1) = .pointer (some ⟨w.heap.size, 0, Option.none⟩) := hk.1
      exact OpOk.run (v := .pointer (some ⟨w.heap.size, 17, Option.none⟩)) (W' := X) (by simp [execOp, e0, go_sem]) ⟨rfl, Stay.refl _⟩
    · intro ev X hT hb hk hf
      have e0 : ev (.tmp 6) = .pointer (some ⟨w.heap.size, 17, Option.none⟩) := hf.1
      exact OpOk.load_part _ _ rfl _ _ e0 YA _ (rowPart (on_blk_mul (H1.out.below hT).right) HpA_17.out) hun rfl HsYA.out ⟨rfl, Stay.refl _⟩
    · intro ev X hT hb hk hf
      have e0 : ev (.tmp 1) = .pointer (some ⟨w.heap.size, 0, Option.none⟩) := hk.1
      exact OpOk.run (v := .pointer (some ⟨w.heap.size, 34, Option.none⟩)) (W' := X) (by simp [execOp, e0, go_sem]) ⟨rfl, Stay.refl _⟩
    · intro ev X hT hb hk hf
      have e0 : ev (.tmp 8) = .pointer (some ⟨w.heap.size, 34, Option.none⟩) := hf.1
      exact OpOk.load_part _ _ rfl _ _ e0 ZA _ (rowPart (on_blk_mul (H1.out.below hT).right) HpA_34.out) hun rfl HsZA.out ⟨rfl, Stay.refl _⟩
    · intro ev X hT hb hk hf
      have e0 : ev (.tmp 5) = .agg XN := hf.1
      have e1 : ev (.tmp 7) = .agg YA := hf.2.1
      have e2 : ev (.tmp 9) = .agg ZA := hf.2.2.1
      exact OpOk.run (v := .agg R) (W' := X) (by simp [execOp, e0, e1, e2, Hb.out X]) ⟨rfl, Stay.refl _⟩
  case rest =>
    intro w2 hX
    rintro _ rfl _ rfl _ rfl _ rfl _ rfl _ rfl _ rfl _ rfl
    have H2 := hide (H1.out.below hX)
    have S2 := hide (S1.out.trans (Str.below hX))
    clear hX H1 S1
    go_wp2
    refine Rest.done ?_
    have gR := on_blk_mul H2.out
    have HB := hide (all_below H2.out.right.right S2.out)
    go_wp2_with (first
      | (refine wpList_store_row rfl _ _ _ rfl (w.heap.size + 1) R rfl rfl _ _ gR HsR.out HzR.out HoR.out ?_))
    refine hK4.out _ _ ?_
    clear hK4 K4
    go_wp2_with fail
    exact bodyPost_ret (v := .agg R) (results_cell_row Tryd.results17 _ _ (w.heap.size + 1) _ R (0, 0) _ rfl (setRow_heap_same _ _ _ _ _ _ gR) hum rfl HsR.out) rfl ⟨rfl, below_setRow HB.out (by omega) _⟩
set_option maxRecDepth 100000 in
set_option maxHeartbeats 8000000 in
theorem madd_nat (px py pz qx qy qz : Nat) (bpx : px < P5) (bpy : py < P5) (bpz : pz < P5) (bqx : qx < P5) (bqy : qy < P5) (bqz : qz < P5) (d : Nat) (bd : d < P5) (w : World) :
    Calls Tryd.prog 13 #[.agg (mC px py pz), .agg (mC qx qy qz), .agg (n17 d)] w fun e w' => e = .returned (.agg (mC
      (pz * qz % P5 * ((pz * qz % P5 * (pz * qz % P5) % P5 + (P5 - d * (px * qx % P5 * (py * qy % P5) % P5) % P5)) % P5) % P5 * ((((px + py) % P5 * ((qx + qy) % P5) % P5 + (P5 - px * qx % P5)) % P5 + (P5 - py * qy % P5)) % P5) % P5)
      (pz * qz % P5 * ((pz * qz % P5 * (pz * qz % P5) % P5 + d * (px * qx % P5 * (py * qy % P5) % P5) % P5) % P5) % P5 * ((py * qy % P5 + px * qx % P5) % P5) % P5)
      ((pz * qz % P5 * (pz * qz % P5) % P5 + (P5 - d * (px * qx % P5 * (py * qy % P5) % P5) % P5)) % P5 * ((pz * qz % P5 * (pz * qz % P5) % P5 + d * (px * qx % P5 * (py * qy % P5) % P5) % P5) % P5) % P5))) ∧ Below w.heap.size w w' := by
  have hum := Tryd.underlying31
  have hun := Tryd.underlying29
  have hzM := mZero
  have hzN := nZero
  have h0 := ((((on_all w).alloc (.cells (mC px py pz) 31)).alloc (.cells (mC qx qy qz) 31)).alloc (.cells (n17 d) 29)).alloc (.cells (mC 0 0 0) 31)
  have s0 := ((((Str.refl w).alloc (.cells (mC px py pz) 31)).alloc (.cells (mC qx qy qz) 31)).alloc (.cells (n17 d) 29)).alloc (.cells (mC 0 0 0) 31)
  try simp only [World.size_alloc] at h0
  have H1 := hide h0
  have S1 := hide s0
  clear h0 s0
  have kMul_pz_qz0 := fun X => rmul5 pz qz bpz bqz X
  have ba : pz * qz % P5 < P5 := Nat.mod_lt _ P5_pos
  generalize hea : pz * qz % P5 = a at *
  have Hea := hide hea
  clear hea
  have kMul_pz_qz := hide kMul_pz_qz0
  clear kMul_pz_qz0
  have kMul_a_a0 := fun X => rmul5 a a ba ba X
  have bb : a * a % P5 < P5 := Nat.mod_lt _ P5_pos
  generalize heb : a * a % P5 = b at *
  have Heb := hide heb
  clear heb
  have kMul_a_a := hide kMul_a_a0
  clear kMul_a_a0
  have kMul_px_qx0 := fun X => rmul5 px qx bpx bqx X
  have bc : px * qx % P5 < P5 := Nat.mod_lt _ P5_pos
  generalize hec : px * qx % P5 = c at *
  have Hec := hide hec
  clear hec
  have kMul_px_qx := hide kMul_px_qx0
  clear kMul_px_qx0
  have kMul_py_qy0 := fun X => rmul5 py qy bpy bqy X
  have be : py * qy % P5 < P5 := Nat.mod_lt _ P5_pos
  generalize hee : py * qy % P5 = e at *
  have Hee := hide hee
  clear hee
  have kMul_py_qy := hide kMul_py_qy0
  clear kMul_py_qy0
  have kMul_c_e0 := fun X => rmul5 c e bc be X
  have bce : c * e % P5 < P5 := Nat.mod_lt _ P5_pos
  generalize hece : c * e % P5 = ce at *
  have Hece := hide hece
  clear hece
  have kMul_c_e := hide kMul_c_e0
  clear kMul_c_e0
  have kMul_d_ce0 := fun X => rmul5 d ce bd bce X
  have bf : d * ce % P5 < P5 := Nat.mod_lt _ P5_pos
  generalize hef : d * ce % P5 = f at *
  have Hef := hide hef
  clear hef
  have kMul_d_ce := hide kMul_d_ce0
  clear kMul_d_ce0
  have kSub_b_f0 := fun X => rsub_any b f bb bf X
  have bg : (b + (P5 - f)) % P5 < P5 := Nat.mod_lt _ P5_pos
  generalize heg : (b + (P5 - f)) % P5 = g at *
  have Heg := hide heg
  clear heg
  have kSub_b_f := hide kSub_b_f0
  clear kSub_b_f0
  have kAdd_b_f0 := fun X => radd5 b f bb bf X
  have bh : (b + f) % P5 < P5 := Nat.mod_lt _ P5_pos
  generalize heh : (b + f) % P5 = h at *
  have Heh := hide heh
  clear heh
  have kAdd_b_f := hide kAdd_b_f0
  clear kAdd_b_f0
  have kAdd_px_py0 := fun X => radd5 px py bpx bpy X
  have bs1 : (px + py) % P5 < P5 := Nat.mod_lt _ P5_pos
  generalize hes1 : (px + py) % P5 = s1 at *
  have Hes1 := hide hes1
  clear hes1
  have kAdd_px_py := hide kAdd_px_py0
  clear kAdd_px_py0
  have kAdd_qx_qy0 := fun X => radd5 qx qy bqx bqy X
  have bs2 : (qx + qy) % P5 < P5 := Nat.mod_lt _ P5_pos
  generalize hes2 : (qx + qy) % P5 = s2 at *
  have Hes2 := hide hes2
  clear hes2
  have kAdd_qx_qy := hide kAdd_qx_qy0
  clear kAdd_qx_qy0
  have kMul_s1_s20 := fun X => rmul5 s1 s2 bs1 bs2 X
  have bm : s1 * s2 % P5 < P5 := Nat.mod_lt _ P5_pos
  generalize hem : s1 * s2 % P5 = m at *
  have Hem := hide hem
  clear hem
  have kMul_s1_s2 := hide kMul_s1_s20
  clear kMul_s1_s20
  have kSub_m_c0 := fun X => rsub_any m c bm bc X
  have bm1 : (m + (P5 - c)) % P5 < P5 := Nat.mod_lt _ P5_pos
  generalize hem1 : (m + (P5 - c)) % P5 = m1 at *
  have Hem1 := hide hem1
  clear hem1
  have kSub_m_c := hide kSub_m_c0
  clear kSub_m_c0
  have kSub_m1_e0 := fun X => rsub_any m1 e bm1 be X
  have bcr : (m1 + (P5 - e)) % P5 < P5 := Nat.mod_lt _ P5_pos
  generalize hecr : (m1 + (P5 - e)) % P5 = cr at *
  have Hecr := hide hecr
  clear hecr
  have kSub_m1_e := hide kSub_m1_e0
  clear kSub_m1_e0
  have kMul_a_g0 := fun X => rmul5 a g ba bg X
  have bag : a * g % P5 < P5 := Nat.mod_lt _ P5_pos
  generalize heag : a * g % P5 = ag at *
  have Heag := hide heag
  clear heag
  have kMul_a_g := hide kMul_a_g0
  clear kMul_a_g0
  have kMul_ag_cr0 := fun X => rmul5 ag cr bag bcr X
  have brx : ag * cr % P5 < P5 := Nat.mod_lt _ P5_pos
  generalize herx : ag * cr % P5 = rx at *
  have Herx := hide herx
  clear herx
  have kMul_ag_cr := hide kMul_ag_cr0
  clear kMul_ag_cr0
  have kMul_a_h0 := fun X => rmul5 a h ba bh X
  have bah : a * h % P5 < P5 := Nat.mod_lt _ P5_pos
  generalize heah : a * h % P5 = ah at *
  have Heah := hide heah
  clear heah
  have kMul_a_h := hide kMul_a_h0
  clear kMul_a_h0
  have kAdd_e_c0 := fun X => radd5 e c be bc X
  have bec : (e + c) % P5 < P5 := Nat.mod_lt _ P5_pos
  generalize heec : (e + c) % P5 = ec at *
  have Heec := hide heec
  clear heec
  have kAdd_e_c := hide kAdd_e_c0
  clear kAdd_e_c0
  have kMul_ah_ec0 := fun X => rmul5 ah ec bah bec X
  have bry : ah * ec % P5 < P5 := Nat.mod_lt _ P5_pos
  generalize hery : ah * ec % P5 = ry at *
  have Hery := hide hery
  clear hery
  have kMul_ah_ec := hide kMul_ah_ec0
  clear kMul_ah_ec0
  have kMul_g_h0 := fun X => rmul5 g h bg bh X
  have brz : g * h % P5 < P5 := Nat.mod_lt _ P5_pos
  generalize herz : g * h % P5 = rz at *
  have Herz := hide herz
  clear herz
  have kMul_g_h := hide kMul_g_h0
  clear kMul_g_h0
  have Hb := hide (fun X => run_bm rx ry rz X)
  have HsPP := hide (mInfo px py pz)
  have HoPP := hide (mC_one px py pz)
  have HzPP := hide (mSize 0 0 0 px py pz)
  have HpPP_0 := hide (mC_x px py pz)
  have HpPP_17 := hide (mC_y px py pz)
  have HpPP_34 := hide (mC_z px py pz)
  have HsQQ := hide (mInfo qx qy qz)
  have HoQQ := hide (mC_one qx qy qz)
  have HzQQ := hide (mSize 0 0 0 qx qy qz)
  have HpQQ_0 := hide (mC_x qx qy qz)
  have HpQQ_17 := hide (mC_y qx qy qz)
  have HpQQ_34 := hide (mC_z qx qy qz)
  have HsRR := hide (mInfo rx ry rz)
  have HoRR := hide (mC_one rx ry rz)
  have HzRR := hide (mSize 0 0 0 rx ry rz)
  have HsPX := hide (nInfo px)
  have HoPX := hide (nOne px)
  have HzPX := hide (nSize 0 px)
  have HsPY := hide (nInfo py)
  have HoPY := hide (nOne py)
  have HzPY := hide (nSize 0 py)
  have HsPZ := hide (nInfo pz)
  have HoPZ := hide (nOne pz)
  have HzPZ := hide (nSize 0 pz)
  have HsQX := hide (nInfo qx)
  have HoQX := hide (nOne qx)
  have HzQX := hide (nSize 0 qx)
  have HsQY := hide (nInfo qy)
  have HoQY := hide (nOne qy)
  have HzQY := hide (nSize 0 qy)
  have HsQZ := hide (nInfo qz)
  have HoQZ := hide (nOne qz)
  have HzQZ := hide (nSize 0 qz)
  have HsDd := hide (nInfo d)
  have HoDd := hide (nOne d)
  have HzDd := hide (nSize 0 d)
  have HsVa := hide (nInfo a)
  have HoVa := hide (nOne a)
  have HzVa := hide (nSize 0 a)
  have HsVb := hide (nInfo b)
  have HoVb := hide (nOne b)
  have HzVb := hide (nSize 0 b)
  have HsVc := hide (nInfo c)
  have HoVc := hide (nOne c)
  have HzVc := hide (nSize 0 c)
  have HsVe := hide (nInfo e)
  have HoVe := hide (nOne e)
  have HzVe := hide (nSize 0 e)
  have HsVce := hide (nInfo ce)
  have HoVce := hide (nOne ce)
  have HzVce := hide (nSize 0 ce)
  have HsVf := hide (nInfo f)
  have HoVf := hide (nOne f)
  have HzVf := hide (nSize 0 f)
  have HsVg := hide (nInfo g)
  have HoVg := hide (nOne g)
  have HzVg := hide (nSize 0 g)
  have HsVh := hide (nInfo h)
  have HoVh := hide (nOne h)
  have HzVh := hide (nSize 0 h)
  have HsVs1 := hide (nInfo s1)
  have HoVs1 := hide (nOne s1)
  have HzVs1 := hide (nSize 0 s1)
  have HsVs2 := hide (nInfo s2)
  have HoVs2 := hide (nOne s2)
  have HzVs2 := hide (nSize 0 s2)
  have HsVm := hide (nInfo m)
  have HoVm := hide (nOne m)
  have HzVm := hide (nSize 0 m)
  have HsVm1 := hide (nInfo m1)
  have HoVm1 := hide (nOne m1)
  have HzVm1 := hide (nSize 0 m1)
  have HsVcr := hide (nInfo cr)
  have HoVcr := hide (nOne cr)
  have HzVcr := hide (nSize 0 cr)
  have HsVag := hide (nInfo ag)
  have HoVag := hide (nOne ag)
  have HzVag := hide (nSize 0 ag)
  have HsVrx := hide (nInfo rx)
  have HoVrx := hide (nOne rx)
  have HzVrx := hide (nSize 0 rx)
  have HsVah := hide (nInfo ah)
  have HoVah := hide (nOne ah)
  have HzVah := hide (nSize 0 ah)
  have HsVec := hide (nInfo ec)
  have HoVec := hide (nOne ec)
  have HzVec := hide (nSize 0 ec)
  have HsVry := hide (nInfo ry)
  have HoVry := hide (nOne ry)
  have HzVry := hide (nSize 0 ry)
  have HsVrz := hide (nInfo rz)
  have HoVrz := hide (nOne rz)
  have HzVrz := hide (nSize 0 rz)
  clear ba bb bc be bce bf bg bh bs1 bs2 bm bm1 bcr bag brx bah bec bry brz bpx bpy bpz bqx bqy bqz bd
  generalize hvPP : mC px py pz = PP at *
  clear hvPP
  generalize hvQQ : mC qx qy qz = QQ at *
  clear hvQQ
  generalize hvRR : mC rx ry rz = RR at *
  clear hvRR
  generalize hvPX : n17 px = PX at *
  clear hvPX
  generalize hvPY : n17 py = PY at *
  clear hvPY
  generalize hvPZ : n17 pz = PZ at *
  clear hvPZ
  generalize hvQX : n17 qx = QX at *
  clear hvQX
  generalize hvQY : n17 qy = QY at *
  clear hvQY
  generalize hvQZ : n17 qz = QZ at *
  clear hvQZ
  generalize hvDd : n17 d = Dd at *
  clear hvDd
  generalize hvVa : n17 a = Va at *
  clear hvVa
  generalize hvVb : n17 b = Vb at *
  clear hvVb
  generalize hvVc : n17 c = Vc at *
  clear hvVc
  generalize hvVe : n17 e = Ve at *
  clear hvVe
  generalize hvVce : n17 ce = Vce at *
  clear hvVce
  generalize hvVf : n17 f = Vf at *
  clear hvVf
  generalize hvVg : n17 g = Vg at *
  clear hvVg
  generalize hvVh : n17 h = Vh at *
  clear hvVh
  generalize hvVs1 : n17 s1 = Vs1 at *
  clear hvVs1
  generalize hvVs2 : n17 s2 = Vs2 at *
  clear hvVs2
  generalize hvVm : n17 m = Vm at *
  clear hvVm
  generalize hvVm1 : n17 m1 = Vm1 at *
  clear hvVm1
  generalize hvVcr : n17 cr = Vcr at *
  clear hvVcr
  generalize hvVag : n17 ag = Vag at *
  clear hvVag
  generalize hvVrx : n17 rx = Vrx at *
  clear hvVrx
  generalize hvVah : n17 ah = Vah at *
  clear hvVah
  generalize hvVec : n17 ec = Vec at *
  clear hvVec
  generalize hvVry : n17 ry = Vry at *
  clear hvVry
  generalize hvVrz : n17 rz = Vrz at *
  clear hvVrz
  generalize hvZm : mC 0 0 0 = Zm at *
  clear hvZm
  generalize hvZn : n17 0 = Zn at *
  clear hvZn
  go_enter Tryd.func13, Tryd.ntmps13
  refine wp_seq_h fun K5 hK5 => ?_
  go_wp2_with fail
  refine hK5.out _ _ ?_
  clear hK5 K5
  generalize (((w.alloc (.cells PP 31)).alloc (.cells QQ 31)).alloc (.cells Dd 29)).alloc (.cells Zm 31) = w1 at *
  refine wp_seq_h fun K6 hK6 => ?_
  refine wp_region_seq 6 [isV (.pointer (some ⟨w.heap.size, 34, Option.none⟩)), isV (.agg PZ), isV (.pointer (some ⟨w.heap.size + 1, 34, Option.none⟩)), isV (.agg QZ), isV (.agg Va), Fresh w1.heap.size (.cells Zn 29 (0, 0))]
    (by simp only [List.take_succ_cons, List.take_zero]; rfl) (by simp only [List.drop_succ_cons, List.drop_zero]; rfl) (by kernel_rfl) (by kernel_rfl) (by kernel_rfl) (by decide) rfl ?keep ?todo ?rest
  case keep => exact ⟨Keep.isV _, Keep.isV _, Keep.isV _, Keep.isV _, Keep.isV _, Fresh.keep, trivial⟩
  case todo =>
    refine ⟨?_, ?_, ?_, ?_, ?_, ?_, trivial⟩
    · intro ev X hT hb hk hf
      have e0 : ev (.tmp 3) = .pointer (some ⟨w.heap.size, 0, Option.none⟩) := hk.1
      exact OpOk.run (v := .pointer (some ⟨w.heap.size, 34, Option.none⟩)) (W' := X) (by simp [execOp, e0, go_sem]) ⟨rfl, Stay.refl _⟩
    · intro ev X hT hb hk hf
      have e0 : ev (.tmp 15) = .pointer (some ⟨w.heap.size, 34, Option.none⟩) := hf.1
      exact OpOk.load_part _ _ rfl _ _ e0 PZ _ (rowPart (on_blk_mul (H1.out.below hT).right.right.right) HpPP_34.out) hun rfl HsPZ.out ⟨rfl, Stay.refl _⟩
    · intro ev X hT hb hk hf
      have e0 : ev (.tmp 4) = .pointer (some ⟨w.heap.size + 1, 0, Option.none⟩) := hk.1
      exact OpOk.run (v := .pointer (some ⟨w.heap.size + 1, 34, Option.none⟩)) (W' := X) (by simp [execOp, e0, go_sem]) ⟨rfl, Stay.refl _⟩
    · intro ev X hT hb hk hf
      have e0 : ev (.tmp 17) = .pointer (some ⟨w.heap.size + 1, 34, Option.none⟩) := hf.1
      exact OpOk.load_part _ _ rfl _ _ e0 QZ _ (rowPart (on_blk_mul (H1.out.below hT).right.right) HpQQ_34.out) hun rfl HsQZ.out ⟨rfl, Stay.refl _⟩
    · intro ev X hT hb hk hf
      have e0 : ev (.tmp 16) = .agg PZ := hf.1
      have e1 : ev (.tmp 18) = .agg QZ := hf.2.1
      refine OpOk.enters (f := 42) (args := #[.agg PZ, .agg QZ]) (W' := X) (by simp [execOp, resolve, invoke, e0, e1, hb.1, hb.2.1, go_sem]) ((kMul_pz_qz.out X).mono ?_)
      rintro e _ ⟨rfl, hB⟩
      exact ⟨_, rfl, rfl, hB⟩
    · intro ev X hT hb hk hf
      exact OpOk.run (v := .pointer (some ⟨X.heap.size, 0, Option.none⟩)) (W' := X.alloc (.cells Zn 29)) (by simp [execOp, hzN, go_sem]) ⟨⟨X.heap.size, rfl, hT.size, heap_alloc_new X _⟩, (Below.refl X.heap.size X).alloc (Nat.le_refl _) _⟩
  case rest =>
    intro w2 hX
    rintro _ rfl _ rfl _ rfl _ rfl _ rfl _ ⟨g7, rfl, hgg7, hcg7⟩
    have H2 := hide (on_fresh H1.out hX hgg7 hcg7)
    have S2 := hide (S1.out.trans (Str.below hX))
    clear hX H1 S1 hgg7 hcg7
    go_wp2
    refine Rest.done ?_
    have H3 := hide (st0 H2.out (cs := Va))
    have S3 := hide (S2.out.setRow (g7) Va)
    have gW := on_blk_mul H2.out
    go_wp2_with (first
      | (refine wpList_store_row rfl _ _ _ rfl (g7) Va rfl rfl _ _ gW HsVa.out HzVa.out HoVa.out ?_))
    refine hK6.out _ _ ?_
    clear hK6 K6
    generalize w2.setRow (g7) Va = w3 at *
    clear gW H2 S2
    refine wp_seq_h fun K7 hK7 => ?_
    refine wp_region_seq 4 [isV (.agg Va), isV (.agg Va), isV (.agg Vb), Fresh w3.heap.size (.cells Zn 29 (0, 0))]
      (by simp only [List.take_succ_cons, List.take_zero]; rfl) (by simp only [List.drop_succ_cons, List.drop_zero]; rfl) (by kernel_rfl) (by kernel_rfl) (by kernel_rfl) (by decide) rfl ?keep ?todo ?rest
    case keep => exact ⟨Keep.isV _, Keep.isV _, Keep.isV _, Fresh.keep, trivial⟩
    case todo =>
      refine ⟨?_, ?_, ?_, ?_, trivial⟩
      · intro ev X hT hb hk hf
        have e0 : ev (.tmp 7) = .pointer (some ⟨g7, 0, Option.none⟩) := hk.1
        exact OpOk.load_row _ _ rfl _ e0 _ Va (0, 0) _ (on_blk_mul (H3.out.below hT)) hun rfl HsVa.out ⟨rfl, Stay.refl _⟩
      · intro ev X hT hb hk hf
        have e0 : ev (.tmp 7) = .pointer (some ⟨g7, 0, Option.none⟩) := hk.1
        exact OpOk.load_row _ _ rfl _ e0 _ Va (0, 0) _ (on_blk_mul (H3.out.below hT)) hun rfl HsVa.out ⟨rfl, Stay.refl _⟩
      · intro ev X hT hb hk hf
        have e0 : ev (.tmp 20) = .agg Va := hf.1
        have e1 : ev (.tmp 21) = .agg Va := hf.2.1
        refine OpOk.enters (f := 42) (args := #[.agg Va, .agg Va]) (W' := X) (by simp [execOp, resolve, invoke, e0, e1, hb.1, hb.2.1, go_sem]) ((kMul_a_a.out X).mono ?_)
        rintro e _ ⟨rfl, hB⟩
        exact ⟨_, rfl, rfl, hB⟩
      · intro ev X hT hb hk hf
        exact OpOk.run (v := .pointer (some ⟨X.heap.size, 0, Option.none⟩)) (W' := X.alloc (.cells Zn 29)) (by simp [execOp, hzN, go_sem]) ⟨⟨X.heap.size, rfl, hT.size, heap_alloc_new X _⟩, (Below.refl X.heap.size X).alloc (Nat.le_refl _) _⟩
    case rest =>
      intro w4 hX
      rintro _ rfl _ rfl _ rfl _ ⟨g8, rfl, hgg8, hcg8⟩
      have H4 := hide (on_fresh H3.out hX hgg8 hcg8)
      have S4 := hide (S3.out.trans (Str.below hX))
      clear hX H3 S3 hgg8 hcg8
      go_wp2
      refine Rest.done ?_
      have H5 := hide (st0 H4.out (cs := Vb))
      have S5 := hide (S4.out.setRow (g8) Vb)
      have gW := on_blk_mul H4.out
      go_wp2_with (first
        | (refine wpList_store_row rfl _ _ _ rfl (g8) Vb rfl rfl _ _ gW HsVb.out HzVb.out HoVb.out ?_))
      refine hK7.out _ _ ?_
      clear hK7 K7
      generalize w4.setRow (g8) Vb = w5 at *
      clear gW H4 S4
      refine wp_seq_h fun K8 hK8 => ?_
      refine wp_region_seq 6 [isV (.pointer (some ⟨w.heap.size, 0, Option.none⟩)), isV (.agg PX), isV (.pointer (some ⟨w.heap.size + 1, 0, Option.none⟩)), isV (.agg QX), isV (.agg Vc), Fresh w5.heap.size (.cells Zn 29 (0, 0))]
        (by simp only [List.take_succ_cons, List.take_zero]; rfl) (by simp only [List.drop_succ_cons, List.drop_zero]; rfl) (by kernel_rfl) (by kernel_rfl) (by kernel_rfl) (by decide) rfl ?keep ?todo ?rest
      case keep => exact ⟨Keep.isV _, Keep.isV _, Keep.isV _, Keep.isV _, Keep.isV _, Fresh.keep, trivial⟩
      case todo =>
        refine ⟨?_, ?_, ?_, ?_, ?_, ?_, trivial⟩
        · intro ev X hT hb hk hf
          have e0 : ev (.tmp 3) = .pointer (some ⟨w.heap.size, 0, Option.none⟩) := hk.1
          exact OpOk.run (v := .pointer (some ⟨w.heap.size, 0, Option.none⟩)) (W' := X) (by simp [execOp, e0, go_sem]) ⟨rfl, Stay.refl _⟩
        · intro ev X hT hb hk hf
          have e0 : ev (.tmp 23) = .pointer (some ⟨w.heap.size, 0, Option.none⟩) := hf.1
          exact OpOk.load_part _ _ rfl _ _ e0 PX _ (rowPart (on_blk_mul (H5.out.below hT).right.right.right.right.right) HpPP_0.out) hun rfl HsPX.out ⟨rfl, Stay.refl _⟩
        · intro ev X hT hb hk hf
          have e0 : ev (.tmp 4) = .pointer (some ⟨w.heap.size + 1, 0, Option.none⟩) := hk.1
          exact OpOk.run (v := .pointer (some ⟨w.heap.size + 1, 0, Option.none⟩)) (W' := X) (by simp [execOp, e0, go_sem]) ⟨rfl, Stay.refl _⟩
        · intro ev X hT hb hk hf
          have e0 : ev (.tmp 25) = .pointer (some ⟨w.heap.size + 1, 0, Option.none⟩) := hf.1
          exact OpOk.load_part _ _ rfl _ _ e0 QX _ (rowPart (on_blk_mul (H5.out.below hT).right.right.right.right) HpQQ_0.out) hun rfl HsQX.out ⟨rfl, Stay.refl _⟩
        · intro ev X hT hb hk hf
          have e0 : ev (.tmp 24) = .agg PX := hf.1
          have e1 : ev (.tmp 26) = .agg QX := hf.2.1
          refine OpOk.enters (f := 42) (args := #[.agg PX, .agg QX]) (W' := X) (by simp [execOp, resolve, invoke, e0, e1, hb.1, hb.2.1, go_sem]) ((kMul_px_qx.out X).mono ?_)
          rintro e _ ⟨rfl, hB⟩
          exact ⟨_, rfl, rfl, hB⟩
        · intro ev X hT hb hk hf
          exact OpOk.run (v := .pointer (some ⟨X.heap.size, 0, Option.none⟩)) (W' := X.alloc (.cells Zn 29)) (by simp [execOp, hzN, go_sem]) ⟨⟨X.heap.size, rfl, hT.size, heap_alloc_new X _⟩, (Below.refl X.heap.size X).alloc (Nat.le_refl _) _⟩
      case rest =>
        intro w6 hX
        rintro _ rfl _ rfl _ rfl _ rfl _ rfl _ ⟨g9, rfl, hgg9, hcg9⟩
        have H6 := hide (on_fresh H5.out hX hgg9 hcg9)
        have S6 := hide (S5.out.trans (Str.below hX))
        clear hX H5 S5 hgg9 hcg9
        go_wp2
        refine Rest.done ?_
        have H7 := hide (st0 H6.out (cs := Vc))
        have S7 := hide (S6.out.setRow (g9) Vc)
        have gW := on_blk_mul H6.out
        go_wp2_with (first
          | (refine wpList_store_row rfl _ _ _ rfl (g9) Vc rfl rfl _ _ gW HsVc.out HzVc.out HoVc.out ?_))
        refine hK8.out _ _ ?_
        clear hK8 K8
        generalize w6.setRow (g9) Vc = w7 at *
        clear gW H6 S6
        refine wp_seq_h fun K9 hK9 => ?_
        refine wp_region_seq 6 [isV (.pointer (some ⟨w.heap.size, 17, Option.none⟩)), isV (.agg PY), isV (.pointer (some ⟨w.heap.size + 1, 17, Option.none⟩)), isV (.agg QY), isV (.agg Ve), Fresh w7.heap.size (.cells Zn 29 (0, 0))]
          (by simp only [List.take_succ_cons, List.take_zero]; rfl) (by simp only [List.drop_succ_cons, List.drop_zero]; rfl) (by kernel_rfl) (by kernel_rfl) (by kernel_rfl) (by decide) rfl ?keep ?todo ?rest
        case keep => exact ⟨Keep.isV _, Keep.isV _, Keep.isV _, Keep.isV _, Keep.isV _, Fresh.keep, trivial⟩
        case todo =>
          refine ⟨?_, ?_, ?_, ?_, ?_, ?_, trivial⟩
          · intro ev X hT hb hk hf
            have e0 : ev (.tmp 3) = .pointer (some ⟨w.heap.size, 0, Option.none⟩) := hk.1
            exact OpOk.run (v := .pointer (some ⟨w.heap.size, 17, Option.none⟩)) (W' := X) (by simp [execOp, e0, go_sem]) ⟨rfl, Stay.refl _⟩
          · intro ev X hT hb hk hf
            have e0 : ev (.tmp 28) = .pointer (some ⟨w.heap.size, 17, Option.none⟩) := hf.1
            exact OpOk.load_part _ _ rfl _ _ e0 PY _ (rowPart (on_blk_mul (H7.out.below hT).right.right.right.right.right.right) HpPP_17.out) hun rfl HsPY.out ⟨rfl, Stay.refl _⟩
          · intro ev X hT hb hk hf
            have e0 : ev (.tmp 4) = .pointer (some ⟨w.heap.size + 1, 0, Option.none⟩) := hk.1
            exact OpOk.run (v := .pointer (some ⟨w.heap.size + 1, 17, Option.none⟩)) (W' := X) (by simp [execOp, e0, go_sem]) ⟨rfl, Stay.refl _⟩
          · intro ev X hT hb hk hf
            have e0 : ev (.tmp 30) = .pointer (some ⟨w.heap.size + 1, 17, Option.none⟩) := hf.1
            exact OpOk.load_part _ _ rfl _ _ e0 QY _ (rowPart (on_blk_mul (H7.out.below hT).right.right.right.right.right) HpQQ_17.out) hun rfl HsQY.out ⟨rfl, Stay.refl _⟩
          · intro ev X hT hb hk hf
            have e0 : ev (.tmp 29) = .agg PY := hf.1
            have e1 : ev (.tmp 31) = .agg QY := hf.2.1
            refine OpOk.enters (f := 42) (args := #[.agg PY, .agg QY]) (W' := X) (by simp [execOp, resolve, invoke, e0, e1, hb.1, hb.2.1, go_sem]) ((kMul_py_qy.out X).mono ?_)
            rintro e _ ⟨rfl, hB⟩
            exact ⟨_, rfl, rfl, hB⟩
          · intro ev X hT hb hk hf
            exact OpOk.run (v := .pointer (some ⟨X.heap.size, 0, Option.none⟩)) (W' := X.alloc (.cells Zn 29)) (by simp [execOp, hzN, go_sem]) ⟨⟨X.heap.size, rfl, hT.size, heap_alloc_new X _⟩, (Below.refl X.heap.size X).alloc (Nat.le_refl _) _⟩
        case rest =>
          intro w8 hX
          rintro _ rfl _ rfl _ rfl _ rfl _ rfl _ ⟨g10, rfl, hgg10, hcg10⟩
          have H8 := hide (on_fresh H7.out hX hgg10 hcg10)
          have S8 := hide (S7.out.trans (Str.below hX))
          clear hX H7 S7 hgg10 hcg10
          go_wp2
          refine Rest.done ?_
          have H9 := hide (st0 H8.out (cs := Ve))
          have S9 := hide (S8.out.setRow (g10) Ve)
          have gW := on_blk_mul H8.out
          go_wp2_with (first
            | (refine wpList_store_row rfl _ _ _ rfl (g10) Ve rfl rfl _ _ gW HsVe.out HzVe.out HoVe.out ?_))
          refine hK9.out _ _ ?_
          clear hK9 K9
          generalize w8.setRow (g10) Ve = w9 at *
          clear gW H8 S8
          refine wp_seq_h fun K10 hK10 => ?_
          refine wp_region_tail 6 [isV (.agg Dd), isV (.agg Vc), isV (.agg Ve), isV (.agg Vce), isV (.agg Vf), Fresh w9.heap.size (.cells Zn 29 (0, 0))]
            (by simp only [List.take_succ_cons, List.take_zero]; rfl) (by simp only [List.drop_succ_cons, List.drop_zero]; rfl) (by kernel_rfl) (by kernel_rfl) (by kernel_rfl) (by decide) rfl ?keep ?todo ?rest
          case keep => exact ⟨Keep.isV _, Keep.isV _, Keep.isV _, Keep.isV _, Keep.isV _, Fresh.keep, trivial⟩
          case todo =>
            refine ⟨?_, ?_, ?_, ?_, ?_, ?_, trivial⟩
            · intro ev X hT hb hk hf
              have e0 : ev (.tmp 5) = .pointer (some ⟨w.heap.size + 1 + 1, 0, Option.none⟩) := hk.1
              exact OpOk.load_row _ _ rfl _ e0 _ Dd (0, 0) _ (on_blk_mul (H9.out.below hT).right.right.right.right.right) hun rfl HsDd.out ⟨rfl, Stay.refl _⟩
            · intro ev X hT hb hk hf
              have e0 : ev (.tmp 9) = .pointer (some ⟨g9, 0, Option.none⟩) := hk.1
              exact OpOk.load_row _ _ rfl _ e0 _ Vc (0, 0) _ (on_blk_mul (H9.out.below hT).right) hun rfl HsVc.out ⟨rfl, Stay.refl _⟩
            · intro ev X hT hb hk hf
              have e0 : ev (.tmp 10) = .pointer (some ⟨g10, 0, Option.none⟩) := hk.1
              exact OpOk.load_row _ _ rfl _ e0 _ Ve (0, 0) _ (on_blk_mul (H9.out.below hT)) hun rfl HsVe.out ⟨rfl, Stay.refl _⟩
            · intro ev X hT hb hk hf
              have e0 : ev (.tmp 34) = .agg Vc := hf.1
              have e1 : ev (.tmp 35) = .agg Ve := hf.2.1
              refine OpOk.enters (f := 42) (args := #[.agg Vc, .agg Ve]) (W' := X) (by simp [execOp, resolve, invoke, e0, e1, hb.1, hb.2.1, go_sem]) ((kMul_c_e.out X).mono ?_)
              rintro e _ ⟨rfl, hB⟩
              exact ⟨_, rfl, rfl, hB⟩
            · intro ev X hT hb hk hf
              have e0 : ev (.tmp 33) = .agg Dd := hf.1
              have e1 : ev (.tmp 36) = .agg Vce := hf.2.1
              refine OpOk.enters (f := 42) (args := #[.agg Dd, .agg Vce]) (W' := X) (by simp [execOp, resolve, invoke, e0, e1, hb.1, hb.2.1, go_sem]) ((kMul_d_ce.out X).mono ?_)
              rintro e _ ⟨rfl, hB⟩
              exact ⟨_, rfl, rfl, hB⟩
            · intro ev X hT hb hk hf
              exact OpOk.run (v := .pointer (some ⟨X.heap.size, 0, Option.none⟩)) (W' := X.alloc (.cells Zn 29)) (by simp [execOp, hzN, go_sem]) ⟨⟨X.heap.size, rfl, hT.size, heap_alloc_new X _⟩, (Below.refl X.heap.size X).alloc (Nat.le_refl _) _⟩
          case rest =>
            intro w10 hX
            rintro _ rfl _ rfl _ rfl _ rfl _ rfl _ ⟨g11, rfl, hgg11, hcg11⟩
            have H10 := hide (on_fresh H9.out hX hgg11 hcg11)
            have S10 := hide (S9.out.trans (Str.below hX))
            clear hX H9 S9 hgg11 hcg11
            go_wp2
            refine Rest.done ?_
            have H11 := hide (st0 H10.out (cs := Vf))
            have S11 := hide (S10.out.setRow (g11) Vf)
            have gW := on_blk_mul H10.out
            go_wp2_with (first
              | (refine wpList_store_row rfl _ _ _ rfl (g11) Vf rfl rfl _ _ gW HsVf.out HzVf.out HoVf.out ?_))
            refine hK10.out _ _ ?_
            clear hK10 K10
            generalize w10.setRow (g11) Vf = w11 at *
            clear gW H10 S10
            refine wp_seq_h fun K11 hK11 => ?_
            refine wp_region_seq 4 [isV (.agg Vb), isV (.agg Vf), isV (.agg Vg), Fresh w11.heap.size (.cells Zn 29 (0, 0))]
              (by simp only [List.take_succ_cons, List.take_zero]; rfl) (by simp only [List.drop_succ_cons, List.drop_zero]; rfl) (by kernel_rfl) (by kernel_rfl) (by kernel_rfl) (by decide) rfl ?keep ?todo ?rest
            case keep => exact ⟨Keep.isV _, Keep.isV _, Keep.isV _, Fresh.keep, trivial⟩
            case todo =>
              refine ⟨?_, ?_, ?_, ?_, trivial⟩
              · intro ev X hT hb hk hf
                have e0 : ev (.tmp 8) = .pointer (some ⟨g8, 0, Option.none⟩) := hk.1
                exact OpOk.load_row _ _ rfl _ e0 _ Vb (0, 0) _ (on_blk_mul (H11.out.below hT).right.right.right) hun rfl HsVb.out ⟨rfl, Stay.refl _⟩
              · intro ev X hT hb hk hf
                have e0 : ev (.tmp 11) = .pointer (some ⟨g11, 0, Option.none⟩) := hk.1
                exact OpOk.load_row _ _ rfl _ e0 _ Vf (0, 0) _ (on_blk_mul (H11.out.below hT)) hun rfl HsVf.out ⟨rfl, Stay.refl _⟩
              · intro ev X hT hb hk hf
                have e0 : ev (.tmp 38) = .agg Vb := hf.1
                have e1 : ev (.tmp 39) = .agg Vf := hf.2.1
                refine OpOk.enters (f := 43) (args := #[.agg Vb, .agg Vf]) (W' := X) (by simp [execOp, resolve, invoke, e0, e1, hb.1, hb.2.1, go_sem]) ((kSub_b_f.out X).mono ?_)
                rintro e _ ⟨rfl, hB⟩
                exact ⟨_, rfl, rfl, hB⟩
              · intro ev X hT hb hk hf
                exact OpOk.run (v := .pointer (some ⟨X.heap.size, 0, Option.none⟩)) (W' := X.alloc (.cells Zn 29)) (by simp [execOp, hzN, go_sem]) ⟨⟨X.heap.size, rfl, hT.size, heap_alloc_new X _⟩, (Below.refl X.heap.size X).alloc (Nat.le_refl _) _⟩
            case rest =>
              intro w12 hX
              rintro _ rfl _ rfl _ rfl _ ⟨g12, rfl, hgg12, hcg12⟩
              have H12 := hide (on_fresh H11.out hX hgg12 hcg12)
              have S12 := hide (S11.out.trans (Str.below hX))
              clear hX H11 S11 hgg12 hcg12
              go_wp2
              refine Rest.done ?_
              have H13 := hide (st0 H12.out (cs := Vg))
              have S13 := hide (S12.out.setRow (g12) Vg)
              have gW := on_blk_mul H12.out
              go_wp2_with (first
                | (refine wpList_store_row rfl _ _ _ rfl (g12) Vg rfl rfl _ _ gW HsVg.out HzVg.out HoVg.out ?_))
              refine hK11.out _ _ ?_
              clear hK11 K11
              generalize w12.setRow (g12) Vg = w13 at *
              clear gW H12 S12
              refine wp_seq_h fun K12 hK12 => ?_
              refine wp_region_seq 4 [isV (.agg Vb), isV (.agg Vf), isV (.agg Vh), Fresh w13.heap.size (.cells Zn 29 (0, 0))]
                (by simp only [List.take_succ_cons, List.take_zero]; rfl) (by simp only [List.drop_succ_cons, List.drop_zero]; rfl) (by kernel_rfl) (by kernel_rfl) (by kernel_rfl) (by decide) rfl ?keep ?todo ?rest
              case keep => exact ⟨Keep.isV _, Keep.isV _, Keep.isV _, Fresh.keep, trivial⟩
              case todo =>
                refine ⟨?_, ?_, ?_, ?_, trivial⟩
                · intro ev X hT hb hk hf
                  have e0 : ev (.tmp 8) = .pointer (some ⟨g8, 0, Option.none⟩) := hk.1
                  exact OpOk.load_row _ _ rfl _ e0 _ Vb (0, 0) _ (on_blk_mul (H13.out.below hT).right.right.right.right) hun rfl HsVb.out ⟨rfl, Stay.refl _⟩
                · intro ev X hT hb hk hf
                  have e0 : ev (.tmp 11) = .pointer (some ⟨g11, 0, Option.none⟩) := hk.1
                  exact OpOk.load_row _ _ rfl _ e0 _ Vf (0, 0) _ (on_blk_mul (H13.out.below hT).right) hun rfl HsVf.out ⟨rfl, Stay.refl _⟩
                · intro ev X hT hb hk hf
                  have e0 : ev (.tmp 41) = .agg Vb := hf.1
                  have e1 : ev (.tmp 42) = .agg Vf := hf.2.1
                  refine OpOk.enters (f := 44) (args := #[.agg Vb, .agg Vf]) (W' := X) (by simp [execOp, resolve, invoke, e0, e1, hb.1, hb.2.1, go_sem]) ((kAdd_b_f.out X).mono ?_)
                  rintro e _ ⟨rfl, hB⟩
                  exact ⟨_, rfl, rfl, hB⟩
                · intro ev X hT hb hk hf
                  exact OpOk.run (v := .pointer (some ⟨X.heap.size, 0, Option.none⟩)) (W' := X.alloc (.cells Zn 29)) (by simp [execOp, hzN, go_sem]) ⟨⟨X.heap.size, rfl, hT.size, heap_alloc_new X _⟩, (Below.refl X.heap.size X).alloc (Nat.le_refl _) _⟩
              case rest =>
                intro w14 hX
                rintro _ rfl _ rfl _ rfl _ ⟨g13, rfl, hgg13, hcg13⟩
                have H14 := hide (on_fresh H13.out hX hgg13 hcg13)
                have S14 := hide (S13.out.trans (Str.below hX))
                clear hX H13 S13 hgg13 hcg13
                go_wp2
                refine Rest.done ?_
                have H15 := hide (st0 H14.out (cs := Vh))
                have S15 := hide (S14.out.setRow (g13) Vh)
                have gW := on_blk_mul H14.out
                go_wp2_with (first
                  | (refine wpList_store_row rfl _ _ _ rfl (g13) Vh rfl rfl _ _ gW HsVh.out HzVh.out HoVh.out ?_))
                refine hK12.out _ _ ?_
                clear hK12 K12
                generalize w14.setRow (g13) Vh = w15 at *
                clear gW H14 S14
                refine wp_seq_h fun K13 hK13 => ?_
                refine wp_region_tail 16 [isV (.pointer (some ⟨w.heap.size, 0, Option.none⟩)), isV (.agg PX), isV (.pointer (some ⟨w.heap.size, 17, Option.none⟩)), isV (.agg PY), isV (.agg Vs1), isV (.pointer (some ⟨w.heap.size + 1, 0, Option.none⟩)), isV (.agg QX), isV (.pointer (some ⟨w.heap.size + 1, 17, Option.none⟩)), isV (.agg QY), isV (.agg Vs2), isV (.agg Vm), isV (.agg Vc), isV (.agg Vm1), isV (.agg Ve), isV (.agg Vcr), Fresh w15.heap.size (.cells Zn 29 (0, 0))]
                  (by simp only [List.take_succ_cons, List.take_zero]; rfl) (by simp only [List.drop_succ_cons, List.drop_zero]; rfl) (by kernel_rfl) (by kernel_rfl) (by kernel_rfl) (by decide) rfl ?keep ?todo ?rest
                case keep => exact ⟨Keep.isV _, Keep.isV _, Keep.isV _, Keep.isV _, Keep.isV _, Keep.isV _, Keep.isV _, Keep.isV _, Keep.isV _, Keep.isV _, Keep.isV _, Keep.isV _, Keep.isV _, Keep.isV _, Keep.isV _, Fresh.keep, trivial⟩
                case todo =>
                  refine ⟨?_, ?_, ?_, ?_, ?_, ?_, ?_, ?_, ?_, ?_, ?_, ?_, ?_, ?_, ?_, ?_, trivial⟩
                  · intro ev X hT hb hk hf
                    have e0 : ev (.tmp 3) = .pointer (some ⟨w.heap.size, 0, Option.none⟩) := hk.1
                    exact OpOk.run (v := .pointer (some ⟨w.heap.size, 0, Option.none⟩)) (W' := X) (by simp [execOp, e0, go_sem]) ⟨rfl, Stay.refl _⟩
                  · intro ev X hT hb hk hf
                    have e0 : ev (.tmp 44) = .pointer (some ⟨w.heap.size, 0, Option.none⟩) := hf.1
                    exact OpOk.load_part _ _ rfl _ _ e0 PX _ (rowPart (on_blk_mul (H15.out.below hT).right.right.right.right.right.right.right.right.right.right) HpPP_0.out) hun rfl HsPX.out ⟨rfl, Stay.refl _⟩
                  · intro ev X hT hb hk hf
                    have e0 : ev (.tmp 3) = .pointer (some ⟨w.heap.size, 0, Option.none⟩) := hk.1
                    exact OpOk.run (v := .pointer (some ⟨w.heap.size, 17, Option.none⟩)) (W' := X) (by simp [execOp, e0, go_sem]) ⟨rfl, Stay.refl _⟩
                  · intro ev X hT hb hk hf
                    have e0 : ev (.tmp 46) = .pointer (some ⟨w.heap.size, 17, Option.none⟩) := hf.1
                    exact OpOk.load_part _ _ rfl _ _ e0 PY _ (rowPart (on_blk_mul (H15.out.below hT).right.right.right.right.right.right.right.right.right.right) HpPP_17.out) hun rfl HsPY.out ⟨rfl, Stay.refl _⟩
                  · intro ev X hT hb hk hf
                    have e0 : ev (.tmp 45) = .agg PX := hf.1
                    have e1 : ev (.tmp 47) = .agg PY := hf.2.1
                    refine OpOk.enters (f := 44) (args := #[.agg PX, .agg PY]) (W' := X) (by simp [execOp, resolve, invoke, e0, e1, hb.1, hb.2.1, go_sem]) ((kAdd_px_py.out X).mono ?_)
                    rintro e _ ⟨rfl, hB⟩
                    exact ⟨_, rfl, rfl, hB⟩
                  · intro ev X hT hb hk hf
                    have e0 : ev (.tmp 4) = .pointer (some ⟨w.heap.size + 1, 0, Option.none⟩) := hk.1
                    exact OpOk.run (v := .pointer (some ⟨w.heap.size + 1, 0, Option.none⟩)) (W' := X) (by simp [execOp, e0, go_sem]) ⟨rfl, Stay.refl _⟩
                  · intro ev X hT hb hk hf
                    have e0 : ev (.tmp 49) = .pointer (some ⟨w.heap.size + 1, 0, Option.none⟩) := hf.1
                    exact OpOk.load_part _ _ rfl _ _ e0 QX _ (rowPart (on_blk_mul (H15.out.below hT).right.right.right.right.right.right.right.right.right) HpQQ_0.out) hun rfl HsQX.out ⟨rfl, Stay.refl _⟩
                  · intro ev X hT hb hk hf
                    have e0 : ev (.tmp 4) = .pointer (some ⟨w.heap.size + 1, 0, Option.none⟩) := hk.1
                    exact OpOk.run (v := .pointer (some ⟨w.heap.size + 1, 17, Option.none⟩)) (W' := X) (by simp [execOp, e0, go_sem]) ⟨rfl, Stay.refl _⟩
                  · intro ev X hT hb hk hf
                    have e0 : ev (.tmp 51) = .pointer (some ⟨w.heap.size + 1, 17, Option.none⟩) := hf.1
                    exact OpOk.load_part _ _ rfl _ _ e0 QY _ (rowPart (on_blk_mul (H15.out.below hT).right.right.right.right.right.right.right.right.right) HpQQ_17.out) hun rfl HsQY.out ⟨rfl, Stay.refl _⟩
                  · intro ev X hT hb hk hf
                    have e0 : ev (.tmp 50) = .agg QX := hf.1
                    have e1 : ev (.tmp 52) = .agg QY := hf.2.1
                    refine OpOk.enters (f := 44) (args := #[.agg QX, .agg QY]) (W' := X) (by simp [execOp, resolve, invoke, e0, e1, hb.1, hb.2.1, go_sem]) ((kAdd_qx_qy.out X).mono ?_)
                    rintro e _ ⟨rfl, hB⟩
                    exact ⟨_, rfl, rfl, hB⟩
                  · intro ev X hT hb hk hf
                    have e0 : ev (.tmp 48) = .agg Vs1 := hf.1
                    have e1 : ev (.tmp 53) = .agg Vs2 := hf.2.1
                    refine OpOk.enters (f := 42) (args := #[.agg Vs1, .agg Vs2]) (W' := X) (by simp [execOp, resolve, invoke, e0, e1, hb.1, hb.2.1, go_sem]) ((kMul_s1_s2.out X).mono ?_)
                    rintro e _ ⟨rfl, hB⟩
                    exact ⟨_, rfl, rfl, hB⟩
                  · intro ev X hT hb hk hf
                    have e0 : ev (.tmp 9) = .pointer (some ⟨g9, 0, Option.none⟩) := hk.1
                    exact OpOk.load_row _ _ rfl _ e0 _ Vc (0, 0) _ (on_blk_mul (H15.out.below hT).right.right.right.right) hun rfl HsVc.out ⟨rfl, Stay.refl _⟩
                  · intro ev X hT hb hk hf
                    have e0 : ev (.tmp 54) = .agg Vm := hf.1
                    have e1 : ev (.tmp 55) = .agg Vc := hf.2.1
                    refine OpOk.enters (f := 43) (args := #[.agg Vm, .agg Vc]) (W' := X) (by simp [execOp, resolve, invoke, e0, e1, hb.1, hb.2.1, go_sem]) ((kSub_m_c.out X).mono ?_)
                    rintro e _ ⟨rfl, hB⟩
                    exact ⟨_, rfl, rfl, hB⟩
                  · intro ev X hT hb hk hf
                    have e0 : ev (.tmp 10) = .pointer (some ⟨g10, 0, Option.none⟩) := hk.1
                    exact OpOk.load_row _ _ rfl _ e0 _ Ve (0, 0) _ (on_blk_mul (H15.out.below hT).right.right.right) hun rfl HsVe.out ⟨rfl, Stay.refl _⟩
                  · intro ev X hT hb hk hf
                    have e0 : ev (.tmp 56) = .agg Vm1 := hf.1
                    have e1 : ev (.tmp 57) = .agg Ve := hf.2.1
                    refine OpOk.enters (f := 43) (args := #[.agg Vm1, .agg Ve]) (W' := X) (by simp [execOp, resolve, invoke, e0, e1, hb.1, hb.2.1, go_sem]) ((kSub_m1_e.out X).mono ?_)
                    rintro e _ ⟨rfl, hB⟩
                    exact ⟨_, rfl, rfl, hB⟩
                  · intro ev X hT hb hk hf
                    exact OpOk.run (v := .pointer (some ⟨X.heap.size, 0, Option.none⟩)) (W' := X.alloc (.cells Zn 29)) (by simp [execOp, hzN, go_sem]) ⟨⟨X.heap.size, rfl, hT.size, heap_alloc_new X _⟩, (Below.refl X.heap.size X).alloc (Nat.le_refl _) _⟩
                case rest =>
                  intro w16 hX
                  rintro _ rfl _ rfl _ rfl _ rfl _ rfl _ rfl _ rfl _ rfl _ rfl _ rfl _ rfl _ rfl _ rfl _ rfl _ rfl _ ⟨g14, rfl, hgg14, hcg14⟩
                  have H16 := hide (on_fresh H15.out hX hgg14 hcg14)
                  have S16 := hide (S15.out.trans (Str.below hX))
                  clear hX H15 S15 hgg14 hcg14
                  go_wp2
                  refine Rest.done ?_
                  have H17 := hide (st0 H16.out (cs := Vcr))
                  have S17 := hide (S16.out.setRow (g14) Vcr)
                  have gW := on_blk_mul H16.out
                  go_wp2_with (first
                    | (refine wpList_store_row rfl _ _ _ rfl (g14) Vcr rfl rfl _ _ gW HsVcr.out HzVcr.out HoVcr.out ?_))
                  refine hK13.out _ _ ?_
                  clear hK13 K13
                  generalize w16.setRow (g14) Vcr = w17 at *
                  clear gW H16 S16
                  refine wp_seq_h fun K14 hK14 => ?_
                  refine wp_region_tail 16 [isV (.agg Va), isV (.agg Vg), isV (.agg Vag), isV (.agg Vcr), isV (.agg Vrx), isV (.agg Va), isV (.agg Vh), isV (.agg Vah), isV (.agg Ve), isV (.agg Vc), isV (.agg Vec), isV (.agg Vry), isV (.agg Vg), isV (.agg Vh), isV (.agg Vrz), isV (.agg RR)]
                    (by simp only [List.take_succ_cons, List.take_zero]; rfl) (by simp only [List.drop_succ_cons, List.drop_zero]; rfl) (by kernel_rfl) (by kernel_rfl) (by kernel_rfl) (by decide) rfl ?keep ?todo ?rest
                  case keep => exact ⟨Keep.isV _, Keep.isV _, Keep.isV _, Keep.isV _, Keep.isV _, Keep.isV _, Keep.isV _, Keep.isV _, Keep.isV _, Keep.isV _, Keep.isV _, Keep.isV _, Keep.isV _, Keep.isV _, Keep.isV _, Keep.isV _, trivial⟩
                  case todo =>
                    refine ⟨?_, ?_, ?_, ?_, ?_, ?_, ?_, ?_, ?_, ?_, ?_, ?_, ?_, ?_, ?_, ?_, trivial⟩
                    · intro ev X hT hb hk hf
                      have e0 : ev (.tmp 7) = .pointer (some ⟨g7, 0, Option.none⟩) := hk.1
                      exact OpOk.load_row _ _ rfl _ e0 _ Va (0, 0) _ (on_blk_mul (H17.out.below hT).right.right.right.right.right.right.right) hun rfl HsVa.out ⟨rfl, Stay.refl _⟩
                    · intro ev X hT hb hk hf
                      have e0 : ev (.tmp 12) = .pointer (some ⟨g12, 0, Option.none⟩) := hk.1
                      exact OpOk.load_row _ _ rfl _ e0 _ Vg (0, 0) _ (on_blk_mul (H17.out.below hT).right.right) hun rfl HsVg.out ⟨rfl, Stay.refl _⟩
                    · intro ev X hT hb hk hf
                      have e0 : ev (.tmp 59) = .agg Va := hf.1
                      have e1 : ev (.tmp 60) = .agg Vg := hf.2.1
                      refine OpOk.enters (f := 42) (args := #[.agg Va, .agg Vg]) (W' := X) (by simp [execOp, resolve, invoke, e0, e1, hb.1, hb.2.1, go_sem]) ((kMul_a_g.out X).mono ?_)
                      rintro e _ ⟨rfl, hB⟩
                      exact ⟨_, rfl, rfl, hB⟩
                    · intro ev X hT hb hk hf
                      have e0 : ev (.tmp 14) = .pointer (some ⟨g14, 0, Option.none⟩) := hk.1
                      exact OpOk.load_row _ _ rfl _ e0 _ Vcr (0, 0) _ (on_blk_mul (H17.out.below hT)) hun rfl HsVcr.out ⟨rfl, Stay.refl _⟩
                    · intro ev X hT hb hk hf
                      have e0 : ev (.tmp 61) = .agg Vag := hf.1
                      have e1 : ev (.tmp 62) = .agg Vcr := hf.2.1
                      refine OpOk.enters (f := 42) (args := #[.agg Vag, .agg Vcr]) (W' := X) (by simp [execOp, resolve, invoke, e0, e1, hb.1, hb.2.1, go_sem]) ((kMul_ag_cr.out X).mono ?_)
                      rintro e _ ⟨rfl, hB⟩
                      exact ⟨_, rfl, rfl, hB⟩
                    · intro ev X hT hb hk hf
                      have e0 : ev (.tmp 7) = .pointer (some ⟨g7, 0, Option.none⟩) := hk.1
                      exact OpOk.load_row _ _ rfl _ e0 _ Va (0, 0) _ (on_blk_mul (H17.out.below hT).right.right.right.right.right.right.right) hun rfl HsVa.out ⟨rfl, Stay.refl _⟩
                    · intro ev X hT hb hk hf
                      have e0 : ev (.tmp 13) = .pointer (some ⟨g13, 0, Option.none⟩) := hk.1
                      exact OpOk.load_row _ _ rfl _ e0 _ Vh (0, 0) _ (on_blk_mul (H17.out.below hT).right) hun rfl HsVh.out ⟨rfl, Stay.refl _⟩
                    · intro ev X hT hb hk hf
                      have e0 : ev (.tmp 64) = .agg Va := hf.1
                      have e1 : ev (.tmp 65) = .agg Vh := hf.2.1
                      refine OpOk.enters (f := 42) (args := #[.agg Va, .agg Vh]) (W' := X) (by simp [execOp, resolve, invoke, e0, e1, hb.1, hb.2.1, go_sem]) ((kMul_a_h.out X).mono ?_)
                      rintro e _ ⟨rfl, hB⟩
                      exact ⟨_, rfl, rfl, hB⟩
                    · intro ev X hT hb hk hf
                      have e0 : ev (.tmp 10) = .pointer (some ⟨g10, 0, Option.none⟩) := hk.1
                      exact OpOk.load_row _ _ rfl _ e0 _ Ve (0, 0) _ (on_blk_mul (H17.out.below hT).right.right.right.right) hun rfl HsVe.out ⟨rfl, Stay.refl _⟩
                    · intro ev X hT hb hk hf
                      have e0 : ev (.tmp 9) = .pointer (some ⟨g9, 0, Option.none⟩) := hk.1
                      exact OpOk.load_row _ _ rfl _ e0 _ Vc (0, 0) _ (on_blk_mul (H17.out.below hT).right.right.right.right.right) hun rfl HsVc.out ⟨rfl, Stay.refl _⟩
                    · intro ev X hT hb hk hf
                      have e0 : ev (.tmp 67) = .agg Ve := hf.1
                      have e1 : ev (.tmp 68) = .agg Vc := hf.2.1
                      refine OpOk.enters (f := 44) (args := #[.agg Ve, .agg Vc]) (W' := X) (by simp [execOp, resolve, invoke, e0, e1, hb.1, hb.2.1, go_sem]) ((kAdd_e_c.out X).mono ?_)
                      rintro e _ ⟨rfl, hB⟩
                      exact ⟨_, rfl, rfl, hB⟩
                    · intro ev X hT hb hk hf
                      have e0 : ev (.tmp 66) = .agg Vah := hf.1
                      have e1 : ev (.tmp 69) = .agg Vec := hf.2.1
                      refine OpOk.enters (f := 42) (args := #[.agg Vah, .agg Vec]) (W' := X) (by simp [execOp, resolve, invoke, e0, e1, hb.1, hb.2.1, go_sem]) ((kMul_ah_ec.out X).mono ?_)
                      rintro e _ ⟨rfl, hB⟩
                      exact ⟨_, rfl, rfl, hB⟩
                    · intro ev X hT hb hk hf
                      have e0 : ev (.tmp 12) = .pointer (some ⟨g12, 0, Option.none⟩) := hk.1
                      exact OpOk.load_row _ _ rfl _ e0 _ Vg (0, 0) _ (on_blk_mul (H17.out.below hT).right.right) hun rfl HsVg.out ⟨rfl, Stay.refl _⟩
                    · intro ev X hT hb hk hf
                      have e0 : ev (.tmp 13) = .pointer (some ⟨g13, 0, Option.none⟩) := hk.1
                      exact OpOk.load_row _ _ rfl _ e0 _ Vh (0, 0) _ (on_blk_mul (H17.out.below hT).right) hun rfl HsVh.out ⟨rfl, Stay.refl _⟩
                    · intro ev X hT hb hk hf
                      have e0 : ev (.tmp 71) = .agg Vg := hf.1
                      have e1 : ev (.tmp 72) = .agg Vh := hf.2.1
                      refine OpOk.enters (f := 42) (args := #[.agg Vg, .agg Vh]) (W' := X) (by simp [execOp, resolve, invoke, e0, e1, hb.1, hb.2.1, go_sem]) ((kMul_g_h.out X).mono ?_)
                      rintro e _ ⟨rfl, hB⟩
                      exact ⟨_, rfl, rfl, hB⟩
                    · intro ev X hT hb hk hf
                      have e0 : ev (.tmp 63) = .agg Vrx := hf.1
                      have e1 : ev (.tmp 70) = .agg Vry := hf.2.1
                      have e2 : ev (.tmp 73) = .agg Vrz := hf.2.2.1
                      exact OpOk.run (v := .agg RR) (W' := X) (by simp [execOp, e0, e1, e2, Hb.out X]) ⟨rfl, Stay.refl _⟩
                  case rest =>
                    intro w18 hX
                    rintro _ rfl _ rfl _ rfl _ rfl _ rfl _ rfl _ rfl _ rfl _ rfl _ rfl _ rfl _ rfl _ rfl _ rfl _ rfl _ rfl
                    have H18 := hide (H17.out.below hX)
                    have S18 := hide (S17.out.trans (Str.below hX))
                    clear hX H17 S17
                    go_wp2
                    refine Rest.done ?_
                    have gR := on_blk_mul H18.out.right.right.right.right.right.right.right.right
                    have HB := hide (all_below H18.out.right.right.right.right.right.right.right.right.right.right.right.right S18.out)
                    go_wp2_with (first
                      | (refine wpList_store_row rfl _ _ _ rfl (w.heap.size + 1 + 1 + 1) RR rfl rfl _ _ gR HsRR.out HzRR.out HoRR.out ?_))
                    refine hK14.out _ _ ?_
                    clear hK14 K14
                    go_wp2_with fail
                    exact bodyPost_ret (v := .agg RR) (results_cell_row Tryd.results13 _ _ (w.heap.size + 1 + 1 + 1) _ RR (0, 0) _ rfl (setRow_heap_same _ _ _ _ _ _ gR) hum rfl HsRR.out) rfl ⟨rfl, below_setRow HB.out (by omega) _⟩
theorem madd_any (s t : Ed.Tp) (w : World) : Calls Tryd.prog 13 #[.agg (tpC s), .agg (tpC t), .agg (n17 Ed.dN)] w fun e w' => e = .returned (.agg (tpC (s.add t))) ∧ Below w.heap.size w w' := by
  have h := madd_nat _ _ _ _ _ _ s.x.isLt s.y.isLt s.z.isLt t.x.isLt t.y.isLt t.z.isLt Ed.dN (by decide) w
  unfold tpC Ed.Tp.add Ed.tpMix
  simp only [Ed.val_mul, Ed.val_add, Ed.val_sub, Ed.d5_val]
  exact h
end Cv
end Go.Proofs.YtbplbdnofobbiaaDoor
