/- A part. -/
import Derived.Test.YtjdebgbiockafaaGreatDoorGEd
import Derived.Laws.StructEq
set_option linter.unusedVariables false
set_option linter.unusedSimpArgs false
set_option maxRecDepth 100000
set_option maxHeartbeats 8000000
namespace Go.Proofs.YtjdebgbiockafaaGreatDoor
namespace Cv
open Fe
open Go.ChangeShapes Go.WideShapes Go.ChangeAt Go.RowKit
def pC (x y : Nat) : Array Value := lvs (qs 4 x ++ qs 4 y)
def sC (x y z t : Nat) : Array Value := lvs (qs 4 x ++ (qs 4 y ++ (qs 4 z ++ qs 4 t)))
theorem pC_size (x y : Nat) : (pC x y).size = 8 := by unfold pC; rw [lvs_size, List.length_append, qs_len, qs_len]
theorem sC_size (x y z t : Nat) : (sC x y z t).size = 16 := by unfold sC; rw [lvs_size]; simp only [List.length_append, qs_len]
theorem pC_one (x y : Nat) : (pC x y).all (·.oneCell') = true := lvs_one _
theorem sC_one (x y z t : Nat) : (sC x y z t).all (·.oneCell') = true := lvs_one _
theorem pInfo (x y : Nat) : (Tryz.prog.info? 128).map (·.size) = some (pC x y).size := by rw [pC_size]; kernel_rfl
theorem sInfo (x y z t : Nat) : (Tryz.prog.info? 151).map (·.size) = some (sC x y z t).size := by rw [sC_size]; kernel_rfl
theorem pSize (x y x2 y2 : Nat) : (pC x y).size = (pC x2 y2).size := by rw [pC_size, pC_size]
theorem sSize (x y z t x2 y2 z2 t2 : Nat) : (sC x y z t).size = (sC x2 y2 z2 t2).size := by rw [sC_size, sC_size]
theorem pC_lit (x y : Nat) : pC x y = #[lv (limb x 0), lv (limb x 1), lv (limb x 2), lv (limb x 3), lv (limb y 0), lv (limb y 1), lv (limb y 2), lv (limb y 3)] := rfl
theorem sC_lit (x y z t : Nat) : sC x y z t = #[lv (limb x 0), lv (limb x 1), lv (limb x 2), lv (limb x 3), lv (limb y 0), lv (limb y 1), lv (limb y 2), lv (limb y 3), lv (limb z 0), lv (limb z 1), lv (limb z 2), lv (limb z 3), lv (limb t 0), lv (limb t 1), lv (limb t 2), lv (limb t 3)] := rfl
theorem limb_0 (k : Nat) : limb 0 k = 0 := by unfold limb; rw [Nat.zero_div]
theorem pZero (w : World) : (zeroValue 128).run Tryz.prog w = .ok (.agg (pC 0 0)) w := by rw [pC_lit]; simp only [limb_0]; kernel_rfl
theorem sZero (w : World) : (zeroValue 151).run Tryz.prog w = .ok (.agg (sC 0 0 0 0)) w := by rw [sC_lit]; simp only [limb_0]; kernel_rfl
theorem lvs_part (a b c : List Nat) (j : Nat) (v : Value) (h : (lvs b)[j]? = some v) : (lvs (a ++ (b ++ c)))[a.length + j]? = some v := by
 have hj : j < b.length := by
  have := (Array.getElem?_eq_some_iff.1 h).1
  rwa [lvs_size] at this
 have h2 : (b.map lv)[j]? = some v := by simpa [lvs] using h
 unfold lvs
 rw [List.getElem?_toArray, List.map_append, List.map_append, List.getElem?_append_right (by rw [List.length_map]; omega), List.length_map, Nat.add_sub_cancel_left, List.getElem?_append_left (by rw [List.length_map]; exact hj)]
 exact h2
theorem pC_x (x y j : Nat) (v : Value) (h : (q4 x)[j]? = some v) : (pC x y)[0 + j]? = some v := lvs_part [] (qs 4 x) (qs 4 y) j v h
theorem pC_y (x y j : Nat) (v : Value) (h : (q4 y)[j]? = some v) : (pC x y)[4 + j]? = some v := by
 have := lvs_part (qs 4 x) (qs 4 y) [] j v h
 rwa [List.append_nil, qs_len] at this
theorem sC_x (x y z t j : Nat) (v : Value) (h : (q4 x)[j]? = some v) : (sC x y z t)[0 + j]? = some v := lvs_part [] (qs 4 x) _ j v h
theorem sC_y (x y z t j : Nat) (v : Value) (h : (q4 y)[j]? = some v) : (sC x y z t)[4 + j]? = some v := by
 have := lvs_part (qs 4 x) (qs 4 y) (qs 4 z ++ qs 4 t) j v h
 rwa [qs_len] at this
theorem sC_z (x y z t j : Nat) (v : Value) (h : (q4 z)[j]? = some v) : (sC x y z t)[8 + j]? = some v := by
 have := lvs_part (qs 4 x ++ qs 4 y) (qs 4 z) (qs 4 t) j v h
 rwa [List.append_assoc, List.length_append, qs_len, qs_len] at this
theorem sC_t (x y z t j : Nat) (v : Value) (h : (q4 t)[j]? = some v) : (sC x y z t)[12 + j]? = some v := by
 have := lvs_part (qs 4 x ++ (qs 4 y ++ qs 4 z)) (qs 4 t) [] j v h
 rw [List.append_nil, List.append_assoc, List.append_assoc] at this
 rw [List.length_append, List.length_append, qs_len, qs_len, qs_len] at this
 exact this
theorem rowPart {w : World} {g off : Nat} {A B : Array Value} {t : TypeId} {fr : Nat × Nat} (h : w.heap[g]? = some (.cells A t fr)) (hp : ∀ j v, B[j]? = some v → A[off + j]? = some v) : ∀ j v, B[j]? = some v → w.cell? ⟨g, off + j, .none⟩ = some v :=
 fun j v hv => (cell_of_row w g (off + j) A t fr h).trans (hp j v hv)
theorem run_bp (x y : Nat) (w : World) : (Instr.build 128 #[(0, .agg (q4 x)), (1, .agg (q4 y))]).run Tryz.prog w = .ok (.agg (pC x y)) w := by
 rw [q4_lit, q4_lit, pC_lit]; kernel_rfl
theorem run_by (y : Nat) (w : World) : (Instr.build 128 #[(1, .agg (q4 y))]).run Tryz.prog w = .ok (.agg (pC 0 y)) w := by
 rw [q4_lit, pC_lit]; simp only [limb_0]; kernel_rfl
theorem run_bsp (x y z t : Nat) (w : World) : (Instr.build 151 #[(0, .agg (q4 x)), (1, .agg (q4 y)), (2, .agg (q4 z)), (3, .agg (q4 t))]).run Tryz.prog w = .ok (.agg (sC x y z t)) w := by
 rw [q4_lit, q4_lit, q4_lit, q4_lit, sC_lit]; kernel_rfl
theorem b1_arm {ops : Array Oper} {rest : List Oper} {o : Oper} {a : Act} {w : World} {Q : Exit → Act → World → Prop} (hw : Region.wanted o (yielded ops a.tmps) = true) (T : TypeId) (i : Nat) (x : Operand) (ho : o.op = .build T #[(i, x)])
  (A R : Array Value) (hx : a.eval x = .agg A) (hb : (Instr.build T #[(i, .agg A)]).run Tryz.prog w = .ok (.agg R) w) (hk : wpList Tryz.prog ops Q rest (a.put o.dst (.agg R)) w) : wpList Tryz.prog ops Q (o :: rest) a w := by
 have hr : (execOp a.eval o).run Tryz.prog w = .ok (.value (.agg R)) w := by
  unfold execOp
  rw [ho]
  simp only [List.map_toArray, List.map_cons, List.map_nil, hx]
  rw [Sem.run_bind, hb]; rfl
 exact wpList_step fun _ hK => by
  rw [if_pos hw]; unfold Oper.wp; simp only [hr]; exact hK _ _ hk
theorem b2_arm {ops : Array Oper} {rest : List Oper} {o : Oper} {a : Act} {w : World} {Q : Exit → Act → World → Prop} (hw : Region.wanted o (yielded ops a.tmps) = true) (T : TypeId) (i j : Nat) (x y : Operand) (ho : o.op = .build T #[(i, x), (j, y)])
  (A B R : Array Value) (hx : a.eval x = .agg A) (hy : a.eval y = .agg B) (hb : (Instr.build T #[(i, .agg A), (j, .agg B)]).run Tryz.prog w = .ok (.agg R) w) (hk : wpList Tryz.prog ops Q rest (a.put o.dst (.agg R)) w) : wpList Tryz.prog ops Q (o :: rest) a w := by
 have hr : (execOp a.eval o).run Tryz.prog w = .ok (.value (.agg R)) w := by
  unfold execOp
  rw [ho]
  simp only [List.map_toArray, List.map_cons, List.map_nil, hx, hy]
  rw [Sem.run_bind, hb]; rfl
 exact wpList_step fun _ hK => by
  rw [if_pos hw]; unfold Oper.wp; simp only [hr]; exact hK _ _ hk
structure TabC (w : World) : Prop where
 f : Tab5 w
 l : Tb 7 (P5 - 2) w
 x : Tb 1 Ed.bxN w
 y : Tb 2 Ed.byN w
 dd : Tb 5 ((Ed.dN + Ed.dN) % P5) w
theorem TabC.below {w X : World} (h : TabC w) (hb : Below w.heap.size w X) : TabC X := ⟨h.f.below hb, h.l.below hb, h.x.below hb, h.y.below hb, h.dd.below hb⟩
structure TabD (w : World) : Prop where
 r : TabR w
 d : Tb 3 Ed.dN w
theorem TabD.below {w X : World} (h : TabD w) (hb : Below w.heap.size w X) : TabD X := ⟨h.r.below hb, h.d.below hb⟩
theorem none_any (w : World) : Calls Tryz.prog 93 #[] w fun e w' => e = .returned (.agg (pC 0 1)) ∧ Below w.heap.size w w' := by
 have hup := Tryz.underlying128
 have hzp := pZero
 have H1 := hide ((on_all w).alloc (.cells (pC 0 0) 128))
 have S1 := hide ((Str.refl w).alloc (.cells (pC 0 0) 128))
 obtain ⟨HsR, HoR, HzR⟩ := b3 (pInfo 0 1) (pC_one 0 1) (pSize 0 0 0 1)
 have Hb := hide (fun X => run_by 1 X)
 have Hc := hide (fun X => small_any 1 (by decide) X)
 generalize pC 0 0 = Zp at *
 generalize hR : pC 0 1 = R at *
 generalize q4 1 = I4 at *
 have HR := hide hR
 clear hR
 go_enter Tryz.func93, Tryz.ntmps93
 go_wp2_with fail
 generalize w.alloc (.cells Zp 128) = w1 at *
 refine (Hc.out _).mono ?_
 rintro e w2 ⟨rfl, hB⟩
 obtain ⟨H2, S2⟩ := nx H1.out S1.out hB
 clear hB H1 S1
 have gR := on_blk_mul H2.out
 have HB := hide (all_below H2.out.right S2.out)
 go_wp2_with (first
  | (refine b1_arm rfl 128 1 _ rfl I4 R rfl (Hb.out _) ?_)
  | (refine wS gR HsR HzR HoR ?_))
 exact retR Tryz.results93 gR hup HsR.out rfl HB.out (by omega)
theorem base_any (w : World) (hT : TabC w) : Calls Tryz.prog 81 #[] w fun e w' => e = .returned (.agg (pC Ed.bxN Ed.byN)) ∧ Below w.heap.size w w' := by
 have hup := Tryz.underlying128
 have hu := Tryz.underlying126
 have hzp := pZero
 have H1 := hide ((on_all w).alloc (.cells (pC 0 0) 128))
 have S1 := hide ((Str.refl w).alloc (.cells (pC 0 0) 128))
 have hTw := hT.below (all_below H1.out.right S1.out)
 have htx := hTw.x.part
 have hty := hTw.y.part
 obtain ⟨HsR, HoR, HzR⟩ := b3 (pInfo Ed.bxN Ed.byN) (pC_one Ed.bxN Ed.byN) (pSize 0 0 Ed.bxN Ed.byN)
 have Hb := hide (fun X => run_bp Ed.bxN Ed.byN X)
 have HsX := hide (eInfo Ed.bxN)
 have HsY := hide (eInfo Ed.byN)
 generalize pC 0 0 = Zp at *
 generalize hR : pC Ed.bxN Ed.byN = R at *
 generalize q4 Ed.bxN = X4 at *
 generalize q4 Ed.byN = Y4 at *
 clear hR hTw
 go_enter Tryz.func81, Tryz.ntmps81
 have gR := on_blk_mul H1.out
 have HB := hide (all_below H1.out.right S1.out)
 go_wp2_with (first
  | (refine wpList_load_part rfl _ _ rfl 1 0 rfl X4 _ htx hu rfl HsX ?_)
  | (refine wpList_load_part rfl _ _ rfl 2 0 rfl Y4 _ hty hu rfl HsY ?_)
  | (refine b2_arm rfl 128 0 1 _ _ rfl X4 Y4 R rfl rfl (Hb.out _) ?_)
  | (refine wS gR HsR HzR HoR ?_))
 exact retR Tryz.results81 gR hup HsR.out rfl HB.out (by omega)
theorem point_nat (x y z t : Nat) (hx : x < P5) (hy : y < P5) (hz : z < P5) (w : World) (hT : TabC w) :
  Calls Tryz.prog 96 #[.agg (sC x y z t)] w fun e w' => e = .returned (.agg (pC (x * pwr z (P5 - 2) 256 % P5) (y * pwr z (P5 - 2) 256 % P5))) ∧ Below w.heap.size w w' := by
 have h4 := P5_lt
 have hus := Tryz.underlying151
 have hup := Tryz.underlying128
 have hu := Tryz.underlying126
 have hzS := sZero
 have hzP := pZero
 have hzE := eZero
 have h0 := ((on_all w).alloc (.cells (sC x y z t) 151)).alloc (.cells (pC 0 0) 128)
 have s0 := ((Str.refl w).alloc (.cells (sC x y z t) 151)).alloc (.cells (pC 0 0) 128)
 try simp only [World.size_alloc] at h0
 have H1 := hide h0
 have S1 := hide s0
 clear h0 s0
 have k1 := fun X h1 h2 => invert_any z (by omega) X h1 h2
 have bi := pwr_lt z (P5 - 2) 256
 generalize pwr z (P5 - 2) 256 = ivx at *
 have k2 := mul_two x ivx hx bi
 have k3 := mul_two y ivx hy bi
 generalize x * ivx % P5 = rx at *
 generalize y * ivx % P5 = ry at *
 have hk1 := hide k1
 have hk2 := hide k2
 have hk3 := hide k3
 have hb1 := hide (fun X => run_bs2 x ivx X)
 have hb2 := hide (fun X => run_bs2 y ivx X)
 have hbp := hide (fun X => run_bp rx ry X)
 have hTab := hide hT
 obtain ⟨HsSS, HoSS, HzSS⟩ := b3 (sInfo x y z t) (sC_one x y z t) (sSize 0 0 0 0 x y z t)
 have HpSS_0 := hide (sC_x x y z t)
 have HpSS_4 := hide (sC_y x y z t)
 have HpSS_8 := hide (sC_z x y z t)
 obtain ⟨HsRR, HoRR, HzRR⟩ := b3 (pInfo rx ry) (pC_one rx ry) (pSize 0 0 rx ry)
 obtain ⟨HsX4, HoX4, HzX4⟩ := eF x
 obtain ⟨HsY4, HoY4, HzY4⟩ := eF y
 obtain ⟨HsW4, HoW4, HzW4⟩ := eF z
 obtain ⟨HsI4, HoI4, HzI4⟩ := eF ivx
 obtain ⟨HsRX, HoRX, HzRX⟩ := eF rx
 obtain ⟨HsRY, HoRY, HzRY⟩ := eF ry
 clear k1 k2 k3 bi hx hy hz h4
 generalize sC x y z t = SS at *
 generalize pC rx ry = RR at *
 generalize q4 x = X4 at *
 generalize q4 y = Y4 at *
 generalize q4 z = W4 at *
 generalize q4 ivx = I4 at *
 generalize q4 rx = RX at *
 generalize q4 ry = RY at *
 generalize sC 0 0 0 0 = Zs at *
 generalize pC 0 0 = Zp at *
 generalize q4 0 = Z4 at *
 go_enter Tryz.func96, Tryz.ntmps96
 refine wp_seq_h fun K1 hK1 => ?_
 go_wp2
 refine hK1.out _ _ ?_
 clear hK1 K1
 generalize (w.alloc (.cells SS 151)).alloc (.cells Zp 128) = w1 at *
 refine wp_seq_h fun K2 hK2 => ?_
 have hT0 := hide (hTab.out.below (all_below H1.out.right.right S1.out))
 refine sQ 4 [isV (.pointer (some ⟨w.heap.size, 8, .none⟩)), isV (.agg W4), isV (.agg I4), Fresh w1.heap.size (.cells Z4 126 (0, 0))] ?t31 ?r31
 case' t31 => refine ⟨?_, ?_, ?_, ?_, trivial⟩ <;> intro ev X hT hb hk hf
 ·exact OpOk.s (fV ev 1 (.pointer (some ⟨w.heap.size, 0, .none⟩)) hk.1) hb
 ·exact OpOk.lp (fX ev 4 hf.1) (rowPart (on_blk_mul (H1.out.below hT).right) HpSS_8.out) hu HsW4.out
 ·refine OpOk.enters (f := 102) (args := #[.agg W4]) (W' := X) (by simp [execOp, resolve, invoke, fX ev 5 hf.1, hb.1, hb.2.1, go_sem]) ((hk1.out X (hT0.out.below hT).f (hT0.out.below hT).l).mono ?_)
  rintro e _ ⟨rfl, hB⟩
  exact ⟨_, rfl, rfl, hB⟩
 ·exact OpOk.al hT.size (by simp [execOp, hzE, go_sem])
 intro w2 hX
 rintro _ rfl _ rfl _ rfl _ ⟨g3, rfl, hgg3, hcg3⟩
 have H2 := hide (on_fresh H1.out hX hgg3 hcg3)
 have S2 := hide (S1.out.trans (Str.below hX))
 clear hX H1 S1 hgg3 hcg3
 clear hT0
 go_wp2
 refine Rest.done ?_
 have H3 := hide (st0 H2.out (cs := I4))
 have S3 := hide (S2.out.setRow (g3) I4)
 have gW := on_blk_mul H2.out
 go_wp2_with (first
  | (refine wS gW HsI4 HzI4 HoI4 ?_))
 refine hK2.out _ _ ?_
 clear hK2 K2
 generalize w2.setRow (g3) I4 = w3 at *
 clear gW H2 S2
 refine wp_seq_h fun K3 hK3 => ?_
 have hT0 := hide (hTab.out.below (all_below H3.out.right.right.right S3.out))
 refine wp_tail 11 [isV (.pointer (some ⟨w.heap.size, 0, .none⟩)), isV (.agg X4), isV (.agg I4), fun v X => IsEl X v [x, ivx], isV (.agg RX), isV (.pointer (some ⟨w.heap.size, 4, .none⟩)), isV (.agg Y4), isV (.agg I4), fun v X => IsEl X v [y, ivx], isV (.agg RY), isV (.agg RR)] ?t32 ?r32 (hk := ?keep)
 case keep => exact ⟨Keep.isV _, Keep.isV _, Keep.isV _, fun _ _ _ h k => IsEl.below h k, Keep.isV _, Keep.isV _, Keep.isV _, Keep.isV _, fun _ _ _ h k => IsEl.below h k, Keep.isV _, Keep.isV _, trivial⟩
 case' t32 => refine ⟨?_, ?_, ?_, ?_, ?_, ?_, ?_, ?_, ?_, ?_, ?_, trivial⟩ <;> intro ev X hT hb hk hf
 ·exact OpOk.s (fV ev 1 (.pointer (some ⟨w.heap.size, 0, .none⟩)) hk.1) hb
 ·exact OpOk.lp (fX ev 7 hf.1) (rowPart (on_blk_mul (H3.out.below hT).right.right) HpSS_0.out) hu HsX4.out
 ·exact OpOk.l (x := .tmp 3) hk.1 (on_blk_mul (H3.out.below hT)) hu HsI4.out
 ·exact OpOk.run (v := .slice (some ⟨X.heap.size, 0, .none⟩) 2 2) (W' := X.alloc (.cells #[lv (limb x 0), lv (limb x 1), lv (limb x 2), lv (limb x 3), lv (limb ivx 0), lv (limb ivx 1), lv (limb ivx 2), lv (limb ivx 3)] 126)) (by simp [execOp, fX ev 8 hf.1, fX ev 9 hf.2.1, hb1.out X]) ⟨IsEl.two (heap_alloc_new X _), (Below.refl X.heap.size X).alloc (Nat.le_refl _) _⟩
 ·have e0 : IsEl X (ev (.tmp 10)) [x, ivx] := hf.1
  exact OpOk.c0 hb (hk2.out _ X e0 (hT0.out.below hT).f)
 ·exact OpOk.s (fV ev 1 (.pointer (some ⟨w.heap.size, 0, .none⟩)) hk.1) hb
 ·exact OpOk.lp (fX ev 12 hf.1) (rowPart (on_blk_mul (H3.out.below hT).right.right) HpSS_4.out) hu HsY4.out
 ·exact OpOk.l (x := .tmp 3) hk.1 (on_blk_mul (H3.out.below hT)) hu HsI4.out
 ·exact OpOk.run (v := .slice (some ⟨X.heap.size, 0, .none⟩) 2 2) (W' := X.alloc (.cells #[lv (limb y 0), lv (limb y 1), lv (limb y 2), lv (limb y 3), lv (limb ivx 0), lv (limb ivx 1), lv (limb ivx 2), lv (limb ivx 3)] 126)) (by simp [execOp, fX ev 13 hf.1, fX ev 14 hf.2.1, hb2.out X]) ⟨IsEl.two (heap_alloc_new X _), (Below.refl X.heap.size X).alloc (Nat.le_refl _) _⟩
 ·have e0 : IsEl X (ev (.tmp 15)) [y, ivx] := hf.1
  exact OpOk.c0 hb (hk3.out _ X e0 (hT0.out.below hT).f)
 ·exact OpOk.r (by simp [execOp, fX ev 11 hf.1, fX ev 16 hf.2.1, hbp.out X])
 intro w4 hX
 rintro _ rfl _ rfl _ rfl _ - _ rfl _ rfl _ rfl _ rfl _ - _ rfl _ rfl
 obtain ⟨H4, S4⟩ := nx H3.out S3.out hX
 clear hX H3 S3
 clear hT0
 go_wp2
 refine Rest.done ?_
 have gR := on_blk_mul H4.out.right
 have HB := hide (all_below H4.out.right.right.right S4.out)
 go_wp2_with (first
  | (refine wS gR HsRR HzRR HoRR ?_))
 refine hK3.out _ _ ?_
 clear hK3 K3
 go_wp2
 exact retR Tryz.results96 gR hup HsRR.out rfl HB.out (by omega)
theorem point_any (s : Ed.Sp) (w : World) (hT : TabC w) :
  Calls Tryz.prog 96 #[.agg (sC s.x.val s.y.val s.z.val s.t.val)] w fun e w' => e = .returned (.agg (pC (s.x * Ed.inv s.z).val (s.y * Ed.inv s.z).val)) ∧ Below w.heap.size w w' := by
 rw [Ed.val_mul, Ed.val_mul, Ed.inv_val]
 exact point_nat _ _ _ _ s.x.isLt s.y.isLt s.z.isLt w hT
theorem part_arr {P : Program} (w : World) (e : TypeId) (n : Nat) (e' : TypeId) (he : P.underlying e = some (.array n e')) (hi : (P.info? e).map (·.size) = some n) (cs : Array Value) (i : Nat) : (part e cs i).run P w = .ok (.agg (cs.extract i (i + n))) w := by
 have hagg : (isAgg e).run P w = .ok true w := by
  unfold isAgg
  rw [Sem.run_bind, run_underlying he w]
  simp
 cases hq : P.info? e with
 | none => simp [hq] at hi
 | some inf =>
  have h1 : inf.size = n := by simpa [hq] using hi
  simp [part, hagg, sizeOf, typeInfo, hq, h1]
theorem pC_ext (x y : Nat) : (pC x y).extract 0 (0 + 4) = q4 x ∧ (pC x y).extract 4 (4 + 4) = q4 y := by
 constructor <;> (rw [pC_lit, q4_lit]; rfl)
theorem eqFields_two {P : Program} (w : World) (d : Nat) (xs ys : Array Value) (f g : Field) (hf : f.name ≠ "_") (hg : g.name ≠ "_") (a b a2 b2 : Value) (r s : Bool)
  (h1 : (part f.type xs f.offset).run P w = .ok a w) (h2 : (part f.type ys f.offset).run P w = .ok b w) (h3 : (Op.equalIn d f.type a b).run P w = .ok r w)
  (k1 : (part g.type xs g.offset).run P w = .ok a2 w) (k2 : (part g.type ys g.offset).run P w = .ok b2 w) (k3 : (Op.equalIn d g.type a2 b2).run P w = .ok s w) :
  (Op.eqFields d xs ys [f, g]).run P w = .ok (r && s) w := by
 cases r <;> cases s <;> simp [Op.eqFields, hf, hg, Sem.run_bind, h1, h2, h3, k1, k2, k3]
theorem eq_pC_d (d : Nat) (w : World) (x y x2 y2 : Nat) (hx : x < 18446744073709551616 ^ 4) (hy : y < 18446744073709551616 ^ 4) (hx2 : x2 < 18446744073709551616 ^ 4) (hy2 : y2 < 18446744073709551616 ^ 4) :
  (Op.equalIn (d + 3) 128 (.agg (pC x y)) (.agg (pC x2 y2))).run Tryz.prog w = .ok (decide (x = x2) && decide (y = y2)) w := by
 have hu := Tryz.underlying128
 have hs : Tryz.prog.stoodInHeld 128 = false := by kernel_rfl
 have he := Tryz.underlying126
 have p1 := part_arr (P := Tryz.prog) w 126 4 50 he (by kernel_rfl) (pC x y) 0
 have p2 := part_arr (P := Tryz.prog) w 126 4 50 he (by kernel_rfl) (pC x y) 4
 have q1 := part_arr (P := Tryz.prog) w 126 4 50 he (by kernel_rfl) (pC x2 y2) 0
 have q2 := part_arr (P := Tryz.prog) w 126 4 50 he (by kernel_rfl) (pC x2 y2) 4
 rw [(pC_ext x y).1] at p1
 rw [(pC_ext x y).2] at p2
 rw [(pC_ext x2 y2).1] at q1
 rw [(pC_ext x2 y2).2] at q2
 have r1 := eq_q4 w d 126 he x x2 hx hx2
 have r2 := eq_q4 w d 126 he y y2 hy hy2
 have hf : Tryz.prog.underlying 128 = some (.struct (Tryz.prog.fieldsOf 128)) := by kernel_rfl
 have e := hf.symm.trans hu
 injection e with e
 injection e with e
 rw [run_equalIn_struct w (d + 2) _ _ _ hf hs, e]
 exact eqFields_two w (d + 2) _ _ _ _ (by decide) (by decide) _ _ _ _ _ _ p1 q1 r1 p2 q2 r2
theorem eq_pC (w : World) (x y x2 y2 : Nat) (hx : x < 18446744073709551616 ^ 4) (hy : y < 18446744073709551616 ^ 4) (hx2 : x2 < 18446744073709551616 ^ 4) (hy2 : y2 < 18446744073709551616 ^ 4) :
  (Op.equalIn 10000 128 (.agg (pC x y)) (.agg (pC x2 y2))).run Tryz.prog w = .ok (decide (x = x2) && decide (y = y2)) w := eq_pC_d 9997 w x y x2 y2 hx hy hx2 hy2
theorem b0_arm {ops : Array Oper} {rest : List Oper} {o : Oper} {a : Act} {w : World} {Q : Exit → Act → World → Prop} (hw : Region.wanted o (yielded ops a.tmps) = true) (T : TypeId) (ho : o.op = .build T #[])
  (R : Array Value) (hb : (Instr.build T #[]).run Tryz.prog w = .ok (.agg R) w) (hk : wpList Tryz.prog ops Q rest (a.put o.dst (.agg R)) w) : wpList Tryz.prog ops Q (o :: rest) a w := by
 have hr : (execOp a.eval o).run Tryz.prog w = .ok (.value (.agg R)) w := by
  unfold execOp
  rw [ho]
  simp only [List.map_toArray, List.map_nil]
  rw [Sem.run_bind, hb]; rfl
 exact wpList_step fun _ hK => by
  rw [if_pos hw]; unfold Oper.wp; simp only [hr]; exact hK _ _ hk
theorem eq_arm {ops : Array Oper} {rest : List Oper} {o : Oper} {a : Act} {w : World} {Q : Exit → Act → World → Prop} (hw : Region.wanted o (yielded ops a.tmps) = true) (t rt : TypeId) (x y : Operand) (ho : o.op = .binOp .eql t x y rt)
  (hgd : Tryz.prog.eqGuardType Tryz.prog.depth t = false) (A B : Array Value) (hx : a.eval x = .agg A) (hy : a.eval y = .agg B) (b : Bool) (he : (Op.equalIn 10000 t (.agg A) (.agg B)).run Tryz.prog w = .ok b w)
  (h : wpList Tryz.prog ops Q rest (a.put o.dst (.bool b)) w) : wpList Tryz.prog ops Q (o :: rest) a w :=
 wpList_step fun K hK => by
  rw [if_pos hw]
  have hr : (execOp a.eval o).run Tryz.prog w = .ok (.value (.bool b)) w := by
   unfold execOp
   rw [ho]
   simp only [hx, hy, Sem.run_bind, run_eqGuard_agg w _ _ _ _ _ _ hgd, run_eql_struct, he, Result.andThen_ok]
   rfl
  unfold Oper.wp
  simp only [hr]
  exact hK _ _ h
theorem run_b0 (w : World) : (Instr.build 128 #[]).run Tryz.prog w = .ok (.agg (pC 0 0)) w := by rw [pC_lit]; simp only [limb_0]; kernel_rfl
def whY (x y : Nat) : Nat := if (decide (x = 0) && decide (y = 0)) = true then 1 else y
theorem whole_any (x y : Nat) (hx : x < P5) (hy : y < P5) (w : World) : Calls Tryz.prog 91 #[.agg (pC x y)] w fun e w' => e = .returned (.agg (pC x (whY x y))) ∧ Below w.heap.size w w' := by
 have hup := Tryz.underlying128
 have hzp := pZero
 have h4 := P5_lt
 have h0 := ((on_all w).alloc (.cells (pC x y) 128)).alloc (.cells (pC 0 0) 128)
 have s0 := ((Str.refl w).alloc (.cells (pC x y) 128)).alloc (.cells (pC 0 0) 128)
 simp only [World.size_alloc] at h0
 have H1 := hide h0
 have S1 := hide s0
 have He := hide (fun X => eq_pC X x y 0 0 (by omega) (by omega) (by decide) (by decide))
 have Hgd : Hid (Tryz.prog.eqGuardType Tryz.prog.depth 128 = false) := hide (by kernel_rfl)
 have Hb := hide run_b0
 have Hc := hide (fun X => none_any X)
 obtain ⟨HsA, HoA, HzA⟩ := b3 (pInfo x y) (pC_one x y) (pSize 0 0 x y)
 obtain ⟨HsN, HoN, HzN⟩ := b3 (pInfo 0 1) (pC_one 0 1) (pSize 0 0 0 1)
 have HW := hide (show whY x y = if (decide (x = 0) && decide (y = 0)) = true then 1 else y from rfl)
 have gA := on_blk_mul h0.right
 clear h0 s0 h4 hx hy
 by_cases hc : (decide (x = 0) && decide (y = 0)) = true
 ·have hx0 : x = 0 := by simp at hc; exact hc.1
  rw [hc] at He
  have HR := hide (show pC x (whY x y) = pC 0 1 by rw [HW.out, if_pos hc, hx0])
  clear hc hx0 HW
  generalize pC x y = Ap at *
  generalize pC 0 0 = Zp at *
  generalize pC 0 1 = Np at *
  go_enter Tryz.func91, Tryz.ntmps91
  go_wp2_with (first
   | (refine wL gA hup HsA ?_)
   | (refine b0_arm rfl 128 rfl Zp (Hb.out _) ?_)
   | (refine eq_arm rfl _ _ _ _ rfl Hgd.out Ap Zp rfl rfl true (He.out _) ?_))
  generalize (w.alloc (.cells Ap 128)).alloc (.cells Zp 128) = w1 at *
  refine (Hc.out _).mono ?_
  rintro e w2 ⟨rfl, hB⟩
  obtain ⟨H2, S2⟩ := nx H1.out S1.out hB
  clear hB H1 S1 gA
  have gR := on_blk_mul H2.out
  have HB := hide (all_below H2.out.right.right S2.out)
  go_wp2_with (refine wS gR HsN HzN HoN ?_)
  exact retE Tryz.results91 gR hup HsN.out rfl (by rw [HR.out]) HB.out (by omega)
 have hcf : (decide (x = 0) && decide (y = 0)) = false := by simpa using hc
 rw [hcf] at He
 have HR := hide (show pC x (whY x y) = pC x y by rw [HW.out, if_neg hc])
 clear hc hcf HW
 have gR := on_blk_mul H1.out
 have HB := hide (all_below H1.out.right.right S1.out)
 generalize pC x y = Ap at *
 generalize pC 0 0 = Zp at *
 generalize pC 0 1 = Np at *
 go_enter Tryz.func91, Tryz.ntmps91
 go_wp2_with (first
  | (refine wL gA hup HsA ?_)
  | (refine b0_arm rfl 128 rfl Zp (Hb.out _) ?_)
  | (refine eq_arm rfl _ _ _ _ rfl Hgd.out Ap Zp rfl rfl false (He.out _) ?_)
  | (refine wS gR HsA HzA HoA ?_))
 exact retE Tryz.results91 gR hup HsA.out rfl (by rw [HR.out]) HB.out (by omega)
theorem whY_lt (x y : Nat) (h : y < P5) : whY x y < P5 := by
 unfold whY
 split
 ·decide
 exact h
theorem spread_any (x y : Nat) (hx : x < P5) (hy : y < P5) (w : World) (hT : TabC w) :
  Calls Tryz.prog 92 #[.agg (pC x y)] w fun e w' => e = .returned (.agg (sC x (whY x y) 1 (x * whY x y % P5))) ∧ Below w.heap.size w w' := by
 have hup := Tryz.underlying128
 have hus := Tryz.underlying151
 have hu := Tryz.underlying126
 have hzP := pZero
 have hzS := sZero
 have hzE := eZero
 have h0 := ((on_all w).alloc (.cells (pC x y) 128)).alloc (.cells (sC 0 0 0 0) 151)
 have s0 := ((Str.refl w).alloc (.cells (pC x y) 128)).alloc (.cells (sC 0 0 0 0) 151)
 try simp only [World.size_alloc] at h0
 have H1 := hide h0
 have S1 := hide s0
 clear h0 s0
 have k1 := fun X => whole_any x y hx hy X
 have hY := whY_lt x y hy
 generalize whY x y = u at *
 have k2 := mul_two x u hx hY
 generalize x * u % P5 = v at *
 have hk1 := hide k1
 have hk2 := hide k2
 have hk3 := hide (fun X => small_any 1 (by decide) X)
 have hb1 := hide (fun X => run_bs2 x u X)
 have hbp := hide (fun X => run_bsp x u 1 v X)
 have hTab := hide hT
 obtain ⟨HsAP, HoAP, HzAP⟩ := b3 (pInfo x y) (pC_one x y) (pSize 0 0 x y)
 obtain ⟨HsBP, HoBP, HzBP⟩ := b3 (pInfo x u) (pC_one x u) (pSize 0 0 x u)
 have HpBP_0 := hide (pC_x x u)
 have HpBP_4 := hide (pC_y x u)
 obtain ⟨HsRR, HoRR, HzRR⟩ := b3 (sInfo x u 1 v) (sC_one x u 1 v) (sSize 0 0 0 0 x u 1 v)
 obtain ⟨HsX4, HoX4, HzX4⟩ := eF x
 obtain ⟨HsY4, HoY4, HzY4⟩ := eF u
 obtain ⟨HsI4, HoI4, HzI4⟩ := eF 1
 obtain ⟨HsV4, HoV4, HzV4⟩ := eF v
 clear k1 k2 hY hx hy
 generalize pC x y = AP at *
 generalize pC x u = BP at *
 generalize sC x u 1 v = RR at *
 generalize q4 x = X4 at *
 generalize q4 u = Y4 at *
 generalize q4 1 = I4 at *
 generalize q4 v = V4 at *
 generalize pC 0 0 = Zp at *
 generalize sC 0 0 0 0 = Zs at *
 generalize q4 0 = Z4 at *
 go_enter Tryz.func92, Tryz.ntmps92
 refine wp_seq_h fun K1 hK1 => ?_
 go_wp2
 refine hK1.out _ _ ?_
 clear hK1 K1
 generalize (w.alloc (.cells AP 128)).alloc (.cells Zs 151) = w1 at *
 refine wp_seq_h fun K2 hK2 => ?_
 have hT0 := hide (hTab.out.below (all_below H1.out.right.right S1.out))
 refine sQ 2 (iv [.agg AP, .agg BP]) ?t33 ?r33
 case' t33 => refine ⟨?_, ?_, trivial⟩ <;> intro ev X hT hb hk hf
 ·exact OpOk.l (x := .tmp 1) hk.1 (on_blk_mul (H1.out.below hT).right) hup HsAP.out
 ·refine OpOk.enters (f := 91) (args := #[.agg AP]) (W' := X) (by simp [execOp, resolve, invoke, fX ev 3 hf.1, hb.1, hb.2.1, go_sem]) ((hk1.out X).mono ?_)
  rintro e _ ⟨rfl, hB⟩
  exact ⟨_, rfl, rfl, hB⟩
 intro w2 hX
 rintro _ rfl _ rfl
 obtain ⟨H2, S2⟩ := nx H1.out S1.out hX
 clear hX H1 S1
 clear hT0
 go_wp2
 refine Rest.done ?_
 have H3 := hide (st1 H2.out (cs := BP))
 have S3 := hide (S2.out.setRow (w.heap.size) BP)
 have gW := on_blk_mul H2.out.right
 go_wp2_with (first
  | (refine wS gW HsBP.out (HzAP.out.symm.trans HzBP.out) HoBP.out ?_))
 refine hK2.out _ _ ?_
 clear hK2 K2
 generalize w2.setRow (w.heap.size) BP = w3 at *
 clear gW H2 S2
 refine wp_seq_h fun K3 hK3 => ?_
 have hT0 := hide (hTab.out.below (all_below H3.out.right.right S3.out))
 refine wp_tail 12 [isV (.pointer (some ⟨w.heap.size, 0, .none⟩)), isV (.agg X4), isV (.pointer (some ⟨w.heap.size, 4, .none⟩)), isV (.agg Y4), isV (.agg I4), isV (.pointer (some ⟨w.heap.size, 0, .none⟩)), isV (.agg X4), isV (.pointer (some ⟨w.heap.size, 4, .none⟩)), isV (.agg Y4), fun v X => IsEl X v [x, u], isV (.agg V4), isV (.agg RR)] ?t34 ?r34 (hk := ?keep)
 case keep => exact ⟨Keep.isV _, Keep.isV _, Keep.isV _, Keep.isV _, Keep.isV _, Keep.isV _, Keep.isV _, Keep.isV _, Keep.isV _, fun _ _ _ h k => IsEl.below h k, Keep.isV _, Keep.isV _, trivial⟩
 case' t34 => refine ⟨?_, ?_, ?_, ?_, ?_, ?_, ?_, ?_, ?_, ?_, ?_, ?_, trivial⟩ <;> intro ev X hT hb hk hf
 ·exact OpOk.s (fV ev 1 (.pointer (some ⟨w.heap.size, 0, .none⟩)) hk.1) hb
 ·exact OpOk.lp (fX ev 5 hf.1) (rowPart (on_blk_mul (H3.out.below hT).right) HpBP_0.out) hu HsX4.out
 ·exact OpOk.s (fV ev 1 (.pointer (some ⟨w.heap.size, 0, .none⟩)) hk.1) hb
 ·exact OpOk.lp (fX ev 7 hf.1) (rowPart (on_blk_mul (H3.out.below hT).right) HpBP_4.out) hu HsY4.out
 ·exact OpOk.c0 hb (hk3.out X)
 ·exact OpOk.s (fV ev 1 (.pointer (some ⟨w.heap.size, 0, .none⟩)) hk.1) hb
 ·exact OpOk.lp (fX ev 10 hf.1) (rowPart (on_blk_mul (H3.out.below hT).right) HpBP_0.out) hu HsX4.out
 ·exact OpOk.s (fV ev 1 (.pointer (some ⟨w.heap.size, 0, .none⟩)) hk.1) hb
 ·exact OpOk.lp (fX ev 12 hf.1) (rowPart (on_blk_mul (H3.out.below hT).right) HpBP_4.out) hu HsY4.out
 ·exact OpOk.run (v := .slice (some ⟨X.heap.size, 0, .none⟩) 2 2) (W' := X.alloc (.cells #[lv (limb x 0), lv (limb x 1), lv (limb x 2), lv (limb x 3), lv (limb u 0), lv (limb u 1), lv (limb u 2), lv (limb u 3)] 126)) (by simp [execOp, fX ev 11 hf.1, fX ev 13 hf.2.1, hb1.out X]) ⟨IsEl.two (heap_alloc_new X _), (Below.refl X.heap.size X).alloc (Nat.le_refl _) _⟩
 ·have e0 : IsEl X (ev (.tmp 14)) [x, u] := hf.1
  exact OpOk.c0 hb (hk2.out _ X e0 (hT0.out.below hT).f)
 ·exact OpOk.r (by simp [execOp, fX ev 6 hf.1, fX ev 8 hf.2.1, fX ev 9 hf.2.2.1, fX ev 15 hf.2.2.2.1, hbp.out X])
 intro w4 hX
 rintro _ rfl _ rfl _ rfl _ rfl _ rfl _ rfl _ rfl _ rfl _ rfl _ - _ rfl _ rfl
 obtain ⟨H4, S4⟩ := nx H3.out S3.out hX
 clear hX H3 S3
 clear hT0
 go_wp2
 refine Rest.done ?_
 have gR := on_blk_mul H4.out
 have HB := hide (all_below H4.out.right.right S4.out)
 go_wp2_with (first
  | (refine wS gR HsRR HzRR HoRR ?_))
 refine hK3.out _ _ ?_
 clear hK3 K3
 go_wp2
 exact retR Tryz.results92 gR hus HsRR.out rfl HB.out (by omega)
end Cv
end Go.Proofs.YtjdebgbiockafaaGreatDoor
