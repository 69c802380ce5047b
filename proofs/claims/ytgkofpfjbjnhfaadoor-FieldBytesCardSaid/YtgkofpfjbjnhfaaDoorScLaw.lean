/- scalar's laws: the chapter's example; raw bits as a number. -/
import Derived.Test.YtgkofpfjbjnhfaaDoorScOpen
namespace Go.Proofs.YtgkofpfjbjnhfaaDoor
open Go.ChangeShapes Go.WideShapes Go.ChangeAt Go.RowKit
set_option linter.unusedVariables false
set_option linter.unusedSimpArgs false

theorem zb_lay {w : World} {g : Nat} {l : List UInt8} {t : TypeId} (hg : w.heap[g]? = some (.cells (zb l) t (0, 0))) (h : l.length ≤ maxLen) : IsBytes w (.slice (some ⟨g, 0, Option.none⟩) l.length l.length) l :=
  ⟨_, _, rfl, Nat.le_refl _, h, fun j v hv => ⟨_, _, rfl, by rw [Nat.zero_add, cell_of_row w g j _ _ _ hg]; simpa [zb] using hv⟩, fun h => (nomatch h)⟩
theorem leN_q4 (n : Nat) (h : n < 18446744073709551616 ^ 4) : leN (wbs (qs 4 n)) = n := leN_qs 4 n h
theorem zb_one (l : List UInt8) : (zb l).all (·.oneCell') = true := vba l

set_option maxRecDepth 100000 in
set_option maxHeartbeats 4000000 in
theorem num_any (n : Nat) (hn : n < 18446744073709551616 ^ 4) (w : World) :
    Calls Tryd.prog 39 #[.agg (q4 n)] w fun e w' => e = .returned (.agg (q4 (n % O6))) ∧ Below w.heap.size w w' := by
  have hu := Tryd.underlying23
  have hu32 := Tryd.underlying48
  have hz : ∀ w, (zeroValue 23).run Tryd.prog w = .ok (.agg (q4 0)) w := fun w => by rw [qz4]; kernel_rfl
  have hz32 : ∀ w, (zeroValue 48).run Tryd.prog w = .ok (.agg (zb (List.replicate 32 0))) w := fun w => by kernel_rfl
  have Hs : Hid (∀ n, (Tryd.prog.info? 23).map (·.size) = some (q4 n).size) := hide fun n => by rw [q4_size]; kernel_rfl
  have hlen := wbs_len (qs 4 n)
  rw [qs_len] at hlen
  have HsB : Hid ((Tryd.prog.info? 48).map (·.size) = some (zb (wbs (qs 4 n))).size) := hide (by rw [show (zb (wbs (qs 4 n))).size = 32 by simp [zb, vbs, hlen]]; kernel_rfl)
  have h0 := ((on_all w).alloc (.cells (q4 n) 23)).alloc (.cells (q4 0) 23)
  have hs0 := ((Str.refl w).alloc (.cells (q4 n) 23)).alloc (.cells (q4 0) 23)
  simp only [World.size_alloc] at h0
  have gA := on_blk_mul h0.right
  have gR := on_blk_mul h0
  have HB := hide (all_below h0.right.right hs0)
  have HsA := hide (Hs.out n)
  have hBL := bytesL_any n
  have HBL := hide (fun X => hBL X)
  have Hlen := hide hlen
  have Hone := hide (zb_one (wbs (qs 4 n)))
  have Hred : Hid (∀ v X, IsBytes X v (wbs (qs 4 n)) → Calls Tryd.prog 47 #[v] X fun e w' => e = .returned (.agg (q4 (n % O6))) ∧ Below X.heap.size X w') := hide fun v X h1 => by
    have := rreduce_any v _ X h1 (by rw [hlen]; omega)
    rwa [leN_q4 n hn] at this
  have hzsz : (zb (List.replicate 32 0)).size = (zb (wbs (qs 4 n))).size := by rw [show (zb (wbs (qs 4 n))).size = 32 by simp [zb, vbs, hlen]]; rfl
  have lR0 := (Array.getElem?_eq_some_iff.1 gR).1
  clear h0 hs0 hlen hBL hn
  generalize hA : q4 n = A4 at *
  generalize hZ : q4 0 = Z4 at *
  have HZ := hide hZ
  clear hA hZ
  generalize hZb : zb (List.replicate 32 0) = Zb at *
  clear hZb
  generalize hBb : zb (wbs (qs 4 n)) = Bb at *
  have HBb := hide hBb
  clear hBb
  go_enter Tryd.func39, Tryd.ntmps39
  go_wp2_with (refine wpList_load_row rfl _ _ rfl w.heap.size rfl _ A4 _ _ gA hu rfl HsA.out ?_)
  generalize (w.alloc (.cells A4 23)).alloc (.cells Z4 23) = w1 at *
  refine (HBL.out _).mono ?_
  rintro e w2 ⟨rfl, hB2⟩
  have gR2 := (hB2.block _ lR0).trans gR
  have HB2 := hide (HB.out.trans (hB2.mono HB.out.size))
  have gN := heap_alloc_new w2 (.cells Zb 48)
  have gN2 := setRow_heap_same _ w2.heap.size Bb _ _ _ gN
  have lR2 : w.heap.size + 1 < w2.heap.size := Nat.lt_of_lt_of_le lR0 hB2.size
  have hB3 : Below w2.heap.size w2 ((w2.alloc (.cells Zb 48)).setRow w2.heap.size Bb) := below_setRow ((Below.refl w2.heap.size w2).alloc (Nat.le_refl _) _) (Nat.le_refl _) _
  have HB3 := hide hB3
  have hlay : IsBytes ((w2.alloc (.cells Zb 48)).setRow w2.heap.size Bb) (.slice (some ⟨w2.heap.size, 0, Option.none⟩) 32 32) (wbs (qs 4 n)) := by
    have := zb_lay (l := wbs (qs 4 n)) (by rw [HBb.out]; exact gN2) (by rw [Hlen.out]; unfold maxLen; omega)
    rwa [Hlen.out] at this
  have HR := hide (Hred.out _ _ hlay)
  have hone := Hone.out
  have GR2 := hide gR2
  clear hB2 gA gR hB3 hlay gN2 lR0 gR2 Hone
  go_wp2_with (refine wpList_store_row rfl _ _ _ rfl w2.heap.size Bb rfl rfl _ _ gN HsB.out hzsz hone ?_)
  generalize (w2.alloc (.cells Zb 48)).setRow w2.heap.size Bb = w3 at *
  refine HR.out.mono ?_
  rintro e w4 ⟨rfl, hB4⟩
  have gR4 := (hB4.block _ (Nat.lt_of_lt_of_le lR2 HB3.out.size)).trans ((HB3.out.block _ lR2).trans GR2.out)
  have HB4 := hide (HB2.out.trans ((HB3.out.trans (hB4.mono HB3.out.size)).mono HB2.out.size))
  have HsR := hide (Hs.out (n % O6))
  have hone4 : (q4 (n % O6)).all (·.oneCell') = true := lvs_one _
  have hza : Z4.size = (q4 (n % O6)).size := by rw [← HZ.out, q4_size, q4_size]
  clear hB4 gN hone
  generalize hR4 : q4 (n % O6) = R4 at *
  have HR4 := hide hR4
  clear hR4
  go_wp2_with (refine wpList_store_row rfl _ _ _ rfl (w.heap.size + 1) R4 rfl rfl _ _ gR4 HsR.out hza hone4 ?_)
  refine bodyPost_ret (v := .agg R4) (results_cell_row Tryd.results39 _ _ (w.heap.size + 1) _ R4 (0, 0) _ rfl (setRow_heap_same _ _ _ _ _ _ gR4) hu rfl HsR.out) rfl ⟨by rw [HR4.out], below_setRow HB4.out (by omega) _⟩

theorem wpList_eq_q4 {ops : Array Oper} {rest : List Oper} {o : Oper} {a : Act} {w : World} {Q : Exit → Act → World → Prop} (hw : Region.wanted o (yielded ops a.tmps) = true) (t rt : TypeId) (x y : Operand) (ho : o.op = .binOp .eql t x y rt)
    (hgd : Tryd.prog.eqGuardType Tryd.prog.depth t = false) (ht : Tryd.prog.underlying t = some (.array 4 22))
    (m n : Nat) (hx : a.eval x = .agg (q4 m)) (hy : a.eval y = .agg (q4 n)) (hm : m < 18446744073709551616 ^ 4) (hn : n < 18446744073709551616 ^ 4) (b : Bool) (hb : decide (m = n) = b)
    (h : wpList Tryd.prog ops Q rest (a.put o.dst (.bool b)) w) : wpList Tryd.prog ops Q (o :: rest) a w :=
  wpList_step fun K hK => by
    rw [if_pos hw]
    have he := eq_q4 w 9998 t ht m n hm hn
    rw [hb] at he
    have hr : (execOp a.eval o).run Tryd.prog w = .ok (.value (.bool b)) w := by
      unfold execOp
      rw [ho]
      simp only [hx, hy, Sem.run_bind, run_eqGuard_agg w _ _ _ _ _ _ hgd, run_eql_struct, he, Result.andThen_ok]
      rfl
    unfold Oper.wp
    simp only [hr]
    exact hK _ _ h
theorem q4_5 : q4 5 = #[.int .u64 5, .int .u64 0, .int .u64 0, .int .u64 0] := by rw [show q4 5 = lvs (qs 4 5) from rfl, show qs 4 5 = [5, 0, 0, 0] by decide]; rfl
theorem wpList_build_n {ops : Array Oper} {rest : List Oper} {o : Oper} {a : Act} {w : World} {Q : Exit → Act → World → Prop} (hw : Region.wanted o (yielded ops a.tmps) = true)
    (c : Nat) (ho : o.op = .build 58 #[(0, .const (.int .u64 (c : Int)))]) (hc : c < 18446744073709551616)
    (hk : wpList Tryd.prog ops Q rest (a.put o.dst (.agg (q4 c))) w) : wpList Tryd.prog ops Q (o :: rest) a w := by
  have e : q4 c = #[.int .u64 (c : Int), .int .u64 0, .int .u64 0, .int .u64 0] := by
    have h : qs 4 c = [c, 0, 0, 0] := by
      unfold qs
      rw [show List.range 4 = [0, 1, 2, 3] from rfl]
      simp only [List.map_cons, List.map_nil, limb, Nat.reducePow, Nat.pow_zero, Nat.div_one]
      rw [Nat.mod_eq_of_lt hc, Nat.div_eq_of_lt hc, Nat.div_eq_of_lt (by omega), Nat.div_eq_of_lt (by omega)]
    rw [show q4 c = lvs (qs 4 c) from rfl, h]; rfl
  have hb0 : ∀ w, (Instr.build 58 #[(0, .int .u64 (c : Int))]).run Tryd.prog w = .ok (.agg (q4 c)) w := fun w => by rw [e]; kernel_rfl
  have h0 : ∀ c, a.eval (.const c) = c := fun _ => rfl
  have hr : (execOp a.eval o).run Tryd.prog w = .ok (.value (.agg (q4 c))) w := by
    unfold execOp
    rw [ho]
    simp only [List.map_toArray, List.map_cons, List.map_nil, h0]
    rw [Sem.run_bind, hb0]
    rfl
  exact wpList_step fun _ hK => by
    rw [if_pos hw]
    unfold Oper.wp
    simp only [hr]
    exact hK _ _ hk
set_option maxRecDepth 100000 in
set_option maxHeartbeats 4000000 in
theorem lives06_any (w : World) (hO : TabO w) :
    Calls Tryd.prog 38 #[] w fun e w' => e = .returned (.bool true) ∧ Below w.heap.size w w' := by
  have hun := Tryd.underlying58
  have hu := Tryd.underlying23
  have hu32 := Tryd.underlying48
  have hz32 : ∀ w, (zeroValue 48).run Tryd.prog w = .ok (.agg (zb (List.replicate 32 0))) w := fun w => by kernel_rfl
  have Hgd : Hid (Tryd.prog.eqGuardType Tryd.prog.depth 58 = false) := hide (by kernel_rfl)
  have hlen := wbs_len (qs 4 O6)
  rw [qs_len] at hlen
  have HsB : Hid ((Tryd.prog.info? 48).map (·.size) = some (zb (wbs (qs 4 O6))).size) := hide (by rw [show (zb (wbs (qs 4 O6))).size = 32 by simp [zb, vbs, hlen]]; kernel_rfl)
  have hzsz : (zb (List.replicate 32 0)).size = (zb (wbs (qs 4 O6))).size := by rw [show (zb (wbs (qs 4 O6))).size = 32 by simp [zb, vbs, hlen]]; rfl
  have HO := hide hO
  have Hord := hide (fun X (h : TabO X) => order_any X h)
  have Henc := hide (fun X => enc_any O6 X)
  have Hlen := hide hlen
  have hone := zb_one (wbs (qs 4 O6))
  have Hred : Hid (∀ v X, IsBytes X v (wbs (qs 4 O6)) → TabO X → Calls Tryd.prog 46 #[v] X fun e w' => e = .returned (.agg (q4 0)) ∧ Below X.heap.size X w') := hide fun v X h1 h2 => by
    have := reduce_any v _ X h1 h2 (by rw [hlen]; omega)
    rwa [leN_q4 O6 (by decide), Nat.mod_self] at this
  have Hred5 : Hid (∀ v X, IsBytes X v [5] → TabO X → Calls Tryd.prog 46 #[v] X fun e w' => e = .returned (.agg (q4 5)) ∧ Below X.heap.size X w') := hide fun v X h1 h2 =>
    reduce_any v _ X h1 h2 (by decide)
  have Hl := hide (fun X => rl_any X)
  clear hO hlen
  generalize hZb : zb (List.replicate 32 0) = Zb at *
  clear hZb
  generalize hBb : zb (wbs (qs 4 O6)) = Bb at *
  have HBb := hide hBb
  clear hBb
  go_enter Tryd.func38, Tryd.ntmps38
  go_wp2_with fail
  refine (Hord.out _ HO.out).mono ?_
  rintro e w1 ⟨rfl, hB1⟩
  have HB1 := hide hB1
  clear hB1
  go_wp2_with fail
  refine (Henc.out _).mono ?_
  rintro e w2 ⟨rfl, hB2⟩
  have HB2 := hide (HB1.out.trans (hB2.mono HB1.out.size))
  have gN := heap_alloc_new w2 (.cells Zb 48)
  have gN2 := setRow_heap_same _ w2.heap.size Bb _ _ _ gN
  have hB3 : Below w2.heap.size w2 ((w2.alloc (.cells Zb 48)).setRow w2.heap.size Bb) := below_setRow ((Below.refl w2.heap.size w2).alloc (Nat.le_refl _) _) (Nat.le_refl _) _
  have HB3 := hide (HB2.out.trans (hB3.mono HB2.out.size))
  have Hlay : Hid (IsBytes ((w2.alloc (.cells Zb 48)).setRow w2.heap.size Bb) (.slice (some ⟨w2.heap.size, 0, Option.none⟩) 32 32) (wbs (qs 4 O6))) := hide (by
    have := zb_lay (l := wbs (qs 4 O6)) (by rw [HBb.out]; exact gN2) (by rw [Hlen.out]; unfold maxLen; omega)
    rwa [Hlen.out] at this)
  clear hB2 hB3 gN2
  go_wp2_with (refine wpList_store_row rfl _ _ _ rfl w2.heap.size Bb rfl rfl _ _ gN HsB.out hzsz hone ?_)
  generalize (w2.alloc (.cells Zb 48)).setRow w2.heap.size Bb = w3 at *
  refine (Hred.out _ _ Hlay.out (HO.out.below HB3.out)).mono ?_
  rintro e w4 ⟨rfl, hB4⟩
  have HB4 := hide (HB3.out.trans (hB4.mono HB3.out.size))
  clear hB4 gN
  have hb0 : ∀ w, (Instr.build 58 #[]).run Tryd.prog w = .ok (.agg (q4 0)) w := fun w => by rw [qz4]; kernel_rfl
  go_wp2_with (refine wpList_eq_q4 rfl _ _ _ _ rfl Hgd.out hun 0 0 rfl rfl (by decide) (by decide) true rfl ?_)
  have hb5 := ((Below.refl w4.heap.size w4).alloc (Nat.le_refl _) (.cells #[Value.int IntKind.u8 5] 5))
  have HB5 := hide (HB4.out.trans (hb5.mono HB4.out.size))
  clear hb5
  refine (Hred5.out _ _ (show IsBytes _ _ [5] from IsBytes.new w4 [5] (by simp [maxLen]) 5) (HO.out.below HB5.out)).mono ?_
  rintro e w6 ⟨rfl, hB6⟩
  have HB6 := hide (HB5.out.trans (hB6.mono HB5.out.size))
  clear hB6
  go_wp2_with (first
    | (refine wpList_build_n rfl 5 rfl (by decide) ?_)
    | (refine wpList_eq_q4 rfl _ _ _ _ rfl Hgd.out hun 5 5 rfl rfl (by decide) (by decide) true rfl ?_))
  refine (Hord.out _ (HO.out.below HB6.out)).mono ?_
  rintro e w7 ⟨rfl, hB7⟩
  have HB7 := hide (HB6.out.trans (hB7.mono HB6.out.size))
  clear hB7
  go_wp2_with fail
  refine (Hl.out _).mono ?_
  rintro e w8 ⟨rfl, hB8⟩
  have HB8 := hide (HB7.out.trans (hB8.mono HB7.out.size))
  clear hB8
  go_wp2_with (refine wpList_eq_q4 rfl _ _ _ _ rfl Hgd.out hun O6 O6 rfl rfl (by decide) (by decide) true rfl ?_)
  go_ret
  exact ⟨rfl, HB8.out⟩
end Go.Proofs.YtgkofpfjbjnhfaaDoor
