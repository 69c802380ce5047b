/- A part. -/
import Derived.Test.YtjdebgbiockafaaGreatDoorGSc3
set_option linter.unusedVariables false
set_option linter.unusedSimpArgs false
set_option maxRecDepth 100000
set_option maxHeartbeats 8000000
namespace Go.Proofs.YtjdebgbiockafaaGreatDoor
open Go.ChangeShapes Go.WideShapes Go.ChangeAt Go.RowKit
theorem q4_O6 : q4 O6 = #[.int .u64 6346243789798364141, .int .u64 1503914060200516822, .int .u64 0, .int .u64 1152921504606846976] := by
 rw [show q4 O6 = lvs (qs 4 O6) from rfl, show qs 4 O6 = [6346243789798364141, 1503914060200516822, 0, 1152921504606846976] by decide]; rfl
theorem wpList_build_L {ops : Array Oper} {rest : List Oper} {o : Oper} {a : Act} {w : World} {Q : Exit → Act → World → Prop} (hgd : o.guard = Option.none)
  (ho : o.op = .build 51 #[(0, .const (.int .u64 6346243789798364141)), (1, .const (.int .u64 1503914060200516822)), (2, .const (.int .u64 0)), (3, .const (.int .u64 1152921504606846976))])
  (hk : wpList Tryz.prog ops Q rest (a.put o.dst (.agg (q4 O6))) w) : wpList Tryz.prog ops Q (o :: rest) a w := by
 have hb0 : ∀ w, (Instr.build 51 #[(0, .int .u64 6346243789798364141), (1, .int .u64 1503914060200516822), (2, .int .u64 0), (3, .int .u64 1152921504606846976)]).run Tryz.prog w = .ok (.agg (q4 O6)) w := fun w => by rw [q4_O6]; kernel_rfl
 have h0 : ∀ c, a.eval (.const c) = c := fun _ => rfl
 have hr : (execOp a.eval o).run Tryz.prog w = .ok (.value (.agg (q4 O6))) w := by
  unfold execOp
  rw [ho]
  simp only [List.map_toArray, List.map_cons, List.map_nil, h0]
  rw [Sem.run_bind, hb0]
  rfl
 exact wpList_plain hgd fun _ hK => by
  unfold Oper.wp
  simp only [hr]
  exact hK _ _ hk
theorem rl_any (w : World) : Calls Tryz.prog 47 #[] w fun e w' => e = .returned (.agg (q4 O6)) ∧ Below w.heap.size w w' := by
 have hu := Tryz.underlying51
 have hz : ∀ w, (zeroValue 51).run Tryz.prog w = .ok (.agg (q4 0)) w := fun w => by rw [qz4]; kernel_rfl
 have HsR : Hid ((Tryz.prog.info? 51).map (·.size) = some (q4 O6).size) := hide (by rw [q4_size]; kernel_rfl)
 have hone : (q4 O6).all (·.oneCell') = true := lvs_one _
 have hza : (q4 0).size = (q4 O6).size := by rw [q4_size, q4_size]
 have gR := heap_alloc_new w (.cells (q4 0) 51)
 have HB := hide ((Below.refl w.heap.size w).alloc (Nat.le_refl _) (.cells (q4 0) 51))
 generalize q4 0 = Z4 at *
 go_enter Tryz.func47, Tryz.ntmps47
 go_wp2_with (first
  | (refine wpList_build_L rfl rfl ?_)
  | (refine wpList_store_row rfl _ _ _ rfl w.heap.size (q4 O6) rfl rfl _ _ gR HsR.out hza hone ?_))
 refine bodyPost_ret (v := .agg (q4 O6)) (results_cell_row Tryz.results47 _ _ w.heap.size _ (q4 O6) (0, 0) _ rfl (setRow_heap_same _ _ _ _ _ _ gR) hu rfl HsR.out) rfl ⟨rfl, below_setRow HB.out (Nat.le_refl _) _⟩
theorem lt_limb (a b k : Nat) (h : a / 18446744073709551616 ^ (k + 1) = b / 18446744073709551616 ^ (k + 1)) : (limb a k ≠ limb b k → (decide (limb a k < limb b k) = decide (a < b))) ∧ (limb a k = limb b k → a / 18446744073709551616 ^ k = b / 18446744073709551616 ^ k) := by
 have hp := pB k
 have e : ∀ n : Nat, n = n % 18446744073709551616 ^ k + 18446744073709551616 ^ k * limb n k + 18446744073709551616 ^ (k + 1) * (n / 18446744073709551616 ^ (k + 1)) := fun n => by
  rw [← mod_limb, Nat.mod_add_div]
 have ha := e a
 have hb := e b
 have h1 := Nat.mod_lt a hp
 have h2 := Nat.mod_lt b hp
 constructor
 ·intro hne
  apply decide_eq_decide.2
  have key := lt_split (18446744073709551616 ^ k) (a % 18446744073709551616 ^ k) (b % 18446744073709551616 ^ k) (limb a k) (limb b k) h1 h2
  rw [h] at ha
  constructor
  ·intro hl
   have := key.2 (by split <;> omega)
   omega
  intro hl
  have := key.1 (by omega)
  split at this <;> omega
 intro he
 have q : ∀ n : Nat, n / 18446744073709551616 ^ k = limb n k + 18446744073709551616 * (n / 18446744073709551616 ^ (k + 1)) := fun n => by
  unfold limb
  rw [Nat.pow_succ, ← Nat.div_div_eq_div_mul, Nat.mod_add_div]
 rw [q a, q b, he, h]
theorem below_any (a b : Nat) (ha : a < 18446744073709551616 ^ 4) (hb : b < 18446744073709551616 ^ 4) (w : World) :
  Calls Tryz.prog 46 #[.agg (q4 a), .agg (q4 b)] w fun e w' => e = .returned (.bool (decide (a < b))) ∧ Below w.heap.size w w' := by
 have hu := Tryz.underlying51
 have hu6 := Tryz.underlying50
 have h0 := ((on_all w).alloc (.cells (q4 a) 51)).alloc (.cells (q4 b) 51)
 have hs0 := ((Str.refl w).alloc (.cells (q4 a) 51)).alloc (.cells (q4 b) 51)
 simp only [World.size_alloc] at h0
 have H0 := hide h0
 have HS0 := hide hs0
 have Hend := hide (show a / 18446744073709551616 ^ 4 = b / 18446744073709551616 ^ 4 by rw [Nat.div_eq_of_lt ha, Nat.div_eq_of_lt hb])
 clear h0 hs0 ha hb
 generalize hA : q4 a = A4 at *
 generalize hB : q4 b = B4 at *
 have HA := hide hA
 have HB := hide hB
 clear hA hB
 go_enter Tryz.func46, Tryz.ntmps46
 go_wp2_with fail
 generalize (w.alloc (.cells A4 51)).alloc (.cells B4 51) = w1 at *
 go_loopw [5] (fun i wr => ∃ k : Nat, k ≤ 4 ∧ i = .int .i64 ((k : Int) - 1) ∧ a / 18446744073709551616 ^ k = b / 18446744073709551616 ^ k ∧ (blk (w.heap.size + 1) (.cells B4 51 (0, 0)) * (blk w.heap.size (.cells A4 51 (0, 0)) * all w)).on wr ∧ Str w wr) (fun i _ => (intOf i + 1).toNat)
 case atStart => exact ⟨4, by omega, rfl, Hend.out, H0.out, HS0.out⟩
 obtain ⟨k, hk, rfl, heq, hX, hS2⟩ := hrel
 have HXk := hide hX
 have HSk := hide hS2
 have Heq := hide heq
 clear hX hS2 H0 HS0 heq Hend
 cases k with
 | zero =>
  have HN := hide (show decide (a < b) = false by
   have := Heq.out
   rw [Nat.pow_zero, Nat.div_one, Nat.div_one] at this
   rw [this]; simp)
  have HBw := hide (all_below HXk.out.right.right HSk.out)
  go_wp2
  go_ret
  exact ⟨by rw [HN.out]; rfl, HBw.out⟩
 | succ k =>
  have hk4 : k < 4 := by omega
  have HcA : Hid (∀ X, (blk w.heap.size (.cells A4 51 (0, 0)) * all w).on X → X.cell? ⟨w.heap.size, k, .none⟩ = some (lv (limb a k))) := hide fun X hX => by rw [cell_of_row X w.heap.size k A4 _ _ (on_blk_mul hX), ← HA.out]; exact lvs_get _ k (limb a k) (qs_get 4 a k hk4)
  have HcB : Hid (∀ X, (blk (w.heap.size + 1) (.cells B4 51 (0, 0)) * (blk w.heap.size (.cells A4 51 (0, 0)) * all w)).on X → X.cell? ⟨w.heap.size + 1, k, .none⟩ = some (lv (limb b k))) := hide fun X hX => by rw [cell_of_row X (w.heap.size + 1) k B4 _ _ (on_blk_mul hX), ← HB.out]; exact lvs_get _ k (limb b k) (qs_get 4 b k hk4)
  have HL := hide (lt_limb a b k Heq.out)
  have l1 := limb_lt a k
  have l2 := limb_lt b k
  have s1 : (((k + 1 : Nat) : Int) - 1) = (k : Int) := by omega
  rw [s1]
  clear s1
  generalize limb a k = x at *
  generalize limb b k = y at *
  have hk4' : (k : Int) < 4 := by omega
  by_cases hxy : x = y
  ·have he := HL.out.2 hxy
   have He := hide he
   have Hxy := hide hxy
   clear he hxy
   go_wp2_with fail
   refine rV (iv [.int .i64 (k : Int), .pointer (some ⟨w.heap.size, k, .none⟩), lv x, .int .i64 (k : Int), .pointer (some ⟨w.heap.size + 1, k, .none⟩), lv y, .bool false]) ?t86 ?r99
   case' t86 => refine ⟨?_, ?_, ?_, ?_, ?_, ?_, ?_, trivial⟩ <;> intro ev X hT hb hk hf
   ·exact OpOk.m rfl hk.1
   ·exact OpOk.r (by simp [execOp, fV ev 2 (.pointer (some ⟨w.heap.size, 0, .none⟩)) hk.1, fX ev 10 hf.1, hb.1, hk4', go_sem]; try (intro h; omega))
   ·have cW := HcA.out X (HXk.out.below hT).right
    exact OpOk.sc (fX ev 11 hf.1) cW
   ·exact OpOk.m rfl hk.1
   ·exact OpOk.r (by simp [execOp, fV ev 3 (.pointer (some ⟨w.heap.size + 1, 0, .none⟩)) hk.1, fX ev 13 hf.1, hb.1, hk4', go_sem]; try (intro h; omega))
   ·have cW := HcB.out X (HXk.out.below hT)
    exact OpOk.sc (fX ev 14 hf.1) cW
   ·exact OpOk.run (v := .bool false) (W' := X) (by have h9 := Hxy.out; have h8 : ((x : Int) = (y : Int)) := (by omega); simp [execOp, fX ev 12 hf.1, fX ev 15 hf.2.1, h8, go_sem]) ⟨rfl, Stay.refl _⟩
   intro X hT
   rintro _ - _ - _ - _ - _ - _ - _ rfl
   have HX2 := hide (HXk.out.below hT)
   have HS2 := hide (HSk.out.trans (Str.below hT))
   clear hT
   go_wp2
   refine Rest.done ?_
   go_wp2_with fail
   exact ⟨⟨k, by omega, rfl, He.out, HX2.out, HS2.out⟩, by simp [intOf]⟩
  have Hd := hide (HL.out.1 hxy)
  have Hxy := hide hxy
  clear hxy
  go_wp2_with fail
  refine rV (iv [.int .i64 (k : Int), .pointer (some ⟨w.heap.size, k, .none⟩), lv x, .int .i64 (k : Int), .pointer (some ⟨w.heap.size + 1, k, .none⟩), lv y, .bool true]) ?t87 ?r100
  case' t87 => refine ⟨?_, ?_, ?_, ?_, ?_, ?_, ?_, trivial⟩ <;> intro ev X hT hb hk hf
  ·exact OpOk.m rfl hk.1
  ·exact OpOk.r (by simp [execOp, fV ev 2 (.pointer (some ⟨w.heap.size, 0, .none⟩)) hk.1, fX ev 10 hf.1, hb.1, hk4', go_sem]; try (intro h; omega))
  ·have cW := HcA.out X (HXk.out.below hT).right
   exact OpOk.sc (fX ev 11 hf.1) cW
  ·exact OpOk.m rfl hk.1
  ·exact OpOk.r (by simp [execOp, fV ev 3 (.pointer (some ⟨w.heap.size + 1, 0, .none⟩)) hk.1, fX ev 13 hf.1, hb.1, hk4', go_sem]; try (intro h; omega))
  ·have cW := HcB.out X (HXk.out.below hT)
   exact OpOk.sc (fX ev 14 hf.1) cW
  ·exact OpOk.run (v := .bool true) (W' := X) (by have h9 := Hxy.out; have h8 : ¬((x : Int) = (y : Int)) := (by omega); simp [execOp, fX ev 12 hf.1, fX ev 15 hf.2.1, h8, go_sem]) ⟨rfl, Stay.refl _⟩
  intro X hT
  rintro _ - _ - _ - _ - _ - _ - _ rfl
  have HX2 := hide (HXk.out.below hT)
  have HS2 := hide (HSk.out.trans (Str.below hT))
  clear hT
  go_wp2
  refine Rest.done ?_
  go_wp2_with fail
  refine rV (iv [.int .i64 (k : Int), .pointer (some ⟨w.heap.size, k, .none⟩), lv x, .int .i64 (k : Int), .pointer (some ⟨w.heap.size + 1, k, .none⟩), lv y, .bool (decide (x < y)), .bool (decide (x < y))]) ?t88 ?r101
  case' t88 => refine ⟨?_, ?_, ?_, ?_, ?_, ?_, ?_, ?_, trivial⟩ <;> intro ev X hT hb hk hf
  ·exact OpOk.m rfl hk.1
  ·exact OpOk.r (by simp [execOp, fV ev 2 (.pointer (some ⟨w.heap.size, 0, .none⟩)) hk.1, fX ev 17 hf.1, hb.1, hk4', go_sem]; try (intro h; omega))
  ·have cW := HcA.out X (HX2.out.below hT).right
   exact OpOk.sc (fX ev 18 hf.1) cW
  ·exact OpOk.m rfl hk.1
  ·exact OpOk.r (by simp [execOp, fV ev 3 (.pointer (some ⟨w.heap.size + 1, 0, .none⟩)) hk.1, fX ev 20 hf.1, hb.1, hk4', go_sem]; try (intro h; omega))
  ·have cW := HcB.out X (HX2.out.below hT)
   exact OpOk.sc (fX ev 21 hf.1) cW
  ·exact OpOk.r (by simp [execOp, fX ev 19 hf.1, fX ev 22 hf.2.1, go_sem])
  ·exact OpOk.assign rfl (fX ev 23 hf.1) ⟨rfl, Stay.refl _⟩
  intro X5 hT5
  rintro _ - _ - _ - _ - _ - _ - _ rfl _ rfl
  have HX5 := hide (HX2.out.below hT5)
  have HS5 := hide (HS2.out.trans (Str.below hT5))
  clear hT5
  go_wp2
  refine Rest.done ?_
  go_wp2
  go_ret
  exact ⟨by rw [← Hd.out]; rfl, all_below HX5.out.right.right HS5.out⟩
theorem belowL_any (a : Nat) (ha : a < 18446744073709551616 ^ 4) (w : World) :
  Calls Tryz.prog 57 #[.agg (q4 a)] w fun e w' => e = .returned (.bool (decide (a < O6))) ∧ Below w.heap.size w w' := by
 have hu := Tryz.underlying51
 have HL := hide (fun X => rl_any X)
 have HBl := hide (fun X => below_any a O6 ha (by decide) X)
 have HsA : Hid ((Tryz.prog.info? 51).map (·.size) = some (q4 a).size) := hide (by rw [q4_size]; kernel_rfl)
 have GA := hide (heap_alloc_new w (.cells (q4 a) 51))
 have HB := hide ((Below.refl w.heap.size w).alloc (Nat.le_refl _) (.cells (q4 a) 51))
 have lA : w.heap.size < (w.alloc (.cells (q4 a) 51)).heap.size := by simp
 go_enter Tryz.func57, Tryz.ntmps57
 generalize hdd : decide (a < O6) = dd at *
 generalize q4 a = A4 at *
 generalize q4 O6 = L4 at *
 have Hdd := hide hdd
 clear hdd ha
 go_wp2_with fail
 generalize w.alloc (.cells A4 51) = w1 at *
 refine rV (iv [.agg A4, .agg L4, .bool dd, .bool dd]) ?t89 ?r102
 case' t89 => refine ⟨?_, ?_, ?_, ?_, trivial⟩ <;> intro ev X hT hb hk hf
 ·exact OpOk.l (x := .tmp 1) hk.1 ((hT.block _ lA).trans GA.out) hu HsA.out
 ·exact OpOk.c0 hb (HL.out X)
 ·exact OpOk.c2 (fX ev 3 hf.1) (fX ev 4 hf.2.1) hb (HBl.out X)
 ·exact OpOk.assign rfl (fX ev 5 hf.1) ⟨rfl, Stay.refl _⟩
 intro X hT
 rintro _ - _ - _ - _ rfl
 have HBX := hide (HB.out.trans (hT.mono HB.out.size))
 clear hT
 go_wp2
 refine Rest.done ?_
 go_wp2
 go_ret
 exact ⟨rfl, HBX.out⟩
theorem mid_get {α : Type} (s z : List α) (k : Nat) (hs : k ≤ s.length) : (s.take k ++ z.drop k)[k]? = z[k]? := by
 have hl : (s.take k).length = k := by rw [List.length_take]; omega
 rw [List.getElem?_append_right (by omega), hl, Nat.sub_self, List.getElem?_drop, Nat.add_zero]
theorem less_any (a b : Nat) (ha : a < 18446744073709551616 ^ 4) (hb : b ≤ a) (w : World) :
  Calls Tryz.prog 48 #[.agg (q4 a), .agg (q4 b)] w fun e w' => e = .returned (.agg (q4 (a - b))) ∧ Below w.heap.size w w' := by
 have hu := Tryz.underlying51
 have hu6 := Tryz.underlying50
 have hz : ∀ w, (zeroValue 51).run Tryz.prog w = .ok (.agg (q4 0)) w := fun w => by rw [qz4]; kernel_rfl
 have HsR : Hid ((Tryz.prog.info? 51).map (·.size) = some (q4 (a - b)).size) := hide (by rw [q4_size]; kernel_rfl)
 have h0 := (((on_all w).alloc (.cells (q4 a) 51)).alloc (.cells (q4 b) 51)).alloc (.cells (q4 0) 51)
 have hs0 := (((Str.refl w).alloc (.cells (q4 a) 51)).alloc (.cells (q4 b) 51)).alloc (.cells (q4 0) 51)
 simp only [World.size_alloc] at h0
 have H0 := hide h0
 have HS0 := hide hs0
 have hb4 : b < 18446744073709551616 ^ 4 := by omega
 obtain ⟨S, hS⟩ : ∃ S, S = a + 18446744073709551616 ^ 4 - b := ⟨_, rfl⟩
 have HSub := hide (fun k hk => sub_limb a b ha hb4 k hk)
 have Hend := hide (show q4 S = q4 (a - b) by rw [hS]; exact congrArg lvs (q4_sub a b ha hb))
 rw [← hS] at HSub
 clear h0 hs0 ha hb hb4 hS
 generalize hA : q4 a = A4 at *
 generalize hB : q4 b = B4 at *
 generalize hZ : q4 0 = Z4 at *
 have HA := hide hA
 have HB := hide hB
 have HZ := hide hZ
 clear hA hB hZ
 go_enter Tryz.func48, Tryz.ntmps48
 go_wp2_with fail
 generalize ((w.alloc (.cells A4 51)).alloc (.cells B4 51)).alloc (.cells Z4 51) = w1 at *
 go_loopw [5, 6] (fun bv i wr => ∃ k : Nat, k ≤ 4 ∧ i = .int .i64 k ∧ bv = lv (br a b k) ∧ (blk w.heap.size (.cells (lvs ((qs 4 S).take k ++ (qs 4 a).drop k)) 51 (0, 0)) * (blk (w.heap.size + 1) (.cells B4 51 (0, 0)) * (blk (w.heap.size + 1 + 1) (.cells Z4 51 (0, 0)) * all w))).on wr ∧ Str w wr) (fun _ i _ => 4 - (intOf i).toNat)
 case atStart =>
  refine ⟨0, by omega, rfl, by simp [br, Nat.mod_one], ?_, HS0.out⟩
  rw [List.take_zero, List.drop_zero, List.nil_append, show lvs (qs 4 a) = q4 a from rfl, HA.out]
  have := H0.out
  have e : ∀ P Q R T : SP, P * (Q * (R * T)) = R * (Q * (P * T)) := fun P Q R T => by ac_rfl
  rw [e] at this
  exact this
 obtain ⟨k, hk, rfl, rfl, hX, hS2⟩ := hrel
 have HXk := hide hX
 have HSk := hide hS2
 clear hX hS2 H0 HS0
 by_cases hlt : k < 4
 ·have hstep := br_step a b k
  have hsub := HSub.out k hlt
  have Hset := hide (set_takeN (qs 4 S) (qs 4 a) k (limb S k) (qs_get 4 S k hlt) (by rw [qs_len]; exact hlt))
  have hget := mid_get (qs 4 S) (qs 4 a) k (by rw [qs_len]; exact hk)
  rw [qs_get 4 a k hlt] at hget
  have HcB : Hid (∀ X, (blk (w.heap.size + 1) (.cells B4 51 (0, 0)) * (blk (w.heap.size + 1 + 1) (.cells Z4 51 (0, 0)) * all w)).on X → X.cell? ⟨w.heap.size + 1, k, .none⟩ = some (lv (limb b k))) := hide fun X hX => by rw [cell_of_row X (w.heap.size + 1) k B4 _ _ (on_blk_mul hX), ← HB.out]; exact lvs_get _ k (limb b k) (qs_get 4 b k hlt)
  have hpl : ((qs 4 S).take k ++ (qs 4 a).drop k).length = 4 := by rw [List.length_append, List.length_take, List.length_drop, qs_len, qs_len]; omega
  obtain ⟨pl, hpl2⟩ : ∃ pl, pl = (qs 4 S).take k ++ (qs 4 a).drop k := ⟨_, rfl⟩
  rw [← hpl2] at hpl HXk Hset hget
  have HcA : Hid (∀ X, (blk w.heap.size (.cells (lvs pl) 51 (0, 0)) * (blk (w.heap.size + 1) (.cells B4 51 (0, 0)) * (blk (w.heap.size + 1 + 1) (.cells Z4 51 (0, 0)) * all w))).on X → X.cell? ⟨w.heap.size, k, .none⟩ = some (lv (limb a k))) := hide fun X hX => by rw [cell_of_row X w.heap.size k _ _ _ (on_blk_mul hX)]; exact lvs_get _ k (limb a k) hget
  have l1 := limb_lt a k
  have l2 := limb_lt b k
  have l3 := limb_lt S k
  have l4 := br_le a b k
  have l5 := br_le a b (k + 1)
  have Hstep := hide hstep
  have Hsub := hide hsub
  clear hstep hsub hpl2 hget HSub
  generalize limb a k = x at *
  generalize limb b k = y at *
  generalize br a b k = bb at *
  generalize hbb2 : br a b (k + 1) = bb2 at *
  have Hbb2 := hide hbb2
  clear hbb2
  generalize limb S k = dk at *
  obtain ⟨d1, hd1⟩ : ∃ d1, d1 = (x + 18446744073709551616 - y) % 18446744073709551616 := ⟨_, rfl⟩
  have q1 : IntKind.u64.wrap ((x : Int) - (y : Int)) = (d1 : Int) := by rw [IntKind.wrap_u64, hd1]; omega
  have q2 : IntKind.u64.wrap ((d1 : Int) - (bb : Int)) = (dk : Int) := by rw [IntKind.wrap_u64, Hsub.out, hd1]; omega
  have Q1 := hide q1
  have Q2 := hide q2
  clear q1 q2 hd1
  have hk4 : (k : Int) < 4 := by omega
  go_wp2_with fail
  refine rV (iv [.int .i64 (k : Int), .pointer (some ⟨w.heap.size, k, .none⟩), lv x, .int .i64 (k : Int), .pointer (some ⟨w.heap.size + 1, k, .none⟩), lv y, lv d1, lv bb, lv dk, lv dk]) ?t90 ?r103
  case' t90 => refine ⟨?_, ?_, ?_, ?_, ?_, ?_, ?_, ?_, ?_, ?_, trivial⟩ <;> intro ev X hT hb hk hf
  ·exact OpOk.m rfl hk.1
  ·exact OpOk.r (by simp [execOp, fV ev 2 (.pointer (some ⟨w.heap.size, 0, .none⟩)) hk.1, fX ev 13 hf.1, hb.1, hk4, go_sem]; try (intro h; omega))
  ·have cW := HcA.out X (HXk.out.below hT)
   exact OpOk.sc (fX ev 14 hf.1) cW
  ·exact OpOk.m rfl hk.1
  ·exact OpOk.r (by simp [execOp, fV ev 3 (.pointer (some ⟨w.heap.size + 1, 0, .none⟩)) hk.1, fX ev 16 hf.1, hb.1, hk4, go_sem]; try (intro h; omega))
  ·have cW := HcB.out X (HXk.out.below hT).right
   exact OpOk.sc (fX ev 17 hf.1) cW
  ·exact OpOk.r (by have h9 := Q1.out; simp [execOp, fX ev 15 hf.1, fX ev 18 hf.2.1, h9, go_sem])
  ·exact OpOk.m rfl hk.1
  ·exact OpOk.r (by have h9 := Q2.out; simp [execOp, fX ev 19 hf.1, fX ev 20 hf.2.1, h9, go_sem])
  ·exact OpOk.assign rfl (fX ev 21 hf.1) ⟨rfl, Stay.refl _⟩
  intro X hT
  rintro _ - _ - _ - _ - _ - _ - _ - _ - _ - _ rfl
  have HX2 := hide (HXk.out.below hT)
  have HS2 := hide (HSk.out.trans (Str.below hT))
  clear hT HXk HSk
  go_wp2
  refine Rest.done ?_
  go_wp2_with fail
  have Hfin : Hid (∀ X : World, (blk w.heap.size (.cells (lvs pl) 51 (0, 0)) * (blk (w.heap.size + 1) (.cells B4 51 (0, 0)) * (blk (w.heap.size + 1 + 1) (.cells Z4 51 (0, 0)) * all w))).on X → (X.cell? ⟨w.heap.size, k, .none⟩ = some (lv x)) ∧ (blk w.heap.size (.cells (lvs ((qs 4 S).take (k + 1) ++ (qs 4 a).drop (k + 1))) 51 (0, 0)) * (blk (w.heap.size + 1) (.cells B4 51 (0, 0)) * (blk (w.heap.size + 1 + 1) (.cells Z4 51 (0, 0)) * all w))).on (X.setCell ⟨w.heap.size, k, .none⟩ (lv dk))) := hide fun X hX => ⟨HcA.out X hX, by
   have h3 := SP.on.setCell (i := k) hX (lv dk)
   rw [lvs_set, Hset.out] at h3
   exact h3⟩
  by_cases c1 : x < y
  ·have c1' : (x : Int) < (y : Int) := by omega
   have HN := hide (show bb2 = 1 by have := Hstep.out; rw [if_pos (by omega)] at this; exact this)
   clear c1
   refine rG (iv [.int .i64 (k : Int), .pointer (some ⟨w.heap.size, k, .none⟩), lv x, .int .i64 (k : Int), .pointer (some ⟨w.heap.size + 1, k, .none⟩), lv y, .bool true, .bool true, undef, undef, undef, undef, undef, undef, undef, undef, undef, undef, undef, .bool true, .bool true]) ?t91 ?r104
   case' t91 => refine ⟨?_, ?_, ?_, ?_, ?_, ?_, ?_, ?_, ?_, ?_, ?_, ?_, ?_, ?_, ?_, ?_, ?_, ?_, ?_, ?_, ?_, trivial⟩ <;> intro ev X hT hb hk hf
   ·exact OpOk.m rfl hk.1
   ·exact OpOk.r (by simp [execOp, fV ev 2 (.pointer (some ⟨w.heap.size, 0, .none⟩)) hk.1, fX ev 22 hf.1, hb.1, hk4, go_sem]; try (intro h; omega))
   ·have cW := HcA.out X (HX2.out.below hT)
    exact OpOk.sc (fX ev 23 hf.1) cW
   ·exact OpOk.m rfl hk.1
   ·exact OpOk.r (by simp [execOp, fV ev 3 (.pointer (some ⟨w.heap.size + 1, 0, .none⟩)) hk.1, fX ev 25 hf.1, hb.1, hk4, go_sem]; try (intro h; omega))
   ·have cW := HcB.out X (HX2.out.below hT).right
    exact OpOk.sc (fX ev 26 hf.1) cW
   ·exact OpOk.r (by simp [execOp, fX ev 24 hf.1, fX ev 27 hf.2.1, c1', go_sem])
   ·exact OpOk.m rfl hf.1
   ·exact .inl ⟨true, hf.1, fun h => (nomatch h), fun _ => rfl⟩
   ·exact .inl ⟨true, hf.2.1, fun h => (nomatch h), fun _ => rfl⟩
   ·exact .inl ⟨true, hf.2.1, fun h => (nomatch h), fun _ => rfl⟩
   ·exact .inl ⟨true, hf.1, fun h => (nomatch h), fun _ => rfl⟩
   ·exact .inl ⟨true, hf.2.1, fun h => (nomatch h), fun _ => rfl⟩
   ·exact .inl ⟨true, hf.2.1, fun h => (nomatch h), fun _ => rfl⟩
   ·exact .inl ⟨true, hf.2.2.1, fun h => (nomatch h), fun _ => rfl⟩
   ·exact .inl ⟨true, hf.2.1, fun h => (nomatch h), fun _ => rfl⟩
   ·exact .inr ⟨hf.1, rfl⟩
   ·exact .inr ⟨hf.2.1, rfl⟩
   ·exact .inl ⟨true, hf.2.2.1, fun h => (nomatch h), fun _ => rfl⟩
   ·exact OpOk.s2 (fX ev 29 hf.1) (fX ev 40 hf.2.1) hb
   ·exact OpOk.assign rfl (fX ev 41 hf.1) ⟨rfl, Stay.refl _⟩
   intro X2 hT2
   rintro _ - _ - _ - _ - _ - _ - _ - _ - _ - _ - _ - _ - _ - _ - _ - _ - _ - _ - _ - _ - _ rfl
   have HX3 := hide (HX2.out.below hT2)
   have HS3 := hide (HS2.out.trans (Str.below hT2))
   have hc := (Hfin.out X2 HX3.out).1
   have HF := hide (Hfin.out X2 HX3.out).2
   have hfr := frozen_of_row X2 w.heap.size k _ _ (on_blk_mul HX3.out)
   clear hT2
   go_wp2
   refine Rest.done ?_
   go_wp2
   exact ⟨⟨k + 1, by omega, by simp, by rw [Hbb2.out, HN.out]; rfl, HF.out, HS3.out.setCell _ _⟩, by simp [intOf]; omega⟩
  have c1' : ¬ (x : Int) < (y : Int) := by omega
  by_cases c2 : x = y
  ·have c2' : (x : Int) = (y : Int) := by omega
   by_cases c3 : bb = 1
   ·have c3' : (bb : Int) = 1 := by omega
    have HN := hide (show bb2 = 1 by have := Hstep.out; rw [if_pos (by omega)] at this; exact this)
    have C2 := hide c2'
    have C3 := hide c3'
    clear c2 c3 c2' c3' c1
    refine rG (iv [.int .i64 (k : Int), .pointer (some ⟨w.heap.size, k, .none⟩), lv x, .int .i64 (k : Int), .pointer (some ⟨w.heap.size + 1, k, .none⟩), lv y, .bool false, .bool false, .int .i64 (k : Int), .pointer (some ⟨w.heap.size, k, .none⟩), lv x, .int .i64 (k : Int), .pointer (some ⟨w.heap.size + 1, k, .none⟩), lv y, .bool true, .bool true, lv bb, .bool true, .bool true, .bool true, .bool true]) ?t92 ?r105
    case' t92 => refine ⟨?_, ?_, ?_, ?_, ?_, ?_, ?_, ?_, ?_, ?_, ?_, ?_, ?_, ?_, ?_, ?_, ?_, ?_, ?_, ?_, ?_, trivial⟩ <;> intro ev X hT hb hk hf
    ·exact OpOk.m rfl hk.1
    ·exact OpOk.r (by simp [execOp, fV ev 2 (.pointer (some ⟨w.heap.size, 0, .none⟩)) hk.1, fX ev 22 hf.1, hb.1, hk4, go_sem]; try (intro h; omega))
    ·have cW := HcA.out X (HX2.out.below hT)
     exact OpOk.sc (fX ev 23 hf.1) cW
    ·exact OpOk.m rfl hk.1
    ·exact OpOk.r (by simp [execOp, fV ev 3 (.pointer (some ⟨w.heap.size + 1, 0, .none⟩)) hk.1, fX ev 25 hf.1, hb.1, hk4, go_sem]; try (intro h; omega))
    ·have cW := HcB.out X (HX2.out.below hT).right
     exact OpOk.sc (fX ev 26 hf.1) cW
    ·exact OpOk.r (by simp [execOp, fX ev 24 hf.1, fX ev 27 hf.2.1, c1', go_sem])
    ·exact OpOk.m rfl hf.1
    ·refine .inl ⟨false, hf.1, fun _ => ?_, fun h => (h rfl).elim⟩
     exact OpOk.m rfl (fV ev 6 (.int .i64 (k : Int)) hk.1)
    ·refine .inl ⟨false, hf.2.1, fun _ => ?_, fun h => (h rfl).elim⟩
     exact OpOk.r (by simp [execOp, fV ev 2 (.pointer (some ⟨w.heap.size, 0, .none⟩)) hk.1, fX ev 30 hf.1, hb.1, hk4, go_sem]; try (intro h; omega))
    ·refine .inl ⟨false, hf.2.1, fun _ => ?_, fun h => (h rfl).elim⟩
     have cW := HcA.out X (HX2.out.below hT)
     exact OpOk.sc (fX ev 31 hf.1) cW
    ·refine .inl ⟨false, hf.1, fun _ => ?_, fun h => (h rfl).elim⟩
     exact OpOk.m rfl (fV ev 6 (.int .i64 (k : Int)) hk.1)
    ·refine .inl ⟨false, hf.2.1, fun _ => ?_, fun h => (h rfl).elim⟩
     exact OpOk.r (by simp [execOp, fV ev 3 (.pointer (some ⟨w.heap.size + 1, 0, .none⟩)) hk.1, fX ev 33 hf.1, hb.1, hk4, go_sem]; try (intro h; omega))
    ·refine .inl ⟨false, hf.2.1, fun _ => ?_, fun h => (h rfl).elim⟩
     have cW := HcB.out X (HX2.out.below hT).right
     exact OpOk.sc (fX ev 34 hf.1) cW
    ·refine .inl ⟨false, hf.2.2.1, fun _ => ?_, fun h => (h rfl).elim⟩
     exact OpOk.r (by have h9 := C2.out; simp [execOp, fX ev 32 hf.1, fX ev 35 hf.2.1, h9, go_sem])
    ·refine .inl ⟨false, hf.2.1, fun _ => ?_, fun h => (h rfl).elim⟩
     exact OpOk.m rfl (fX ev 36 hf.1)
    ·refine .inl ⟨true, hf.1, fun _ => ?_, fun h => (h rfl).elim⟩
     exact OpOk.m rfl (fV ev 5 (lv bb) hk.1)
    ·refine .inl ⟨true, hf.2.1, fun _ => ?_, fun h => (h rfl).elim⟩
     exact OpOk.r (by have h9 := C3.out; simp [execOp, fX ev 38 hf.1, hb.1, h9, go_sem])
    ·refine .inl ⟨false, hf.2.2.1, fun _ => ?_, fun h => (h rfl).elim⟩
     exact OpOk.s2 (fX ev 37 hf.1) (fX ev 39 hf.2.1) hb
    ·exact OpOk.s2 (fX ev 29 hf.1) (fX ev 40 hf.2.1) hb
    ·exact OpOk.assign rfl (fX ev 41 hf.1) ⟨rfl, Stay.refl _⟩
    intro X2 hT2
    rintro _ - _ - _ - _ - _ - _ - _ - _ - _ - _ - _ - _ - _ - _ - _ - _ - _ - _ - _ - _ - _ rfl
    have HX3 := hide (HX2.out.below hT2)
    have HS3 := hide (HS2.out.trans (Str.below hT2))
    have hc := (Hfin.out X2 HX3.out).1
    have HF := hide (Hfin.out X2 HX3.out).2
    have hfr := frozen_of_row X2 w.heap.size k _ _ (on_blk_mul HX3.out)
    clear hT2
    go_wp2
    refine Rest.done ?_
    go_wp2
    exact ⟨⟨k + 1, by omega, by simp, by rw [Hbb2.out, HN.out]; rfl, HF.out, HS3.out.setCell _ _⟩, by simp [intOf]; omega⟩
   have c3' : ¬ (bb : Int) = 1 := by omega
   have HN := hide (show bb2 = 0 by have := Hstep.out; rw [if_neg (by omega)] at this; exact this)
   have C2 := hide c2'
   clear c2 c3 c2' c1
   refine rG (iv [.int .i64 (k : Int), .pointer (some ⟨w.heap.size, k, .none⟩), lv x, .int .i64 (k : Int), .pointer (some ⟨w.heap.size + 1, k, .none⟩), lv y, .bool false, .bool false, .int .i64 (k : Int), .pointer (some ⟨w.heap.size, k, .none⟩), lv x, .int .i64 (k : Int), .pointer (some ⟨w.heap.size + 1, k, .none⟩), lv y, .bool true, .bool true, lv bb, .bool false, .bool false, .bool false, .bool false]) ?t93 ?r106
   case' t93 => refine ⟨?_, ?_, ?_, ?_, ?_, ?_, ?_, ?_, ?_, ?_, ?_, ?_, ?_, ?_, ?_, ?_, ?_, ?_, ?_, ?_, ?_, trivial⟩ <;> intro ev X hT hb hk hf
   ·exact OpOk.m rfl hk.1
   ·exact OpOk.r (by simp [execOp, fV ev 2 (.pointer (some ⟨w.heap.size, 0, .none⟩)) hk.1, fX ev 22 hf.1, hb.1, hk4, go_sem]; try (intro h; omega))
   ·have cW := HcA.out X (HX2.out.below hT)
    exact OpOk.sc (fX ev 23 hf.1) cW
   ·exact OpOk.m rfl hk.1
   ·exact OpOk.r (by simp [execOp, fV ev 3 (.pointer (some ⟨w.heap.size + 1, 0, .none⟩)) hk.1, fX ev 25 hf.1, hb.1, hk4, go_sem]; try (intro h; omega))
   ·have cW := HcB.out X (HX2.out.below hT).right
    exact OpOk.sc (fX ev 26 hf.1) cW
   ·exact OpOk.r (by simp [execOp, fX ev 24 hf.1, fX ev 27 hf.2.1, c1', go_sem])
   ·exact OpOk.m rfl hf.1
   ·refine .inl ⟨false, hf.1, fun _ => ?_, fun h => (h rfl).elim⟩
    exact OpOk.m rfl (fV ev 6 (.int .i64 (k : Int)) hk.1)
   ·refine .inl ⟨false, hf.2.1, fun _ => ?_, fun h => (h rfl).elim⟩
    exact OpOk.r (by simp [execOp, fV ev 2 (.pointer (some ⟨w.heap.size, 0, .none⟩)) hk.1, fX ev 30 hf.1, hb.1, hk4, go_sem]; try (intro h; omega))
   ·refine .inl ⟨false, hf.2.1, fun _ => ?_, fun h => (h rfl).elim⟩
    have cW := HcA.out X (HX2.out.below hT)
    exact OpOk.sc (fX ev 31 hf.1) cW
   ·refine .inl ⟨false, hf.1, fun _ => ?_, fun h => (h rfl).elim⟩
    exact OpOk.m rfl (fV ev 6 (.int .i64 (k : Int)) hk.1)
   ·refine .inl ⟨false, hf.2.1, fun _ => ?_, fun h => (h rfl).elim⟩
    exact OpOk.r (by simp [execOp, fV ev 3 (.pointer (some ⟨w.heap.size + 1, 0, .none⟩)) hk.1, fX ev 33 hf.1, hb.1, hk4, go_sem]; try (intro h; omega))
   ·refine .inl ⟨false, hf.2.1, fun _ => ?_, fun h => (h rfl).elim⟩
    have cW := HcB.out X (HX2.out.below hT).right
    exact OpOk.sc (fX ev 34 hf.1) cW
   ·refine .inl ⟨false, hf.2.2.1, fun _ => ?_, fun h => (h rfl).elim⟩
    exact OpOk.r (by have h9 := C2.out; simp [execOp, fX ev 32 hf.1, fX ev 35 hf.2.1, h9, go_sem])
   ·refine .inl ⟨false, hf.2.1, fun _ => ?_, fun h => (h rfl).elim⟩
    exact OpOk.m rfl (fX ev 36 hf.1)
   ·refine .inl ⟨true, hf.1, fun _ => ?_, fun h => (h rfl).elim⟩
    exact OpOk.m rfl (fV ev 5 (lv bb) hk.1)
   ·refine .inl ⟨true, hf.2.1, fun _ => ?_, fun h => (h rfl).elim⟩
    exact OpOk.r (by simp [execOp, fX ev 38 hf.1, hb.1, c3', go_sem])
   ·refine .inl ⟨false, hf.2.2.1, fun _ => ?_, fun h => (h rfl).elim⟩
    exact OpOk.s2 (fX ev 37 hf.1) (fX ev 39 hf.2.1) hb
   ·exact OpOk.s2 (fX ev 29 hf.1) (fX ev 40 hf.2.1) hb
   ·exact OpOk.assign rfl (fX ev 41 hf.1) ⟨rfl, Stay.refl _⟩
   intro X2 hT2
   rintro _ - _ - _ - _ - _ - _ - _ - _ - _ - _ - _ - _ - _ - _ - _ - _ - _ - _ - _ - _ - _ rfl
   have HX3 := hide (HX2.out.below hT2)
   have HS3 := hide (HS2.out.trans (Str.below hT2))
   have hc := (Hfin.out X2 HX3.out).1
   have HF := hide (Hfin.out X2 HX3.out).2
   have hfr := frozen_of_row X2 w.heap.size k _ _ (on_blk_mul HX3.out)
   clear hT2
   go_wp2
   refine Rest.done ?_
   go_wp2
   exact ⟨⟨k + 1, by omega, by simp, by rw [Hbb2.out, HN.out]; rfl, HF.out, HS3.out.setCell _ _⟩, by simp [intOf]; omega⟩
  have c2' : ¬ (x : Int) = (y : Int) := by omega
  have HN := hide (show bb2 = 0 by have := Hstep.out; rw [if_neg (by omega)] at this; exact this)
  clear c2 c1
  refine rG (iv [.int .i64 (k : Int), .pointer (some ⟨w.heap.size, k, .none⟩), lv x, .int .i64 (k : Int), .pointer (some ⟨w.heap.size + 1, k, .none⟩), lv y, .bool false, .bool false, .int .i64 (k : Int), .pointer (some ⟨w.heap.size, k, .none⟩), lv x, .int .i64 (k : Int), .pointer (some ⟨w.heap.size + 1, k, .none⟩), lv y, .bool false, .bool false, undef, undef, .bool false, .bool false, .bool false]) ?t94 ?r107
  case' t94 => refine ⟨?_, ?_, ?_, ?_, ?_, ?_, ?_, ?_, ?_, ?_, ?_, ?_, ?_, ?_, ?_, ?_, ?_, ?_, ?_, ?_, ?_, trivial⟩ <;> intro ev X hT hb hk hf
  ·exact OpOk.m rfl hk.1
  ·exact OpOk.r (by simp [execOp, fV ev 2 (.pointer (some ⟨w.heap.size, 0, .none⟩)) hk.1, fX ev 22 hf.1, hb.1, hk4, go_sem]; try (intro h; omega))
  ·have cW := HcA.out X (HX2.out.below hT)
   exact OpOk.sc (fX ev 23 hf.1) cW
  ·exact OpOk.m rfl hk.1
  ·exact OpOk.r (by simp [execOp, fV ev 3 (.pointer (some ⟨w.heap.size + 1, 0, .none⟩)) hk.1, fX ev 25 hf.1, hb.1, hk4, go_sem]; try (intro h; omega))
  ·have cW := HcB.out X (HX2.out.below hT).right
   exact OpOk.sc (fX ev 26 hf.1) cW
  ·exact OpOk.r (by simp [execOp, fX ev 24 hf.1, fX ev 27 hf.2.1, c1', go_sem])
  ·exact OpOk.m rfl hf.1
  ·refine .inl ⟨false, hf.1, fun _ => ?_, fun h => (h rfl).elim⟩
   exact OpOk.m rfl (fV ev 6 (.int .i64 (k : Int)) hk.1)
  ·refine .inl ⟨false, hf.2.1, fun _ => ?_, fun h => (h rfl).elim⟩
   exact OpOk.r (by simp [execOp, fV ev 2 (.pointer (some ⟨w.heap.size, 0, .none⟩)) hk.1, fX ev 30 hf.1, hb.1, hk4, go_sem]; try (intro h; omega))
  ·refine .inl ⟨false, hf.2.1, fun _ => ?_, fun h => (h rfl).elim⟩
   have cW := HcA.out X (HX2.out.below hT)
   exact OpOk.sc (fX ev 31 hf.1) cW
  ·refine .inl ⟨false, hf.1, fun _ => ?_, fun h => (h rfl).elim⟩
   exact OpOk.m rfl (fV ev 6 (.int .i64 (k : Int)) hk.1)
  ·refine .inl ⟨false, hf.2.1, fun _ => ?_, fun h => (h rfl).elim⟩
   exact OpOk.r (by simp [execOp, fV ev 3 (.pointer (some ⟨w.heap.size + 1, 0, .none⟩)) hk.1, fX ev 33 hf.1, hb.1, hk4, go_sem]; try (intro h; omega))
  ·refine .inl ⟨false, hf.2.1, fun _ => ?_, fun h => (h rfl).elim⟩
   have cW := HcB.out X (HX2.out.below hT).right
   exact OpOk.sc (fX ev 34 hf.1) cW
  ·refine .inl ⟨false, hf.2.2.1, fun _ => ?_, fun h => (h rfl).elim⟩
   exact OpOk.r (by simp [execOp, fX ev 32 hf.1, fX ev 35 hf.2.1, c2', go_sem])
  ·refine .inl ⟨false, hf.2.1, fun _ => ?_, fun h => (h rfl).elim⟩
   exact OpOk.m rfl (fX ev 36 hf.1)
  ·exact .inl ⟨false, hf.1, fun h => (nomatch h), fun _ => rfl⟩
  ·exact .inl ⟨false, hf.2.1, fun h => (nomatch h), fun _ => rfl⟩
  ·refine .inl ⟨false, hf.2.2.1, fun _ => ?_, fun h => (h rfl).elim⟩
   exact OpOk.s2 (fX ev 37 hf.1) (fX ev 39 hf.2.1) hb
  ·exact OpOk.s2 (fX ev 29 hf.1) (fX ev 40 hf.2.1) hb
  ·exact OpOk.assign rfl (fX ev 41 hf.1) ⟨rfl, Stay.refl _⟩
  intro X2 hT2
  rintro _ - _ - _ - _ - _ - _ - _ - _ - _ - _ - _ - _ - _ - _ - _ - _ - _ - _ - _ - _ - _ rfl
  have HX3 := hide (HX2.out.below hT2)
  have HS3 := hide (HS2.out.trans (Str.below hT2))
  have hc := (Hfin.out X2 HX3.out).1
  have HF := hide (Hfin.out X2 HX3.out).2
  have hfr := frozen_of_row X2 w.heap.size k _ _ (on_blk_mul HX3.out)
  clear hT2
  go_wp2
  refine Rest.done ?_
  go_wp2
  exact ⟨⟨k + 1, by omega, by simp, by rw [Hbb2.out, HN.out]; rfl, HF.out, HS3.out.setCell _ _⟩, by simp [intOf]; omega⟩
 obtain rfl : k = 4 := by omega
 have e4 : (qs 4 S).take 4 ++ (qs 4 a).drop 4 = qs 4 S := by rw [List.take_of_length_le (by rw [qs_len]; omega), List.drop_of_length_le (by rw [qs_len]; omega), List.append_nil]
 rw [e4, show lvs (qs 4 S) = q4 S from rfl, Hend.out] at HXk
 have gA := on_blk_mul HXk.out
 have gR := on_blk_mul HXk.out.right.right
 have HBw := hide (all_below HXk.out.right.right.right HSk.out)
 have hone := lvs_one (qs 4 (a - b))
 have hza : Z4.size = (q4 (a - b)).size := by rw [← HZ.out, q4_size, q4_size]
 clear e4 HXk
 generalize hR4 : q4 (a - b) = R4 at *
 rw [show lvs (qs 4 (a - b)) = R4 from hR4] at hone
 have HR4 := hide hR4
 clear hR4
 go_wp2_with (first
  | (refine wS gR HsR.out hza hone ?_)
  | (refine wL gA hu HsR ?_))
 exact retE Tryz.results48 gR hu HsR.out rfl (by rw [HR4.out]) HBw.out (by omega)
theorem u64_add (x y : Nat) : IntKind.u64.wrap ((x : Int) + (y : Int)) = (((x + y) % 18446744073709551616 : Nat) : Int) := by rw [IntKind.wrap_u64]; omega
theorem u64_dbl (x : Nat) : IntKind.u64.wrap ((x : Int) * 2) = (((2 * x) % 18446744073709551616 : Nat) : Int) := by rw [IntKind.wrap_u64]; omega
theorem double_any (n b : Nat) (hn : n < O6) (hb : b ≤ 1) (w : World) :
  Calls Tryz.prog 49 #[.agg (q4 n), .int .i64 (b : Nat)] w fun e w' => e = .returned (.agg (q4 ((2 * n + b) % O6))) ∧ Below w.heap.size w w' := by
 have hu := Tryz.underlying51
 have hu6 := Tryz.underlying50
 have hui := Tryz.underlying3
 have hz : ∀ w, (zeroValue 51).run Tryz.prog w = .ok (.agg (q4 0)) w := fun w => by rw [qz4]; kernel_rfl
 have Hs : Hid (∀ n, (Tryz.prog.info? 51).map (·.size) = some (q4 n).size) := hide fun n => by rw [q4_size]; kernel_rfl
 have h0 := ((on_all w).alloc (.cells (q4 n) 51)).alloc (.cells (q4 0) 51)
 have hs0 := ((Str.refl w).alloc (.cells (q4 n) 51)).alloc (.cells (q4 0) 51)
 simp only [World.size_alloc] at h0
 have H0 := hide h0
 have HS0 := hide hs0
 have HM := hide (show 2 * n + b < 2 * O6 by omega)
 have hcb : IntKind.u64.wrap ((b : Nat) : Int) = ((b : Nat) : Int) := wrapS b (by omega)
 have Hb := hide hb
 clear h0 hs0 hn
 obtain ⟨M, hM⟩ : ∃ M, M = 2 * n + b := ⟨_, rfl⟩
 rw [← hM] at HM
 have HMd := hide hM
 clear hM
 generalize hA : q4 n = A4 at *
 generalize hZ : q4 0 = Z4 at *
 have HA := hide hA
 have HZ := hide hZ
 clear hA hZ
 rw [← HMd.out]
 go_enter Tryz.func49, Tryz.ntmps49
 go_wp2_with fail
 generalize (w.alloc (.cells A4 51)).alloc (.cells Z4 51) = w1 at *
 go_loopw [5, 6] (fun cv i wr => ∃ k : Nat, k ≤ 4 ∧ i = .int .i64 k ∧ cv = lv (cy n b k) ∧ (blk w.heap.size (.cells (lvs ((qs 4 M).take k ++ (qs 4 n).drop k)) 51 (0, 0)) * (blk (w.heap.size + 1) (.cells Z4 51 (0, 0)) * all w)).on wr ∧ Str w wr) (fun _ i _ => 4 - (intOf i).toNat)
 case atStart =>
  refine ⟨0, by omega, rfl, by rw [cy_0], ?_, HS0.out⟩
  rw [List.take_zero, List.drop_zero, List.nil_append, show lvs (qs 4 n) = q4 n from rfl, HA.out]
  have := H0.out
  rw [SP.mul_left_comm] at this
  exact this
 obtain ⟨k, hk, rfl, rfl, hX, hS2⟩ := hrel
 have HXk := hide hX
 have HSk := hide hS2
 clear hX hS2 H0 HS0
 by_cases hlt : k < 4
 ·have hset := set_takeN (qs 4 M) (qs 4 n) k (limb M k) (qs_get 4 M k hlt) (by rw [qs_len]; exact hlt)
  have hget := mid_get (qs 4 M) (qs 4 n) k (by rw [qs_len]; exact hk)
  rw [qs_get 4 n k hlt] at hget
  have hcell := (cell_of_row wr w.heap.size k _ _ _ (on_blk_mul HXk.out)).trans (lvs_get _ k _ hget)
  have hfr := frozen_of_row wr w.heap.size k _ _ (on_blk_mul HXk.out)
  have hst := SP.on.setCell (i := k) HXk.out (lv (limb M k))
  rw [lvs_set, hset] at hst
  have HN := hide hst
  have hcs := cy_step n b k Hb.out hlt
  have hdl := dbl_limb n b k Hb.out hlt
  rw [← HMd.out] at hdl
  have q1 := u64_dbl (limb n k)
  have q2 := u64_add ((2 * limb n k) % 18446744073709551616) (cy n b k)
  have l2 := limb_lt M k
  rw [← hdl, Nat.mod_eq_of_lt l2] at q2
  have l1 := limb_lt n k
  have Q1 := hide q1
  have Q2 := hide q2
  have Hcs := hide hcs
  have hk4 : (k : Int) < 4 := by omega
  clear hset hget hst hcs hdl q1 q2 HXk l2
  generalize limb n k = x at *
  generalize (2 * x) % 18446744073709551616 = t at *
  generalize cy n b k = c at *
  generalize hc2 : cy n b (k + 1) = c2 at *
  have Hc2 := hide hc2
  clear hc2
  generalize limb M k = T at *
  go_wp2_with fail
  rw [Q1.out, Q2.out]
  refine ⟨⟨k + 1, by omega, by simp, ?_, HN.out, HSk.out.setCell _ _⟩, by simp [intOf]; omega⟩
  rw [Hc2.out]
  exact congrArg (Value.int IntKind.u64) (by have := Hcs.out; omega)
 obtain rfl : k = 4 := by omega
 have e4 : (qs 4 M).take 4 ++ (qs 4 n).drop 4 = qs 4 M := by rw [List.take_of_length_le (by rw [qs_len]; omega), List.drop_of_length_le (by rw [qs_len]; omega), List.append_nil]
 rw [e4, show lvs (qs 4 M) = q4 M from rfl] at HXk
 clear e4
 have gA := on_blk_mul HXk.out
 have gR := on_blk_mul HXk.out.right
 have hBw := all_below HXk.out.right.right HSk.out
 have HBw := hide hBw
 have lA0 := (Array.getElem?_eq_some_iff.1 gA).1
 have lR0 := (Array.getElem?_eq_some_iff.1 gR).1
 have lA : w.heap.size < wr.drew.heap.size := lA0
 have lR : w.heap.size + 1 < wr.drew.heap.size := lR0
 have GA := hide gA
 have GR := hide gR
 have Hzz : Hid (Z4.size = 4) := hide (by rw [← HZ.out, q4_size])
 have HN := hide (Hs.out M)
 have HM4 := hide (show M < 18446744073709551616 ^ 4 from Nat.lt_of_lt_of_le HM.out (by decide))
 clear hBw HXk gA gR lA0 lR0
 by_cases hlo : M < O6
 ·have HD := hide (show M % O6 = M from Nat.mod_eq_of_lt hlo)
  have Hlo := hide hlo
  have Hza := hide (show Z4.size = (q4 M).size by rw [Hzz.out, q4_size])
  have hone := lvs_one (qs 4 M)
  have Hone := hide hone
  clear hlo hone
  go_wp2_with fail
  refine rV (iv [.agg (q4 M), .agg (q4 O6), .bool true]) ?t95 ?r108
  case' t95 => refine ⟨?_, ?_, ?_, trivial⟩ <;> intro ev X hT hb hk hf
  ·exact OpOk.l (fV ev 2 (.pointer (some ⟨w.heap.size, 0, .none⟩)) hk.1) ((hT.block _ lA).trans GA.out) hu HN.out
  ·exact OpOk.c0 hb (rl_any X)
  ·refine OpOk.enters (by simp [execOp, resolve, invoke, fX ev 27 hf.1, fX ev 28 hf.2.1, hb.1, hb.2.1, go_sem]) ((below_any M O6 HM4.out (by decide) X).mono ?_)
   rintro e _ ⟨rfl, hB⟩
   exact ⟨_, rfl, congrArg Value.bool (decide_eq_true Hlo.out), hB⟩
  intro X hT
  rintro _ - _ - _ rfl
  have gA := (hT.block _ lA).trans GA.out
  have gR := (hT.block _ lR).trans GR.out
  have HBX := hide (HBw.out.trans (hT.mono HBw.out.size))
  clear hT
  rw [show lvs (qs 4 M) = q4 M from rfl] at Hone
  rw [← HD.out] at HN Hza Hone gA
  generalize hR4 : q4 (M % O6) = R4 at *
  have HR4 := hide hR4
  clear hR4
  have HsR := HN.out
  have hza := Hza.out
  have hone := Hone.out
  go_wp2
  refine Rest.done ?_
  go_wp2_with (first
   | (refine wS gR HsR hza hone ?_)
   | (refine wL gA hu HsR ?_))
  refine bodyPost_ret (v := .agg R4) (results_cell_row Tryz.results49 _ _ (w.heap.size + 1) _ R4 (0, 0) _ rfl (setRow_heap_same _ _ _ _ _ _ gR) hu rfl HsR) rfl ⟨by rw [HR4.out], below_setRow HBX.out (by omega) _⟩
 have HD := hide (show M % O6 = M - O6 by have := HM.out; rw [Nat.mod_eq_sub_mod (by omega), Nat.mod_eq_of_lt (by omega)])
 have Hlo := hide hlo
 have Hle := hide (show O6 ≤ M by omega)
 clear hlo
 go_wp2_with fail
 refine rV (iv [.agg (q4 M), .agg (q4 O6), .bool false]) ?t96 ?r109
 case' t96 => refine ⟨?_, ?_, ?_, trivial⟩ <;> intro ev X hT hb hk hf
 ·exact OpOk.l (fV ev 2 (.pointer (some ⟨w.heap.size, 0, .none⟩)) hk.1) ((hT.block _ lA).trans GA.out) hu HN.out
 ·exact OpOk.c0 hb (rl_any X)
 ·refine OpOk.enters (by simp [execOp, resolve, invoke, fX ev 27 hf.1, fX ev 28 hf.2.1, hb.1, hb.2.1, go_sem]) ((below_any M O6 HM4.out (by decide) X).mono ?_)
  rintro e _ ⟨rfl, hB⟩
  exact ⟨_, rfl, congrArg Value.bool (decide_eq_false Hlo.out), hB⟩
 intro X2 hT2
 rintro _ - _ - _ rfl
 have GA2 := hide ((hT2.block _ lA).trans GA.out)
 have GR2 := hide ((hT2.block _ lR).trans GR.out)
 have HBX := hide (HBw.out.trans (hT2.mono HBw.out.size))
 have lA2 : w.heap.size < X2.drew.heap.size := Nat.lt_of_lt_of_le lA hT2.size
 have lR2 : w.heap.size + 1 < X2.drew.heap.size := Nat.lt_of_lt_of_le lR hT2.size
 clear hT2
 go_wp2
 refine Rest.done ?_
 go_wp2_with fail
 refine wp_tail 3 (iv [.agg (q4 M), .agg (q4 O6), .agg (q4 (M - O6))]) ?t97 ?r110
 case' t97 => refine ⟨?_, ?_, ?_, trivial⟩ <;> intro ev X hT hb hk hf
 ·exact OpOk.l (fV ev 2 (.pointer (some ⟨w.heap.size, 0, .none⟩)) hk.1) ((hT.block _ lA2).trans GA2.out) hu HN.out
 ·exact OpOk.c0 hb (rl_any X)
 ·exact OpOk.c2 (fX ev 31 hf.1) (fX ev 32 hf.2.1) hb (less_any M O6 HM4.out Hle.out X)
 intro X hT
 rintro _ - _ - _ rfl
 have gR := (hT.block _ lR2).trans GR2.out
 have HBX2 := hide (HBX.out.trans (hT.mono HBX.out.size))
 clear hT
 have HsR : Hid ((Tryz.prog.info? 51).map (·.size) = some (q4 (M - O6)).size) := hide (Hs.out _)
 have hone : (q4 (M - O6)).all (·.oneCell') = true := lvs_one _
 have hza : Z4.size = (q4 (M - O6)).size := by rw [Hzz.out, q4_size]
 rw [← HD.out] at HsR hone hza ⊢
 generalize hR4 : q4 (M % O6) = R4 at *
 have HR4 := hide hR4
 clear hR4
 go_wp2
 refine Rest.done ?_
 go_wp2_with (refine wS gR HsR.out hza hone ?_)
 exact retE Tryz.results49 gR hu HsR.out rfl (by rw [HR4.out]) HBX2.out (by omega)
theorem addL_any (a b : Nat) (ha : a < O6) (hb : b < O6) (w : World) :
  Calls Tryz.prog 21 #[.agg (q4 a), .agg (q4 b)] w fun e w' => e = .returned (.agg (q4 ((a + b) % O6))) ∧ Below w.heap.size w w' := by
 have hu := Tryz.underlying51
 have hu6 := Tryz.underlying50
 have hz : ∀ w, (zeroValue 51).run Tryz.prog w = .ok (.agg (q4 0)) w := fun w => by rw [qz4]; kernel_rfl
 have Hs : Hid (∀ n, (Tryz.prog.info? 51).map (·.size) = some (q4 n).size) := hide fun n => by rw [q4_size]; kernel_rfl
 have h0 := (((on_all w).alloc (.cells (q4 a) 51)).alloc (.cells (q4 b) 51)).alloc (.cells (q4 0) 51)
 have hs0 := (((Str.refl w).alloc (.cells (q4 a) 51)).alloc (.cells (q4 b) 51)).alloc (.cells (q4 0) 51)
 simp only [World.size_alloc] at h0
 have H0 := hide h0
 have HS0 := hide hs0
 have HM := hide (show a + b < 2 * O6 by omega)
 clear h0 hs0 ha hb
 obtain ⟨M, hM⟩ : ∃ M, M = a + b := ⟨_, rfl⟩
 rw [← hM] at HM
 have HMd := hide hM
 clear hM
 generalize hA : q4 a = A4 at *
 generalize hB : q4 b = B4 at *
 generalize hZ : q4 0 = Z4 at *
 have HA := hide hA
 have HB := hide hB
 have HZ := hide hZ
 clear hA hB hZ
 rw [← HMd.out]
 go_enter Tryz.func21, Tryz.ntmps21
 go_wp2_with fail
 generalize ((w.alloc (.cells A4 51)).alloc (.cells B4 51)).alloc (.cells Z4 51) = w1 at *
 go_loopw [5, 6] (fun cv i wr => ∃ k : Nat, k ≤ 4 ∧ i = .int .i64 k ∧ cv = lv (cAdd a b k) ∧ (blk w.heap.size (.cells (lvs ((qs 4 M).take k ++ (qs 4 a).drop k)) 51 (0, 0)) * (blk (w.heap.size + 1 + 1) (.cells Z4 51 (0, 0)) * (blk (w.heap.size + 1) (.cells B4 51 (0, 0)) * all w))).on wr ∧ Str w wr) (fun _ i _ => 4 - (intOf i).toNat)
 case atStart =>
  refine ⟨0, by omega, rfl, by rw [cAdd_0]; rfl, ?_, HS0.out⟩
  rw [List.take_zero, List.drop_zero, List.nil_append, show lvs (qs 4 a) = q4 a from rfl, HA.out]
  have := H0.out
  have e : ∀ P Q R T : SP, P * (Q * (R * T)) = R * (P * (Q * T)) := fun P Q R T => by ac_rfl
  rw [e] at this
  exact this
 obtain ⟨k, hk, rfl, rfl, hX, hS2⟩ := hrel
 have HXk := hide hX
 have HSk := hide hS2
 clear hX hS2 H0 HS0
 by_cases hlt : k < 4
 ·have hset := set_takeN (qs 4 M) (qs 4 a) k (limb M k) (qs_get 4 M k hlt) (by rw [qs_len]; exact hlt)
  have hget := mid_get (qs 4 M) (qs 4 a) k (by rw [qs_len]; exact hk)
  rw [qs_get 4 a k hlt] at hget
  obtain ⟨pl, hpl⟩ : ∃ pl, pl = (qs 4 M).take k ++ (qs 4 a).drop k := ⟨_, rfl⟩
  rw [← hpl] at hset hget HXk
  have Hget := hide hget
  have Hset := hide hset
  have HcA : Hid (∀ X, (blk w.heap.size (.cells (lvs pl) 51 (0, 0)) * (blk (w.heap.size + 1 + 1) (.cells Z4 51 (0, 0)) * (blk (w.heap.size + 1) (.cells B4 51 (0, 0)) * all w))).on X → X.cell? ⟨w.heap.size, k, .none⟩ = some (lv (limb a k))) := hide fun X hX => by rw [cell_of_row X w.heap.size k _ _ _ (on_blk_mul hX)]; exact lvs_get _ k (limb a k) Hget.out
  have HcB : Hid (∀ X, (blk w.heap.size (.cells (lvs pl) 51 (0, 0)) * (blk (w.heap.size + 1 + 1) (.cells Z4 51 (0, 0)) * (blk (w.heap.size + 1) (.cells B4 51 (0, 0)) * all w))).on X → X.cell? ⟨w.heap.size + 1, k, .none⟩ = some (lv (limb b k))) := hide fun X hX => by rw [cell_of_row X (w.heap.size + 1) k B4 _ _ (on_blk_mul hX.right.right), ← HB.out]; exact lvs_get _ k (limb b k) (qs_get 4 b k hlt)
  have hst := cAdd_step a b k
  have hli := cAdd_limb a b k
  rw [← HMd.out] at hli
  have l1 := limb_lt a k
  have l2 := limb_lt b k
  have l3 := limb_lt M k
  have l4 := cAdd_le a b k
  have q1 := u64_add (limb a k) (limb b k)
  obtain ⟨s1, hs1⟩ : ∃ s1, s1 = (limb a k + limb b k) % 18446744073709551616 := ⟨_, rfl⟩
  rw [← hs1] at q1
  have q2 := u64_add s1 (cAdd a b k)
  have e2 : (s1 + cAdd a b k) % 18446744073709551616 = limb M k := by rw [hli, hs1]; omega
  rw [e2] at q2
  have Q1 := hide q1
  have Q2 := hide q2
  have Hst := hide hst
  have Hli := hide hli
  have Hs1 := hide hs1
  have hk4 : (k : Int) < 4 := by omega
  have l5 : s1 < 18446744073709551616 := by rw [hs1]; exact Nat.mod_lt _ (by decide)
  clear hset hget q1 q2 hpl hst hli e2 hs1
  have Hfin : Hid (∀ X : World, (blk w.heap.size (.cells (lvs pl) 51 (0, 0)) * (blk (w.heap.size + 1 + 1) (.cells Z4 51 (0, 0)) * (blk (w.heap.size + 1) (.cells B4 51 (0, 0)) * all w))).on X → (blk w.heap.size (.cells (lvs ((qs 4 M).take (k + 1) ++ (qs 4 a).drop (k + 1))) 51 (0, 0)) * (blk (w.heap.size + 1 + 1) (.cells Z4 51 (0, 0)) * (blk (w.heap.size + 1) (.cells B4 51 (0, 0)) * all w))).on (X.setCell ⟨w.heap.size, k, .none⟩ (lv (limb M k)))) := hide fun X hX => by
    have h3 := SP.on.setCell (i := k) hX (lv (limb M k))
    rw [lvs_set, Hset.out] at h3
    exact h3
  generalize limb a k = x at *
  generalize limb b k = y at *
  generalize cAdd a b k = c at *
  generalize hc2 : cAdd a b (k + 1) = c2 at *
  have Hc2 := hide hc2
  clear hc2
  generalize limb M k = T at *
  go_wp2_with fail
  refine rV (iv [.int .i64 (k : Int), .pointer (some ⟨w.heap.size, k, .none⟩), lv x, .int .i64 (k : Int), .pointer (some ⟨w.heap.size + 1, k, .none⟩), lv y, lv s1, lv s1]) ?t98 ?r111
  case' t98 => refine ⟨?_, ?_, ?_, ?_, ?_, ?_, ?_, ?_, trivial⟩ <;> intro ev X hT hb hk hf
  ·exact OpOk.m rfl hk.1
  ·exact OpOk.r (by simp [execOp, fV ev 2 (.pointer (some ⟨w.heap.size, 0, .none⟩)) hk.1, fX ev 14 hf.1, hb.1, hk4, go_sem]; try (intro h; omega))
  ·have cW := HcA.out X (HXk.out.below hT)
   exact OpOk.sc (fX ev 15 hf.1) cW
  ·exact OpOk.m rfl hk.1
  ·exact OpOk.r (by simp [execOp, fV ev 3 (.pointer (some ⟨w.heap.size + 1, 0, .none⟩)) hk.1, fX ev 17 hf.1, hb.1, hk4, go_sem]; try (intro h; omega))
  ·have cW := HcB.out X (HXk.out.below hT)
   exact OpOk.sc (fX ev 18 hf.1) cW
  ·exact OpOk.r (by have h9 := Q1.out; simp [execOp, fX ev 16 hf.1, fX ev 19 hf.2.1, h9, go_sem])
  ·exact OpOk.assign rfl (fX ev 20 hf.1) ⟨rfl, Stay.refl _⟩
  intro X hT
  rintro _ - _ - _ - _ - _ - _ - _ - _ rfl
  have HX2 := hide (HXk.out.below hT)
  have HS2 := hide (HSk.out.trans (Str.below hT))
  have hcell := HcA.out X HX2.out
  have hfr := frozen_of_row X w.heap.size k _ _ (on_blk_mul HX2.out)
  have HF := hide (Hfin.out X HX2.out)
  clear hT HXk HSk
  by_cases o1 : s1 < x
  ·have o1' : (s1 : Int) < (x : Int) := by omega
   by_cases o2 : T < s1
   ·have o2' : (T : Int) < (s1 : Int) := by omega
    have HE := hide (show c2 = 1 by have h1 := Hst.out; have h2 := Hs1.out; have h3 := Hli.out; omega)
    clear o1 o2
    have hq2 : IntKind.u64.wrap ((s1 : Int) + (c : Int)) = (T : Int) := Q2.out
    go_wp2
    refine Rest.done ?_
    go_wp2
    exact ⟨⟨k + 1, by omega, by simp, by rw [Hc2.out, HE.out]; rfl, HF.out, HS2.out.setCell _ _⟩, by simp [intOf]; omega⟩
   have o2' : ¬ (T : Int) < (s1 : Int) := by omega
   have HE := hide (show c2 = 1 by have h1 := Hst.out; have h2 := Hs1.out; have h3 := Hli.out; omega)
   clear o1 o2
   have hq2 : IntKind.u64.wrap ((s1 : Int) + (c : Int)) = (T : Int) := Q2.out
   go_wp2
   refine Rest.done ?_
   go_wp2
   exact ⟨⟨k + 1, by omega, by simp, by rw [Hc2.out, HE.out]; rfl, HF.out, HS2.out.setCell _ _⟩, by simp [intOf]; omega⟩
  have o1' : ¬ (s1 : Int) < (x : Int) := by omega
  by_cases o2 : T < s1
  ·have o2' : (T : Int) < (s1 : Int) := by omega
   have HE := hide (show c2 = 1 by have h1 := Hst.out; have h2 := Hs1.out; have h3 := Hli.out; omega)
   clear o1 o2
   have hq2 : IntKind.u64.wrap ((s1 : Int) + (c : Int)) = (T : Int) := Q2.out
   go_wp2
   refine Rest.done ?_
   go_wp2
   exact ⟨⟨k + 1, by omega, by simp, by rw [Hc2.out, HE.out]; rfl, HF.out, HS2.out.setCell _ _⟩, by simp [intOf]; omega⟩
  have o2' : ¬ (T : Int) < (s1 : Int) := by omega
  have HE := hide (show c2 = 0 by have h1 := Hst.out; have h2 := Hs1.out; have h3 := Hli.out; omega)
  clear o1 o2
  have hq2 : IntKind.u64.wrap ((s1 : Int) + (c : Int)) = (T : Int) := Q2.out
  go_wp2
  refine Rest.done ?_
  go_wp2
  exact ⟨⟨k + 1, by omega, by simp, by rw [Hc2.out, HE.out]; rfl, HF.out, HS2.out.setCell _ _⟩, by simp [intOf]; omega⟩
 obtain rfl : k = 4 := by omega
 have e4 : (qs 4 M).take 4 ++ (qs 4 a).drop 4 = qs 4 M := by rw [List.take_of_length_le (by rw [qs_len]; omega), List.drop_of_length_le (by rw [qs_len]; omega), List.append_nil]
 rw [e4, show lvs (qs 4 M) = q4 M from rfl] at HXk
 clear e4
 have gA := on_blk_mul HXk.out
 have gR := on_blk_mul HXk.out.right
 have hBw := all_below HXk.out.right.right.right HSk.out
 have HBw := hide hBw
 have lA0 := (Array.getElem?_eq_some_iff.1 gA).1
 have lR0 := (Array.getElem?_eq_some_iff.1 gR).1
 have lA : w.heap.size < wr.drew.heap.size := lA0
 have lR : w.heap.size + 1 + 1 < wr.drew.heap.size := lR0
 have GA := hide gA
 have GR := hide gR
 have Hzz : Hid (Z4.size = 4) := hide (by rw [← HZ.out, q4_size])
 have HN := hide (Hs.out M)
 have HM4 := hide (show M < 18446744073709551616 ^ 4 from Nat.lt_of_lt_of_le HM.out (by decide))
 clear hBw HXk gA gR lA0 lR0
 by_cases hlo : M < O6
 ·have HD := hide (show M % O6 = M from Nat.mod_eq_of_lt hlo)
  have Hlo := hide hlo
  have Hza := hide (show Z4.size = (q4 M).size by rw [Hzz.out, q4_size])
  have hone := lvs_one (qs 4 M)
  have Hone := hide hone
  clear hlo hone
  go_wp2_with fail
  refine rV (iv [.agg (q4 M), .agg (q4 O6), .bool true]) ?t99 ?r112
  case' t99 => refine ⟨?_, ?_, ?_, trivial⟩ <;> intro ev X hT hb hk hf
  ·exact OpOk.l (fV ev 2 (.pointer (some ⟨w.heap.size, 0, .none⟩)) hk.1) ((hT.block _ lA).trans GA.out) hu HN.out
  ·exact OpOk.c0 hb (rl_any X)
  ·refine OpOk.enters (by simp [execOp, resolve, invoke, fX ev 36 hf.1, fX ev 37 hf.2.1, hb.1, hb.2.1, go_sem]) ((below_any M O6 HM4.out (by decide) X).mono ?_)
   rintro e _ ⟨rfl, hB⟩
   exact ⟨_, rfl, congrArg Value.bool (decide_eq_true Hlo.out), hB⟩
  intro X hT
  rintro _ - _ - _ rfl
  have gA := (hT.block _ lA).trans GA.out
  have gR := (hT.block _ lR).trans GR.out
  have HBX := hide (HBw.out.trans (hT.mono HBw.out.size))
  clear hT
  rw [show lvs (qs 4 M) = q4 M from rfl] at Hone
  rw [← HD.out] at HN Hza Hone gA
  generalize hR4 : q4 (M % O6) = R4 at *
  have HR4 := hide hR4
  clear hR4
  have HsR := HN.out
  have hza := Hza.out
  have hone := Hone.out
  go_wp2
  refine Rest.done ?_
  go_wp2_with (first
   | (refine wS gR HsR hza hone ?_)
   | (refine wL gA hu HsR ?_))
  refine bodyPost_ret (v := .agg R4) (results_cell_row Tryz.results21 _ _ (w.heap.size + 1 + 1) _ R4 (0, 0) _ rfl (setRow_heap_same _ _ _ _ _ _ gR) hu rfl HsR) rfl ⟨by rw [HR4.out], below_setRow HBX.out (by omega) _⟩
 have HD := hide (show M % O6 = M - O6 by have := HM.out; rw [Nat.mod_eq_sub_mod (by omega), Nat.mod_eq_of_lt (by omega)])
 have Hlo := hide hlo
 have Hle := hide (show O6 ≤ M by omega)
 clear hlo
 go_wp2_with fail
 refine rV (iv [.agg (q4 M), .agg (q4 O6), .bool false]) ?t100 ?r113
 case' t100 => refine ⟨?_, ?_, ?_, trivial⟩ <;> intro ev X hT hb hk hf
 ·exact OpOk.l (fV ev 2 (.pointer (some ⟨w.heap.size, 0, .none⟩)) hk.1) ((hT.block _ lA).trans GA.out) hu HN.out
 ·exact OpOk.c0 hb (rl_any X)
 ·refine OpOk.enters (by simp [execOp, resolve, invoke, fX ev 36 hf.1, fX ev 37 hf.2.1, hb.1, hb.2.1, go_sem]) ((below_any M O6 HM4.out (by decide) X).mono ?_)
  rintro e _ ⟨rfl, hB⟩
  exact ⟨_, rfl, congrArg Value.bool (decide_eq_false Hlo.out), hB⟩
 intro X2 hT2
 rintro _ - _ - _ rfl
 have GA2 := hide ((hT2.block _ lA).trans GA.out)
 have GR2 := hide ((hT2.block _ lR).trans GR.out)
 have HBX := hide (HBw.out.trans (hT2.mono HBw.out.size))
 have lA2 : w.heap.size < X2.drew.heap.size := Nat.lt_of_lt_of_le lA hT2.size
 have lR2 : w.heap.size + 1 + 1 < X2.drew.heap.size := Nat.lt_of_lt_of_le lR hT2.size
 clear hT2
 go_wp2
 refine Rest.done ?_
 go_wp2_with fail
 refine wp_tail 3 (iv [.agg (q4 M), .agg (q4 O6), .agg (q4 (M - O6))]) ?t101 ?r114
 case' t101 => refine ⟨?_, ?_, ?_, trivial⟩ <;> intro ev X hT hb hk hf
 ·exact OpOk.l (fV ev 2 (.pointer (some ⟨w.heap.size, 0, .none⟩)) hk.1) ((hT.block _ lA2).trans GA2.out) hu HN.out
 ·exact OpOk.c0 hb (rl_any X)
 ·exact OpOk.c2 (fX ev 40 hf.1) (fX ev 41 hf.2.1) hb (less_any M O6 HM4.out Hle.out X)
 intro X hT
 rintro _ - _ - _ rfl
 have gR := (hT.block _ lR2).trans GR2.out
 have HBX2 := hide (HBX.out.trans (hT.mono HBX.out.size))
 clear hT
 have HsR : Hid ((Tryz.prog.info? 51).map (·.size) = some (q4 (M - O6)).size) := hide (Hs.out _)
 have hone : (q4 (M - O6)).all (·.oneCell') = true := lvs_one _
 have hza : Z4.size = (q4 (M - O6)).size := by rw [Hzz.out, q4_size]
 rw [← HD.out] at HsR hone hza ⊢
 generalize hR4 : q4 (M % O6) = R4 at *
 have HR4 := hide hR4
 clear hR4
 go_wp2
 refine Rest.done ?_
 go_wp2_with (refine wS gR HsR.out hza hone ?_)
 exact retE Tryz.results21 gR hu HsR.out rfl (by rw [HR4.out]) HBX2.out (by omega)
abbrev iw (x : Nat) : Value := .int .i64 (x : Int)
abbrev ownI (v : Value) (l : List Nat) : SP := own 3 1 v l.length (l.map iw)
theorem infoInt : (Tryz.prog.info? 3).map (fun i => (i.zero, i.size, i.bytes)) = some (some (.int .i64 0), 1, 8) := by kernel_rfl
theorem iv_one (l : List Nat) : ∀ u ∈ l.map iw, u.oneCell' = true := by
 intro u hu
 obtain ⟨_, _, rfl⟩ := List.mem_map.1 hu
 rfl
theorem wpList_append_ints {F : SP} {w : World} {ops : Array Oper} {rest : List Oper} {o : Oper} {a : Act} {Q : Exit → Act → World → Prop} (hgd : o.guard = Option.none) (s x : Operand) (t : TypeId)
  (ho : o.op = .call { callee := .builtin .append, args := #[s, x], argTypes := #[t, t] }) (ht : Tryz.prog.underlying t = some (.slice 3))
  (v : Value) (l m : List Nat) (hs : a.eval s = v) (hown : (ownI v l * F).on w)
  (ad : Option Addr) (c : Nat) (hx : a.eval x = .slice ad m.length c) (hac : ad = Option.none → c = 0) (hl : Lay w ad (m.map iw)) (hb : l.length + m.length ≤ 10000000)
  (h : ∀ v' w', (ownI v' (l ++ m) * F).on w' → Str w w' → wpList Tryz.prog ops Q rest (a.put o.dst v') w') : wpList Tryz.prog ops Q (o :: rest) a w := by
 obtain ⟨i, hq, hz, hsz, hby⟩ := info_some infoInt
 refine wpList_append_sp hgd s x t ho 3 i (.int .i64 0) 1 8 ht hq hz hsz hby rfl (by decide) v l.length (l.map iw) hs hown ad m.length c (m.map iw) hx hac (by simp) hl (iv_one m) (by unfold maxLen; omega) (by omega) ?_
 intro v' w' h2 h3
 refine h v' w' ?_ h3
 show (own 3 1 v' (l ++ m).length ((l ++ m).map iw) * F).on w'
 rw [List.map_append, List.length_append]
 exact h2
def bitAt (l : List UInt8) (i : Nat) : Nat := (l.getD (i / 8) 0).toNat / 2 ^ (i % 8) % 2
def bitsL (l : List UInt8) (n : Nat) : List Nat := (List.range n).map (bitAt l)
theorem bitsL_len (l : List UInt8) (n : Nat) : (bitsL l n).length = n := by simp [bitsL]
theorem bitsL_succ (l : List UInt8) (n : Nat) : bitsL l (n + 1) = bitsL l n ++ [bitAt l n] := by
 unfold bitsL; rw [List.range_succ, List.map_append]; rfl
theorem bitsL_get (l : List UInt8) (n k : Nat) (h : k < n) : (bitsL l n)[k]? = some (bitAt l k) := by simp [bitsL, h]
theorem bitAt_le (l : List UInt8) (k : Nat) : bitAt l k ≤ 1 := by
 unfold bitAt; have := Nat.mod_lt ((l.getD (k / 8) 0).toNat / 2 ^ (k % 8)) (show 0 < 2 by decide); omega
theorem leN_at (l : List UInt8) (q : Nat) (h : q < l.length) : leN l / 256 ^ q % 256 = (l.getD q 0).toNat := by
 induction q generalizing l with
 | zero =>
  cases l with
  | nil => simp at h
  | cons x l =>
   have := UInt8.toNat_lt x
   simp only [leN, Nat.pow_zero, Nat.div_one, List.getD_cons_zero]
   omega
 | succ q ih =>
  cases l with
  | nil => simp at h
  | cons x l =>
   have hx := UInt8.toNat_lt x
   have := ih l (by simpa using h)
   simp only [List.getD_cons_succ]
   rw [← this, Nat.pow_succ, Nat.mul_comm, ← Nat.div_div_eq_div_mul]
   congr 2
   simp only [leN]
   omega
theorem bit_of (V k : Nat) : V / 2 ^ k % 2 = V / 256 ^ (k / 8) % 256 / 2 ^ (k % 8) % 2 := by
 have h8 : k % 8 < 8 := Nat.mod_lt _ (by decide)
 have e : (2 : Nat) ^ k = 256 ^ (k / 8) * 2 ^ (k % 8) := by
  rw [show (256 : Nat) = 2 ^ 8 from rfl, ← Nat.pow_mul, ← Nat.pow_add, Nat.div_add_mod]
 rw [e, ← Nat.div_div_eq_div_mul]
 generalize V / 256 ^ (k / 8) = n
 generalize k % 8 = r at *
 match r, h8 with
 | 0, _ => simp only [Nat.reducePow]; omega
 | 1, _ => simp only [Nat.reducePow]; omega
 | 2, _ => simp only [Nat.reducePow]; omega
 | 3, _ => simp only [Nat.reducePow]; omega
 | 4, _ => simp only [Nat.reducePow]; omega
 | 5, _ => simp only [Nat.reducePow]; omega
 | 6, _ => simp only [Nat.reducePow]; omega
 | 7, _ => simp only [Nat.reducePow]; omega
theorem leN_bit (l : List UInt8) (k : Nat) (h : k < 8 * l.length) : leN l / 2 ^ k % 2 = bitAt l k := by
 rw [bit_of, leN_at l (k / 8) (by omega)]; rfl
theorem rbits_any (v : Value) (l : List UInt8) (w : World) (h : IsBytes w v l) (hl : l.length ≤ 100000) :
  Calls Tryz.prog 50 #[v] w (Makes w fun v => ownI v (bitsL l (8 * l.length))) := by
 obtain ⟨a, c, rfl, hc1, hc2, hlay, hnone⟩ := h
 have hu8 := Tryz.underlying5
 have hui := Tryz.underlying3
 have hus := Tryz.underlying35
 have hut := Tryz.underlying99
 have Hl := hide hlay
 have H0 := hide (own_nil 3 1 (on_all w))
 have Hb : Hid (IsBytes w (.slice a l.length c) l) := hide ⟨a, c, rfl, hc1, hc2, hlay, hnone⟩
 clear hlay hnone
 go_enter Tryz.func50, Tryz.ntmps50
 go_wp2
 go_loopw [3, 4] (fun v i wr => ∃ k : Nat, k ≤ 8 * l.length ∧ i = .int .i64 k ∧ (ownI v (bitsL l k) * all w).on wr ∧ Str w wr) (fun _ i _ => 8 * l.length - (intOf i).toNat)
 case atStart => exact ⟨0, by omega, rfl, H0.out, Str.refl _⟩
 obtain ⟨k, hk, rfl, how, hstr⟩ := hrel
 have How := hide how
 have Hstr := hide hstr
 have hB : Below w.heap.size w wr := all_below how.right hstr
 clear how hstr
 have s8 : IntKind.i64.wrap (8 * ((l.length : Nat) : Int)) = ((8 * l.length : Nat) : Int) := by rw [IntWalk.i64_in _ (by omega)]; omega
 by_cases hlt : k < 8 * l.length
 ·have hq : k / 8 < l.length := by omega
  obtain ⟨b, off, rfl⟩ := Lay.isAddr Hl.out (k / 8) (by simpa using hq)
  have hc0 := Lay.cell (Hl.out.below hB) (k / 8) (vbs_get l (k / 8) hq)
  have HS := hide (bitsL_succ l k)
  have hln : (bitsL l k).length ≤ 800000 := by rw [bitsL_len]; omega
  have hbit : (l[k / 8].toNat : Int) / 2 ^ (k % 8) = ((l[k / 8].toNat / 2 ^ (k % 8) : Nat) : Int) := by rw [Int.natCast_ediv, Int.natCast_pow]; rfl
  have hbv : ((l[k / 8].toNat / 2 ^ (k % 8) : Nat) : Int) % 2 = ((bitAt l k : Nat) : Int) := by
   unfold bitAt
   rw [show l.getD (k / 8) 0 = l[k / 8] by simp [List.getD, hq]]
   omega
  have c1 : IntKind.i64.wrap ((k : Int) / 8) = ((k / 8 : Nat) : Int) := by rw [IntWalk.i64_in _ (by omega)]; omega
  have c2 : ((k : Int)).tmod 8 = ((k % 8 : Nat) : Int) := by rw [Int.tmod_eq_emod_of_nonneg (by omega)]; omega
  have hble := bitAt_le l k
  have hbl : ((bitAt l k : Nat) : Int) ≤ 1 := by omega
  have c3 : IntKind.i64.wrap ((bitAt l k : Nat) : Int) = ((bitAt l k : Nat) : Int) := by rw [IntWalk.i64_in _ (by omega)]
  have C4 : Hid (wrap64 (((l[k / 8].toNat : Nat) : Int) / 2 ^ (k % 8) |>.tmod 2) = ((bitAt l k : Nat) : Int)) := hide (by
   rw [hbit, Int.tmod_eq_emod_of_nonneg (Int.natCast_nonneg _), hbv]
   exact IntWalk.wrap64_in _ (by omega))
  have hkl : (k : Int) < ((8 * l.length : Nat) : Int) := by omega
  have hql : ((k / 8 : Nat) : Int) < (l.length : Int) := by omega
  clear hbit hbv hB
  generalize l[k / 8] = x at *
  go_wp2_with (at_builtin; rw [C4.out]; refine wpList_append_ints (F := all w) rfl _ _ 99 rfl hut _ (bitsL l k) [bitAt l k] rfl (How.out.alloc' _) (some ⟨wr.heap.size, 0, .none⟩) 1 rfl (fun h => nomatch h) (Lay.new wr [iw (bitAt l k)] 3) (by simp only [List.length_cons, List.length_nil]; omega) ?_; intro v2 w2 ho2 hs2)
  go_roundw
  case rel => exact ⟨k + 1, by omega, by go_num, by rw [HS.out]; exact ho2, (Hstr.out.alloc _).trans hs2⟩
  case measure => simp [intOf]; omega
 obtain rfl : k = 8 * l.length := by omega
 go_wp2
 go_ret
 exact ⟨_, rfl, How.out, Hstr.out⟩
theorem pow_step (V k : Nat) : V / 2 ^ k = 2 * (V / 2 ^ (k + 1)) + V / 2 ^ k % 2 := by
 rw [Nat.pow_succ, ← Nat.div_div_eq_div_mul]; omega
theorem two_acc (V k : Nat) : (2 * (V / 2 ^ (k + 1) % O6) + V / 2 ^ k % 2) % O6 = V / 2 ^ k % O6 := by
 rw [two_mod, ← pow_step]
theorem rreduce_any (v : Value) (l : List UInt8) (w : World) (h : IsBytes w v l) (hl : l.length ≤ 100000) :
  Calls Tryz.prog 23 #[v] w fun e w' => e = .returned (.agg (q4 (leN l % O6))) ∧ Below w.heap.size w w' := by
 have hu := Tryz.underlying51
 have hui := Tryz.underlying3
 have hut := Tryz.underlying99
 have hz : ∀ w, (zeroValue 51).run Tryz.prog w = .ok (.agg (q4 0)) w := fun w => by rw [qz4]; kernel_rfl
 have Hs : Hid (∀ n, (Tryz.prog.info? 51).map (·.size) = some (q4 n).size) := hide fun n => by rw [q4_size]; kernel_rfl
 have hb0 := h.below ((Below.refl w.heap.size w).alloc (Nat.le_refl _) (.cells (q4 0) 51))
 have HBits := hide (rbits_any v l _ hb0 hl)
 have HB1 := hide ((Below.refl w.heap.size w).alloc (Nat.le_refl _) (.cells (q4 0) 51))
 have GR0 := hide (heap_alloc_new w (.cells (q4 0) 51))
 have hlR : w.heap.size < (w.alloc (.cells (q4 0) 51)).heap.size := by simp
 have HVlt := hide (leN_lt l)
 have Hbit := hide (leN_bit l)
 obtain ⟨V, hV⟩ : ∃ V, V = leN l := ⟨_, rfl⟩
 rw [← hV] at HVlt Hbit ⊢
 clear h hb0 hV
 generalize hZ : q4 0 = Z4 at *
 have HZ := hide hZ
 clear hZ
 go_enter Tryz.func23, Tryz.ntmps23
 go_wp2_with fail
 generalize w.alloc (.cells Z4 51) = w1 at *
 refine HBits.out.mono ?_
 rintro e w2 ⟨bv, rfl, ho, hs⟩
 have hB12 := Makes.below (Q := fun v => ownI v (bitsL l (8 * l.length))) ho hs
 have HB2 := hide (HB1.out.trans (hB12.mono HB1.out.size))
 have gR2 := (hB12.block _ hlR).trans GR0.out
 have hlR2 : w.heap.size < w2.heap.size := Nat.lt_of_lt_of_le hlR hB12.size
 obtain ⟨ba, bc, rfl, hbc1, hbc2, hlay, hnone⟩ := own_value ho
 rw [bitsL_len] at hbc1 ⊢
 have h0 := (on_all w2).alloc (.cells Z4 51)
 have hs0 := (Str.refl w2).alloc (.cells Z4 51)
 have H0 := hide h0
 have HS0 := hide hs0
 have HL := hide hlay
 have GR2 := hide gR2
 clear ho hs hB12 hlay h0 hs0 GR0 HBits gR2
 have s1 : IntKind.i64.wrap (((8 * l.length : Nat) : Int) - 1) = ((8 * l.length : Nat) : Int) - 1 := by rw [IntWalk.i64_in _ (by omega)]
 go_wp2_with fail
 generalize w2.alloc (.cells Z4 51) = w3 at *
 go_loopw [5] (fun i wr => ∃ k : Nat, k ≤ 8 * l.length ∧ i = .int .i64 ((k : Int) - 1) ∧ (blk w2.heap.size (.cells (q4 (V / 2 ^ k % O6)) 51 (0, 0)) * all w2).on wr ∧ Str w2 wr) (fun i _ => (intOf i + 1).toNat)
 case atStart =>
  refine ⟨8 * l.length, Nat.le_refl _, rfl, ?_, HS0.out⟩
  have e : V / 2 ^ (8 * l.length) = 0 := by
   apply Nat.div_eq_of_lt
   have := HVlt.out
   rwa [show (256 : Nat) = 2 ^ 8 from rfl, ← Nat.pow_mul] at this
  rw [e, Nat.zero_mod, HZ.out]
  exact H0.out
 obtain ⟨k, hk, rfl, hX, hS2⟩ := hrel
 have HXk := hide hX
 have HSk := hide hS2
 clear hX hS2 H0 HS0 s1
 cases k with
 | zero =>
  rw [Nat.pow_zero, Nat.div_one] at HXk
  have gA := on_blk_mul HXk.out
  have hBw := all_below HXk.out.right HSk.out
  have gR := (hBw.block _ hlR2).trans GR2.out
  have HBw := hide (HB2.out.trans (hBw.mono HB2.out.size))
  have HsR := hide (Hs.out (V % O6))
  have hone : (q4 (V % O6)).all (·.oneCell') = true := lvs_one _
  have hza : Z4.size = (q4 (V % O6)).size := by rw [← HZ.out, q4_size, q4_size]
  clear HXk hBw
  generalize hR4 : q4 (V % O6) = R4 at *
  have HR4 := hide hR4
  clear hR4
  go_wp2_with (first
   | (refine wS gR HsR.out hza hone ?_)
   | (refine wL gA hu HsR ?_))
  refine bodyPost_ret (v := .agg R4) (results_cell_row Tryz.results23 _ _ w.heap.size _ R4 (0, 0) _ rfl (setRow_heap_same _ _ _ _ _ _ gR) hu rfl HsR.out) rfl ⟨by rw [HR4.out], below_setRow HBw.out (Nat.le_refl _) _⟩
 | succ k =>
  have hkl : k < 8 * l.length := by omega
  obtain ⟨bg, bo, rfl⟩ := Lay.isAddr HL.out k (by simpa [bitsL_len] using hkl)
  have GA := hide (on_blk_mul HXk.out)
  have lA : w2.heap.size < wr.drew.heap.size := (Array.getElem?_eq_some_iff.1 GA.out).1
  have HBw := hide (all_below HXk.out.right HSk.out)
  have Hcell : Hid (∀ X, Below w2.heap.size w2 X → X.cell? ⟨bg, bo + k, .none⟩ = some (iw (bitAt l k))) := hide fun X hX => Lay.cell (HL.out.below hX) k (by simp [bitsL_get l _ k hkl])
  have Hb1 := hide (bitAt_le l k)
  have Hnext := hide (show (2 * (V / 2 ^ (k + 1) % O6) + bitAt l k) % O6 = V / 2 ^ k % O6 by rw [← Hbit.out k hkl, two_acc])
  have hacc : V / 2 ^ (k + 1) % O6 < O6 := Nat.mod_lt _ (by decide)
  have Hacc := hide hacc
  have s1 : (((k + 1 : Nat) : Int) - 1) = (k : Int) := by omega
  rw [s1]
  clear s1 hacc
  generalize V / 2 ^ (k + 1) % O6 = A at *
  generalize bitAt l k = bb at *
  generalize hA2 : V / 2 ^ k % O6 = A2 at *
  have HA2 := hide hA2
  clear hA2
  have hkl2 : (k : Int) < ((8 * l.length : Nat) : Int) := by omega
  go_wp2_with fail
  refine wp_tail 6 (iv [.agg (q4 A), .slice (some ⟨bg, bo, .none⟩) (8 * l.length) bc, .int .i64 (k : Int), .pointer (some ⟨bg, bo + k, .none⟩), iw bb, .agg (q4 A2)]) ?t102 ?r115
  case' t102 => refine ⟨?_, ?_, ?_, ?_, ?_, ?_, trivial⟩ <;> intro ev X hT hb hk hf
  ·exact OpOk.load_row _ _ rfl _ (fV ev 4 (.pointer (some ⟨w2.heap.size, 0, .none⟩)) hk.1) _ (q4 A) (0, 0) _ ((hT.block _ lA).trans GA.out) hu rfl (Hs.out _) ⟨rfl, Stay.refl _⟩
  ·exact OpOk.m rfl hk.1
  ·exact OpOk.m rfl hk.1
  ·exact OpOk.r (by simp [execOp, fX ev 16 hf.1, fX ev 17 hf.2.1, hkl, hkl2, go_sem]; try (intro h; omega))
  ·have cW := Hcell.out X (HBw.out.trans (hT.mono HBw.out.size))
   exact OpOk.sc (fX ev 18 hf.1) cW
  ·refine OpOk.enters (by simp [execOp, resolve, invoke, fX ev 15 hf.1, fX ev 19 hf.2.1, hb.1, hb.2.1, go_sem]) ((double_any A bb Hacc.out Hb1.out X).mono ?_)
   rintro e _ ⟨rfl, hB⟩
   exact ⟨_, rfl, congrArg (fun n => Value.agg (q4 n)) Hnext.out, hB⟩
  intro X hT
  rintro _ - _ - _ - _ - _ - _ rfl
  have hx2 := HXk.out.below hT
  have gX2 := on_blk_mul hx2
  have hst2 := SP.on.setRow hx2 (q4 A2)
  have HX2 := hide hst2
  have HS2 := hide ((HSk.out.trans (Str.below hT)).setRow w2.heap.size (q4 A2))
  have hza : (q4 A).size = (q4 A2).size := by rw [q4_size, q4_size]
  have hone : (q4 A2).all (·.oneCell') = true := lvs_one _
  have HsR := hide (Hs.out A2)
  clear hT hx2 hst2 HXk HSk GA lA
  generalize hR4 : q4 A2 = R4 at *
  have HR4 := hide hR4
  clear hR4
  generalize q4 A = Q4 at *
  go_wp2
  refine Rest.done ?_
  go_wp2_with (refine wS gX2 HsR.out hza hone ?_)
  refine ⟨⟨k, by omega, rfl, ?_, HS2.out⟩, by simp [intOf]⟩
  rw [HA2.out, HR4.out]
  exact HX2.out
theorem wbs_get (ws : List Nat) (k : Nat) (h : k / 8 < ws.length) : (wbs ws)[k]? = some (UInt8.ofNat ((ws.getD (k / 8) 0) / 2 ^ (8 * (k % 8)))) := by
 induction ws generalizing k with
 | nil => simp at h
 | cons x l ih =>
  show (wb x ++ wbs l)[k]? = _
  by_cases hk : k < 8
  ·rw [List.getElem?_append_left (by rw [wb_len]; exact hk), show k / 8 = 0 by omega, show k % 8 = k by omega]
   simp [wb, hk]
  rw [List.getElem?_append_right (by rw [wb_len]; omega), wb_len, ih (k - 8) (by simp at h; omega), show k / 8 = (k - 8) / 8 + 1 by omega, show (k - 8) % 8 = k % 8 by omega]
  simp
theorem wbs_qs_get (m n k : Nat) (h : k / 8 < m) : (wbs (qs m n))[k]? = some (UInt8.ofNat (limb n (k / 8) / 2 ^ (8 * (k % 8)))) := by
 rw [wbs_get _ _ (by rw [qs_len]; exact h), List.getD_eq_getElem?_getD, qs_get m n _ h]; rfl
theorem bytesL_any (n : Nat) (w : World) :
  Calls Tryz.prog 20 #[.agg (q4 n)] w fun e w' => e = .returned (.agg (zb (wbs (qs 4 n)))) ∧ Below w.heap.size w w' := by
 have hu := Tryz.underlying51
 have hu6 := Tryz.underlying50
 have hu8 := Tryz.underlying5
 have hu32 := Tryz.underlying22
 have hz : ∀ w, (zeroValue 22).run Tryz.prog w = .ok (.agg (zb (List.replicate 32 0))) w := fun w => by kernel_rfl
 have hlen := wbs_len (qs 4 n)
 rw [qs_len] at hlen
 have h0 := (((on_all w).alloc (.cells (q4 n) 51)).alloc (.cells (zb (List.replicate 32 0)) 22)).alloc (.cells (zb (List.replicate 32 0)) 22)
 have hs0 := (((Str.refl w).alloc (.cells (q4 n) 51)).alloc (.cells (zb (List.replicate 32 0)) 22)).alloc (.cells (zb (List.replicate 32 0)) 22)
 simp only [World.size_alloc] at h0
 have H0 := hide h0
 have HS0 := hide hs0
 have Hlen := hide hlen
 have HsR : Hid ((Tryz.prog.info? 22).map (·.size) = some (zb (wbs (qs 4 n))).size) := hide (by rw [show (zb (wbs (qs 4 n))).size = 32 by simp [zb, vbs, hlen]]; kernel_rfl)
 have Hza : Hid ((zb (List.replicate 32 0)).size = (zb (wbs (qs 4 n))).size) := hide (by rw [show (zb (wbs (qs 4 n))).size = 32 by simp [zb, vbs, hlen]]; rfl)
 have Hone : Hid ((zb (wbs (qs 4 n))).all (·.oneCell') = true) := hide (vba _)
 clear h0 hs0 hlen
 generalize hA : q4 n = A4 at *
 generalize hZ : zb (List.replicate 32 0) = Z at *
 have HA := hide hA
 have HZ := hide hZ
 clear hA hZ
 go_enter Tryz.func20, Tryz.ntmps20
 go_wp2_with fail
 generalize ((w.alloc (.cells A4 51)).alloc (.cells Z 22)).alloc (.cells Z 22) = w1 at *
 go_loopw [4] (fun i wr => ∃ k : Nat, k ≤ 32 ∧ i = .int .i64 k ∧ (blk (w.heap.size + 1 + 1) (.cells (zb ((wbs (qs 4 n)).take k ++ (List.replicate 32 0).drop k)) 22 (0, 0)) * (blk (w.heap.size + 1) (.cells Z 22 (0, 0)) * (blk w.heap.size (.cells A4 51 (0, 0)) * all w))).on wr ∧ Str w wr) (fun i _ => 32 - (intOf i).toNat)
 case atStart =>
  refine ⟨0, by omega, rfl, ?_, HS0.out⟩
  rw [List.take_zero, List.drop_zero, List.nil_append, HZ.out]
  exact H0.out
 obtain ⟨k, hk, rfl, hX, hS2⟩ := hrel
 have HXk := hide hX
 have HSk := hide hS2
 clear hX hS2 H0 HS0
 by_cases hlt : k < 32
 ·have hq4 : k / 8 < 4 := by omega
  have hset := set_takeN (wbs (qs 4 n)) (List.replicate 32 0) k _ (wbs_qs_get 4 n k hq4) (by simp; omega)
  have hst := SP.on.setCell (i := k) HXk.out (vb (UInt8.ofNat (limb n (k / 8) / 2 ^ (8 * (k % 8)))))
  rw [show (zb ((wbs (qs 4 n)).take k ++ (List.replicate 32 0).drop k)).setIfInBounds k (vb (UInt8.ofNat (limb n (k / 8) / 2 ^ (8 * (k % 8))))) = zb (((wbs (qs 4 n)).take k ++ (List.replicate 32 0).drop k).set k (UInt8.ofNat (limb n (k / 8) / 2 ^ (8 * (k % 8))))) by unfold zb; rw [List.setIfInBounds_toArray, ← vbs_set], hset] at hst
  have HN := hide hst
  obtain ⟨old, hold⟩ : ∃ v, wr.cell? ⟨w.heap.size + 1 + 1, k, .none⟩ = some v := by
   have hl : k < ((wbs (qs 4 n)).take k ++ (List.replicate 32 0).drop k).length := by rw [List.length_append, List.length_take, List.length_drop, Hlen.out]; simp; omega
   exact ⟨_, (cell_of_row wr (w.heap.size + 1 + 1) k _ _ _ (on_blk_mul HXk.out)).trans (by unfold zb; rw [List.getElem?_toArray]; exact vbs_get _ k hl)⟩
  have hfr := frozen_of_row wr (w.heap.size + 1 + 1) k _ _ (on_blk_mul HXk.out)
  have hca := (cell_of_row wr w.heap.size (k / 8) A4 _ _ (on_blk_mul HXk.out.right.right)).trans (show A4[k / 8]? = some (lv (limb n (k / 8))) by rw [← HA.out]; exact lvs_get _ _ _ (qs_get 4 n _ hq4))
  have c1 : IntKind.i64.wrap ((k : Int) / 8) = ((k / 8 : Nat) : Int) := by rw [IntWalk.i64_in _ (by omega)]; omega
  have c2 : ((k : Int)).tmod 8 = ((k % 8 : Nat) : Int) := by rw [Int.tmod_eq_emod_of_nonneg (by omega)]; omega
  have c3 : IntKind.i64.wrap (8 * ((k % 8 : Nat) : Int)) = ((8 * (k % 8) : Nat) : Int) := by rw [IntWalk.i64_in _ (by omega)]; omega
  have q1 := wb_byte (limb n (k / 8)) (k % 8)
  have l1 := limb_lt n (k / 8)
  have hk4 : ((k / 8 : Nat) : Int) < 4 := by omega
  have hk32 : (k : Int) < 32 := by omega
  have h64 : 8 * (k % 8) < 64 := by omega
  rw [IntKind.wrap_u8] at q1
  have Q1 := hide q1
  clear hset hst q1 HXk
  generalize limb n (k / 8) = u at *
  generalize hbt : UInt8.ofNat (u / 2 ^ (8 * (k % 8))) = bt at *
  have Hbt := hide hbt
  clear hbt
  go_wp2_with fail
  rw [Q1.out]
  exact ⟨⟨k + 1, by omega, by simp, HN.out, HSk.out.setCell _ _⟩, by simp [intOf]; omega⟩
 obtain rfl : k = 32 := by omega
 have e4 : (wbs (qs 4 n)).take 32 ++ (List.replicate 32 0).drop 32 = wbs (qs 4 n) := by rw [List.take_of_length_le (by rw [Hlen.out]; omega), List.drop_of_length_le (by simp), List.append_nil]
 rw [e4] at HXk
 have gA := on_blk_mul HXk.out
 have gR := on_blk_mul HXk.out.right
 have HBw := hide (all_below HXk.out.right.right.right HSk.out)
 have hza := Hza.out
 have hone := Hone.out
 clear HXk e4 Hza Hone
 generalize hR4 : zb (wbs (qs 4 n)) = R4 at *
 have HR4 := hide hR4
 clear hR4
 go_wp2_with (first
  | (refine wS gR HsR.out hza hone ?_)
  | (refine wL gA hu32 HsR ?_))
 exact retE Tryz.results20 gR hu32 HsR.out rfl (by rw [HR4.out]) HBw.out (by omega)
theorem mul_acc (a b k : Nat) : (2 * (a * (b / 2 ^ (k + 1)) % O6) + 0) % O6 = a * (2 * (b / 2 ^ (k + 1))) % O6 := by
 rw [two_mod, Nat.add_zero]; congr 1; rw [← Nat.mul_assoc, Nat.mul_comm 2 a, Nat.mul_assoc]
theorem limb_bit (b k : Nat) : limb b (k / 64) / 2 ^ (k % 64) % 2 = b / 2 ^ k % 2 := by
 have h := testBit_limb b k
 rw [Nat.testBit_eq_decide_div_mod_eq, Nat.testBit_eq_decide_div_mod_eq, decide_eq_decide] at h
 have h1 := Nat.mod_lt (limb b (k / 64) / 2 ^ (k % 64)) (show 0 < 2 by decide)
 have h2 := Nat.mod_lt (b / 2 ^ k) (show 0 < 2 by decide)
 omega
theorem mulL_any (a b : Nat) (ha : a < O6) (hb : b < 18446744073709551616 ^ 4) (w : World) :
  Calls Tryz.prog 22 #[.agg (q4 a), .agg (q4 b)] w fun e w' => e = .returned (.agg (q4 (a * b % O6))) ∧ Below w.heap.size w w' := by
 have hu := Tryz.underlying51
 have hu6 := Tryz.underlying50
 have hz : ∀ w, (zeroValue 51).run Tryz.prog w = .ok (.agg (q4 0)) w := fun w => by rw [qz4]; kernel_rfl
 have Hs : Hid (∀ n, (Tryz.prog.info? 51).map (·.size) = some (q4 n).size) := hide fun n => by rw [q4_size]; kernel_rfl
 have h0 := ((((on_all w).alloc (.cells (q4 a) 51)).alloc (.cells (q4 b) 51)).alloc (.cells (q4 0) 51)).alloc (.cells (q4 0) 51)
 have hs0 := ((((Str.refl w).alloc (.cells (q4 a) 51)).alloc (.cells (q4 b) 51)).alloc (.cells (q4 0) 51)).alloc (.cells (q4 0) 51)
 simp only [World.size_alloc] at h0
 have H0 := hide h0
 have HS0 := hide hs0
 have Ha := hide ha
 have Hb := hide hb
 have HsA := hide (Hs.out a)
 clear h0 hs0 ha hb
 generalize hA : q4 a = A4 at *
 generalize hB : q4 b = B4 at *
 generalize hZ : q4 0 = Z4 at *
 have HA := hide hA
 have HB := hide hB
 have HZ := hide hZ
 clear hA hB hZ
 go_enter Tryz.func22, Tryz.ntmps22
 go_wp2_with fail
 generalize (((w.alloc (.cells A4 51)).alloc (.cells B4 51)).alloc (.cells Z4 51)).alloc (.cells Z4 51) = w1 at *
 go_loopw [6] (fun i wr => ∃ k : Nat, k ≤ 256 ∧ i = .int .i64 ((k : Int) - 1) ∧ (blk (w.heap.size + 1 + 1 + 1) (.cells (q4 (a * (b / 2 ^ k) % O6)) 51 (0, 0)) * (blk (w.heap.size + 1 + 1) (.cells Z4 51 (0, 0)) * (blk (w.heap.size + 1) (.cells B4 51 (0, 0)) * (blk w.heap.size (.cells A4 51 (0, 0)) * all w)))).on wr ∧ Str w wr) (fun i _ => (intOf i + 1).toNat)
 case atStart =>
  refine ⟨256, by omega, rfl, ?_, HS0.out⟩
  rw [Nat.div_eq_of_lt (show b < 2 ^ 256 from Hb.out), Nat.mul_zero, Nat.zero_mod, HZ.out]
  exact H0.out
 obtain ⟨k, hk, rfl, hX, hS2⟩ := hrel
 have HXk := hide hX
 have HSk := hide hS2
 clear hX hS2 H0 HS0
 cases k with
 | zero =>
  rw [Nat.pow_zero, Nat.div_one] at HXk
  have gA := on_blk_mul HXk.out
  have gR := on_blk_mul HXk.out.right
  have HBw := hide (all_below HXk.out.right.right.right.right HSk.out)
  have HsR := hide (Hs.out (a * b % O6))
  have hone : (q4 (a * b % O6)).all (·.oneCell') = true := lvs_one _
  have hza : Z4.size = (q4 (a * b % O6)).size := by rw [← HZ.out, q4_size, q4_size]
  clear HXk
  generalize hR4 : q4 (a * b % O6) = R4 at *
  have HR4 := hide hR4
  clear hR4
  go_wp2_with (first
   | (refine wS gR HsR.out hza hone ?_)
   | (refine wL gA hu HsR ?_))
  exact retE Tryz.results22 gR hu HsR.out rfl (by rw [HR4.out]) HBw.out (by omega)
 | succ k =>
  have hk4 : k / 64 < 4 := by omega
  have hacc : a * (b / 2 ^ (k + 1)) % O6 < O6 := Nat.mod_lt _ (by decide)
  have HD := hide (fun X => double_any (a * (b / 2 ^ (k + 1)) % O6) 0 hacc (by omega) X)
  rw [mul_acc] at HD
  have hacc2 : a * (2 * (b / 2 ^ (k + 1))) % O6 < O6 := Nat.mod_lt _ (by decide)
  have HAd := hide (fun X => addL_any (a * (2 * (b / 2 ^ (k + 1))) % O6) a hacc2 Ha.out X)
  have hpw := pow_step b k
  have Hadd := hide (show (a * (2 * (b / 2 ^ (k + 1))) % O6 + a) % O6 = a * (2 * (b / 2 ^ (k + 1)) + 1) % O6 by rw [Nat.mod_add_mod, Nat.mul_add a _ 1, Nat.mul_one])
  rw [Hadd.out, HA.out] at HAd
  have hbitv := limb_bit b k
  have Hpw := hide hpw
  have Hbitv := hide hbitv
  have gN := on_blk_mul HXk.out
  have hzN : (q4 (a * (b / 2 ^ (k + 1)) % O6)).size = (q4 (a * (2 * (b / 2 ^ (k + 1))) % O6)).size := by rw [q4_size, q4_size]
  have honeN : (q4 (a * (2 * (b / 2 ^ (k + 1))) % O6)).all (·.oneCell') = true := lvs_one _
  have HsN := hide (Hs.out (a * (b / 2 ^ (k + 1)) % O6))
  have HsN2 := hide (Hs.out (a * (2 * (b / 2 ^ (k + 1))) % O6))
  have HsN3 := hide (Hs.out (a * (2 * (b / 2 ^ (k + 1)) + 1) % O6))
  have hzN3 : (q4 (a * (2 * (b / 2 ^ (k + 1))) % O6)).size = (q4 (a * (2 * (b / 2 ^ (k + 1)) + 1) % O6)).size := by rw [q4_size, q4_size]
  have honeN3 : (q4 (a * (2 * (b / 2 ^ (k + 1)) + 1) % O6)).all (·.oneCell') = true := lvs_one _
  have c1 : IntKind.i64.wrap ((k : Int) / 64) = ((k / 64 : Nat) : Int) := by rw [IntWalk.i64_in _ (by omega)]; omega
  have c2 : ((k : Int)).tmod 64 = ((k % 64 : Nat) : Int) := by rw [Int.tmod_eq_emod_of_nonneg (by omega)]; omega
  have s1 : (((k + 1 : Nat) : Int) - 1) = (k : Int) := by omega
  have hk44 : ((k / 64 : Nat) : Int) < 4 := by omega
  have lu := limb_lt b (k / 64)
  have hlb : A4 = A4 ∧ B4[k / 64]? = some (lv (limb b (k / 64))) := ⟨rfl, by rw [← HB.out]; exact lvs_get _ _ _ (qs_get 4 b _ hk4)⟩
  have Hlb := hide hlb.2
  rw [s1]
  clear s1 hacc hacc2 hpw hbitv Hadd hlb
  generalize a * (b / 2 ^ (k + 1)) % O6 = N1 at *
  generalize hN2 : a * (2 * (b / 2 ^ (k + 1))) % O6 = N2 at *
  generalize hN3 : a * (2 * (b / 2 ^ (k + 1)) + 1) % O6 = N3 at *
  have HN2 := hide hN2
  have HN3 := hide hN3
  generalize b / 2 ^ (k + 1) = bh at *
  generalize hbk : b / 2 ^ k = bk at *
  have Hbk := hide hbk
  clear hN2 hN3 hbk
  generalize limb b (k / 64) = u at *
  generalize q4 N1 = Q1 at *
  generalize hQ2 : q4 N2 = Q2 at *
  generalize hQ3 : q4 N3 = Q3 at *
  have HQ2 := hide hQ2
  have HQ3 := hide hQ3
  clear hQ2 hQ3
  have lN : w.heap.size + 1 + 1 + 1 < wr.heap.size := (Array.getElem?_eq_some_iff.1 gN).1
  go_wp2_with (refine wL gN hu HsN ?_)
  refine (HD.out wr).mono ?_
  rintro e wd ⟨rfl, hBd⟩
  have hXd := HXk.out.below hBd
  have gNd := on_blk_mul hXd
  have hXd2 := SP.on.setRow hXd Q2
  have HXd2 := hide hXd2
  have HSd2 := hide ((HSk.out.trans (Str.below hBd)).setRow (w.heap.size + 1 + 1 + 1) Q2)
  clear hXd hXd2 hBd gN HXk HSk lN
  have hcl := (cell_of_row (wd.setRow (w.heap.size + 1 + 1 + 1) Q2) (w.heap.size + 1) (k / 64) B4 _ _ (on_blk_mul HXd2.out.right.right)).trans Hlb.out
  have gQ := on_blk_mul HXd2.out
  have gA := on_blk_mul HXd2.out.right.right.right
  have e1 : ((u : Nat) : Int) / 2 ^ (k % 64) = ((u / 2 ^ (k % 64) : Nat) : Int) := by rw [Int.natCast_ediv, Int.natCast_pow]; rfl
  by_cases hbit : bk % 2 = 1
  ·have hv : (((u : Nat) : Int) / 2 ^ (k % 64)).tmod 2 = 1 := by
    rw [e1, Int.tmod_eq_emod_of_nonneg (Int.natCast_nonneg _)]
    have := Hbitv.out
    omega
   have Hfin := hide (show N3 = a * bk % O6 by rw [← HN3.out, Hpw.out, hbit])
   clear hbit e1
   go_wp2_with (first
    | (refine wS gNd HsN2.out hzN honeN ?_)
    | (refine wL gQ hu HsN2 ?_)
    | (refine wL gA hu HsA ?_))
   refine (HAd.out _).mono ?_
   rintro e we ⟨rfl, hBe⟩
   have hXe := HXd2.out.below hBe
   have gNe := on_blk_mul hXe
   have HXe2 := hide (SP.on.setRow hXe Q3)
   have HSe2 := hide ((HSd2.out.trans (Str.below hBe)).setRow (w.heap.size + 1 + 1 + 1) Q3)
   clear hXe hBe hcl gQ gA HXd2 HSd2 gNd
   go_wp2_with (refine wS gNe HsN3.out hzN3 honeN3 ?_)
   refine ⟨⟨k, by omega, rfl, ?_, HSe2.out⟩, by simp [intOf]⟩
   rw [Hbk.out, ← Hfin.out, HQ3.out]
   exact HXe2.out
  have hv : (((u : Nat) : Int) / 2 ^ (k % 64)).tmod 2 = 0 := by
   rw [e1, Int.tmod_eq_emod_of_nonneg (Int.natCast_nonneg _)]
   have := Hbitv.out
   omega
  have Hfin := hide (show N2 = a * bk % O6 by rw [← HN2.out, Hpw.out, show bk % 2 = 0 by omega, Nat.add_zero])
  clear hbit e1
  go_wp2_with (refine wS gNd HsN2.out hzN honeN ?_)
  refine ⟨⟨k, by omega, rfl, ?_, HSd2.out⟩, by simp [intOf]⟩
  rw [Hbk.out, ← Hfin.out, HQ2.out]
  exact HXd2.out
end Go.Proofs.YtjdebgbiockafaaGreatDoor
