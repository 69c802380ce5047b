/- The law ScalarBytes: which bytes are numbers', and the bytes of numbers; bytes of any length modulo the order. -/
import Derived.Test.YtgkofpfjbjnhfaaDoorScLaw
import Derived.Test.YtgkofpfjbjnhfaaDoorCards
import Derived.Test.YtgkofpfjbjnhfaaDoorTie
import Derived.Deep.DeepHandedRow
namespace Go.Proofs.YtgkofpfjbjnhfaaDoor
open Go.ChangeShapes Go.WideShapes Go.ChangeAt Go.RowKit
set_option linter.unusedVariables false
set_option linter.unusedSimpArgs false

theorem wpList_load_row_g {P : Program} {ops : Array Oper} {rest : List Oper} {o : Oper} {a : Act} {w : World} {Q : Exit → Act → World → Prop} (hw : Region.wanted o (yielded ops a.tmps) = true) (ty : TypeId) (x : Operand) (ho : o.op = .load ty x)
    (g : Nat) (hx : a.eval x = .pointer (some ⟨g, 0, Option.none⟩)) (t : TypeId) (cs : Array Value) (fr : Nat × Nat) (d : TypeDesc) (hg : w.heap[g]? = some (.cells cs t fr))
    (hu : P.underlying ty = some d) (hd : (match d with | .struct _ | .array _ _ => true | _ => false) = true) (hi : (P.info? ty).map (·.size) = some cs.size)
    (h : wpList P ops Q rest (a.put o.dst (.agg cs)) w) : wpList P ops Q (o :: rest) a w :=
  wpList_step fun K hK => by rw [if_pos hw]; exact wp_load_row ty x ho g hx t cs fr d hg hu hd hi (hK _ _ h)
theorem wpList_neq_q4 {ops : Array Oper} {rest : List Oper} {o : Oper} {a : Act} {w : World} {Q : Exit → Act → World → Prop} (hw : Region.wanted o (yielded ops a.tmps) = true) (t rt : TypeId) (x y : Operand) (ho : o.op = .binOp .neq t x y rt)
    (hgd : Tryd.prog.eqGuardType Tryd.prog.depth t = false) (ht : Tryd.prog.underlying t = some (.array 4 22))
    (m n : Nat) (hx : a.eval x = .agg (q4 m)) (hy : a.eval y = .agg (q4 n)) (hm : m < 18446744073709551616 ^ 4) (hn : n < 18446744073709551616 ^ 4) (b : Bool) (hb : (!decide (m = n)) = b)
    (h : wpList Tryd.prog ops Q rest (a.put o.dst (.bool b)) w) : wpList Tryd.prog ops Q (o :: rest) a w :=
  wpList_step fun K hK => by
    rw [if_pos hw]
    have he := eq_q4 w 9998 t ht m n hm hn
    have hr : (execOp a.eval o).run Tryd.prog w = .ok (.value (.bool b)) w := by
      unfold execOp
      rw [ho]
      simp only [hx, hy, Sem.run_bind, run_eqGuard_agg w _ _ _ _ _ _ hgd, run_neq_struct, he, Result.andThen_ok]
      rw [hb]
      rfl
    unfold Oper.wp
    simp only [hr]
    exact hK _ _ h
/-- a limb as far as it was put together, from the highest byte on -/
def stL (V k q : Nat) : Nat := limb V q / 2 ^ (8 * min 8 (k - 8 * q))
def stS (V k : Nat) : List Nat := (List.range 4).map (stL V k)
theorem stS_len (V k : Nat) : (stS V k).length = 4 := by simp [stS]
theorem stS_get (V k q : Nat) (h : q < 4) : (stS V k)[q]? = some (stL V k q) := by simp [stS, h]
theorem stS_0 (V : Nat) : stS V 0 = qs 4 V := by
  unfold stS qs
  apply List.map_congr_left
  intro q _
  unfold stL
  rw [Nat.zero_sub, Nat.min_zero, Nat.mul_zero, Nat.pow_zero, Nat.div_one]
theorem stS_32 (V : Nat) : stS V 32 = qs 4 0 := by
  unfold stS qs
  apply List.map_congr_left
  intro q hq
  have hq : q < 4 := List.mem_range.1 hq
  unfold stL
  rw [Nat.min_eq_left (by omega), Nat.div_eq_of_lt (limb_lt V q)]
  unfold limb
  rw [Nat.zero_div, Nat.zero_mod]
theorem stL_other (V k q : Nat) (h : q ≠ k / 8) : stL V k q = stL V (k + 1) q := by
  unfold stL
  rcases Nat.lt_or_gt_of_ne h with h | h
  · rw [Nat.min_eq_left (by omega), Nat.min_eq_left (by omega)]
  · rw [show k - 8 * q = 0 by omega, show k + 1 - 8 * q = 0 by omega]
theorem stS_set (V k : Nat) (hk : k < 32) : (stS V (k + 1)).set (k / 8) (stL V k (k / 8)) = stS V k := by
  apply List.ext_getElem?
  intro i
  rw [List.getElem?_set]
  split
  · rename_i e
    subst e
    rw [if_pos (by rw [stS_len]; omega), stS_get V k _ (by omega)]
  · rename_i e
    by_cases hi : i < 4
    · rw [stS_get V _ i hi, stS_get V _ i hi, stL_other V k i (fun h => e h.symm)]
    · rw [List.getElem?_eq_none (by rw [stS_len]; omega), List.getElem?_eq_none (by rw [stS_len]; omega)]
theorem byte_of_limb (l : List UInt8) (k : Nat) (h : k < l.length) : limb (leN l) (k / 8) / 2 ^ (8 * (k % 8)) % 256 = l[k].toNat := by
  have h1 := leN_at l k h
  rw [show l.getD k 0 = l[k] by simp [List.getD, h]] at h1
  rw [← h1]
  have h8 : k % 8 < 8 := Nat.mod_lt _ (by decide)
  have e : (256 : Nat) ^ k = 18446744073709551616 ^ (k / 8) * 2 ^ (8 * (k % 8)) := by
    rw [show (18446744073709551616 : Nat) = 256 ^ 8 from rfl, show (2 : Nat) ^ (8 * (k % 8)) = 256 ^ (k % 8) by rw [Nat.pow_mul], ← Nat.pow_mul, ← Nat.pow_add, Nat.div_add_mod]
  rw [e, ← Nat.div_div_eq_div_mul]
  unfold limb
  generalize leN l / 18446744073709551616 ^ (k / 8) = n
  generalize k % 8 = r at *
  have e2 : (18446744073709551616 : Nat) = 2 ^ (8 * r) * 2 ^ (64 - 8 * r) := by
    rw [← Nat.pow_add, show 8 * r + (64 - 8 * r) = 64 by omega]
  have hd : (256 : Nat) ∣ 2 ^ (64 - 8 * r) := by
    rw [show (256 : Nat) = 2 ^ 8 from rfl]; exact Nat.pow_dvd_pow 2 (by omega)
  rw [e2, Nat.mod_mul_right_div_self, Nat.mod_mod_of_dvd _ hd]
theorem or_byte (x b : Nat) (hb : b < 256) : x * 256 ||| b = x * 256 + b := by
  rw [show x * 256 = x <<< 8 by rw [Nat.shiftLeft_eq], ← Nat.shiftLeft_add_eq_or_of_lt (by omega)]
theorem stL_step (l : List UInt8) (k : Nat) (hk : k < 32) (h : k < l.length) : stL (leN l) k (k / 8) = stL (leN l) (k + 1) (k / 8) * 256 + l[k].toNat ∧ stL (leN l) (k + 1) (k / 8) * 256 < 18446744073709551616 := by
  have hb := byte_of_limb l k h
  unfold stL
  rw [show min 8 (k - 8 * (k / 8)) = k % 8 by omega, show min 8 (k + 1 - 8 * (k / 8)) = k % 8 + 1 by omega]
  have hl := limb_lt (leN l) (k / 8)
  generalize limb (leN l) (k / 8) = n at *
  rw [← hb]
  generalize k % 8 = r at *
  have e : n / 2 ^ (8 * (r + 1)) = n / 2 ^ (8 * r) / 256 := by
    rw [Nat.div_div_eq_div_mul, show (256 : Nat) = 2 ^ 8 from rfl, ← Nat.pow_add, show 8 * r + 8 = 8 * (r + 1) by omega]
  rw [e]
  have := Nat.div_le_self n (2 ^ (8 * r))
  generalize n / 2 ^ (8 * r) = m at *
  omega
theorem wbs_leN (l : List UInt8) (h : l.length = 32) : wbs (qs 4 (leN l)) = l := by
  have hl := wbs_len (qs 4 (leN l))
  rw [qs_len] at hl
  refine leN_inj _ _ (by rw [hl, h]) (leN_qs 4 _ ?_)
  have := leN_lt l
  rwa [h] at this

set_option maxRecDepth 100000 in
set_option maxHeartbeats 8000000 in
theorem walk_ScalarBytes (w : World) (hL : laidMetH Tryd.prog Rows.scalarBytesRow.laid w) (l : List UInt8) (hl : l.length = 32) (v : Value) (long : List UInt8) (hv : IsBytes w v long) :
    Calls Tryd.prog 9 #[.agg (zb l), v] w fun e w' => e = .returned (.bool true) ∧ Below w.heap.size w w' := by
  have hO : TabO w := tabO_of_laid hL
  clear hL
  have hu := Tryd.underlying23
  have hun := Tryd.underlying58
  have hu6 := Tryd.underlying22
  have hu8 := Tryd.underlying5
  have hu32 := Tryd.underlying48
  have hz : ∀ w, (zeroValue 23).run Tryd.prog w = .ok (.agg (q4 0)) w := fun w => by rw [qz4]; kernel_rfl
  have hzn : ∀ w, (zeroValue 58).run Tryd.prog w = .ok (.agg (q4 0)) w := fun w => by rw [qz4]; kernel_rfl
  have hb0 : ∀ w, (Instr.build 58 #[]).run Tryd.prog w = .ok (.agg (q4 0)) w := fun w => by rw [qz4]; kernel_rfl
  have Hs : Hid (∀ n, (Tryd.prog.info? 23).map (·.size) = some (q4 n).size) := hide fun n => by rw [q4_size]; kernel_rfl
  have Hsn : Hid (∀ n, (Tryd.prog.info? 58).map (·.size) = some (q4 n).size) := hide fun n => by rw [q4_size]; kernel_rfl
  have hs8 : (Tryd.prog.info? 22).map (·.size) = some 1 := by kernel_rfl
  have HsB : Hid ((Tryd.prog.info? 48).map (·.size) = some (zb l).size) := hide (by rw [show (zb l).size = 32 by simp [zb, vbs, hl]]; kernel_rfl)
  have Hgd : Hid (Tryd.prog.eqGuardType Tryd.prog.depth 58 = false) := hide (by kernel_rfl)
  have Hgd32 : Hid (Tryd.prog.eqGuardType Tryd.prog.depth 48 = false) := hide (by kernel_rfl)
  have h0 := (on_all w).alloc (.cells (zb l) 48)
  have hs0 := (Str.refl w).alloc (.cells (zb l) 48)
  have H0 := hide h0
  have HS0 := hide hs0
  have HO := hide hO
  have Hl := hide hl
  have HV0 := hide hv
  have HB0 := hide (all_below h0.right hs0)
  obtain ⟨va, vc, rfl, hvc, hvm, _, _⟩ := hv
  unfold maxLen at hvm
  have hlenI : ((long.length : Nat) : Int) ≤ 9223372036854775807 := by omega
  clear h0 hs0 hO hl
  go_enter Tryd.func9, Tryd.ntmps9
  go_wp2_with fail
  have Hcell : Hid (∀ X (k : Nat) (x : UInt8), l[k]? = some x → (blk w.heap.size (.cells (zb l) 48 (0, 0)) * all w).on X → X.cell? ⟨w.heap.size, k, Option.none⟩ = some (vb x)) := hide fun X k x hx hX => by
    rw [cell_of_row X w.heap.size k _ _ _ (on_blk_mul hX)]
    simp [zb, vbs, hx]
  have HEb : Hid (∀ X, (Op.equalIn 10000 48 (.agg (zb l)) (.agg (zb l))).run Tryd.prog X = .ok (decide (l = l)) X) := hide (fun X => run_eq_bytes (P := Tryd.prog) X 9998 48 5 32 hu32 hu8 (by kernel_rfl) l l Hl.out Hl.out)
  have HWL := hide (wbs_leN l Hl.out)
  generalize hZb : zb l = Zb at *
  have HZb := hide hZb
  clear hZb
  generalize w.alloc (.cells Zb 48) = w1 at *
  refine (lives06_any _ (HO.out.below HB0.out)).mono ?_
  rintro e w2 ⟨rfl, hB2⟩
  have H2 := hide (H0.out.below hB2)
  have HS2 := hide (HS0.out.trans (Str.below hB2))
  have HB2 := hide (HB0.out.trans (hB2.mono HB0.out.size))
  clear hB2 H0 HS0 HB0
  by_cases hlen : long.length ≤ 200
  · have hc : ¬ ((long.length : Nat) : Int) > 200 := by omega
    go_wp2_with fail
    have h3 := H2.out.alloc (.cells (q4 0) 23)
    have hs3 := HS2.out.alloc (.cells (q4 0) 23)
    obtain ⟨g, hg⟩ : ∃ g, g = w2.heap.size := ⟨_, rfl⟩
    rw [← hg] at h3 ⊢
    have H3 := hide h3
    have HS3 := hide hs3
    clear h3 hs3 H2 HS2 hg
    have HVl := hide (show leN l < 18446744073709551616 ^ 4 by have := leN_lt l; rw [Hl.out] at this; exact this)
    generalize w2.alloc (.cells (q4 0) 23) = w3 at *
    go_loopw [6] (fun i wr => ∃ k : Nat, k ≤ 32 ∧ i = .int .i64 ((k : Int) - 1) ∧ (blk g (.cells (lvs (stS (leN l) k)) 23 (0, 0)) * (blk w.heap.size (.cells Zb 48 (0, 0)) * all w)).on wr ∧ Str w wr) (fun i _ => (intOf i + 1).toNat)
    case atStart =>
      refine ⟨32, by omega, rfl, ?_, HS3.out⟩
      rw [stS_32]
      exact H3.out
    case round =>
      obtain ⟨k, hk, rfl, hX, hS2⟩ := hrel
      have HXk := hide hX
      have HSk := hide hS2
      clear hX hS2 H3 HS3
      cases k with
      | zero =>
        rw [stS_0, show lvs (qs 4 (leN l)) = q4 (leN l) from rfl] at HXk
        have HBw := hide (all_below HXk.out.right.right HSk.out)
        have hgB := on_blk_mul HXk.out.right
        have Hd := hide (decode_any l Hl.out wr (HO.out.below HBw.out))
        rw [HZb.out] at Hd
        go_wp2_with (refine wpList_load_row rfl _ _ rfl w.heap.size rfl _ Zb _ _ hgB hu32 rfl HsB.out ?_)
        refine Hd.out.mono ?_
        rintro e w4 ⟨rfl, hB4⟩
        have H4 := hide (HXk.out.below hB4)
        have HS4 := hide (HSk.out.trans (Str.below hB4))
        clear hB4 HXk HSk HBw hgB Hd
        have h5 := H4.out.alloc (.cells (q4 0) 58)
        have hs5 := HS4.out.alloc (.cells (q4 0) 58)
        have gN := on_blk_mul h5
        by_cases hlo : leN l < O6
        · have hdd : decN l = .tuple #[.agg (q4 (leN l)), .int .i64 0] := by unfold decN; rw [if_pos hlo]
          rw [hdd]
          have H6 := hide (SP.on.setRow h5 (q4 (leN l)))
          have HS6 := hide (hs5.setRow w4.heap.size (q4 (leN l)))
          have hone : (q4 (leN l)).all (·.oneCell') = true := lvs_one _
          have hza : (q4 0).size = (q4 (leN l)).size := by rw [q4_size, q4_size]
          have HsN := hide (Hsn.out (leN l))
          have HsN4 := hide (Hs.out (leN l))
          have Hlo := hide hlo
          have Henc := hide (fun X => enc_any (leN l) X)
          rw [HWL.out, HZb.out] at Henc
          have HE := hide (fun X => eq_q4 X 9998 58 hun (leN l) (leN l) HVl.out HVl.out)
          clear h5 hs5 hdd hlo
          generalize hR4 : q4 (leN l) = R4 at *
          have HR4 := hide hR4
          clear hR4
          go_wp2_with (refine wpList_store_row rfl _ _ _ rfl w4.heap.size R4 rfl rfl _ _ gN HsN.out hza hone ?_)
          generalize (w4.alloc (.cells (q4 0) 58)).setRow w4.heap.size R4 = w6 at *
          generalize w4.heap.size = g6 at *
          have HOw := hide (HO.out.below (all_below H6.out.right.right.right HS6.out))
          have HVw := hide (HV0.out.below (all_below H6.out.right.right.right HS6.out))
          go_wp2_with fail
          refine (reduce_any _ long _ HVw.out HOw.out (by omega)).mono ?_
          rintro e w7 ⟨rfl, hB7⟩
          have H7 := hide (H6.out.below hB7)
          have HS7 := hide (HS6.out.trans (Str.below hB7))
          have HVw7 := hide (HVw.out.below hB7)
          clear hB7 H6 HS6
          go_wp2_with fail
          refine (rreduce_any _ long _ HVw7.out (by omega)).mono ?_
          rintro e w8 ⟨rfl, hB8⟩
          have H8 := hide (H7.out.below hB8)
          have HS8 := hide (HS7.out.trans (Str.below hB8))
          clear hB8 H7 HS7
          have hlm : leN long % O6 < 18446744073709551616 ^ 4 := Nat.lt_trans (Nat.mod_lt _ (by decide)) (by decide)
          have gNn := on_blk_mul H8.out.right
          go_wp2_with (first
            | (refine wpList_neq_q4 rfl _ _ _ _ rfl Hgd.out hun (leN long % O6) (leN long % O6) rfl rfl hlm hlm false (by simp) ?_)
            | (refine wpList_load_row rfl _ _ rfl g rfl _ R4 _ _ gNn hu rfl HsN4.out ?_))
          have Hbl := hide (belowL_any (leN l) HVl.out w8)
          rw [HR4.out, decide_eq_true Hlo.out] at Hbl
          refine Hbl.out.mono ?_
          rintro e w9 ⟨rfl, hB9⟩
          have H9 := hide (H8.out.below hB9)
          have HS9 := hide (HS8.out.trans (Str.below hB9))
          clear hB9 H8 HS8 gNn Hbl gN
          go_wp2_with fail
          refine wp_region_vs [isV (.int .i64 0), isV (.bool true), isV (.bool true), isV (.agg R4), isV (.agg R4), isV (.bool true), isV (.bool true), isV (.bool true), isV (.agg R4), isV (.agg Zb), isV (.agg Zb), isV (.bool true), isV (.bool true), isV (.bool true)]
            (by kernel_rfl) (by kernel_rfl) rfl ?keep ?todo ?rest
          case keep => exact ⟨Keep.isV _, Keep.isV _, Keep.isV _, Keep.isV _, Keep.isV _, Keep.isV _, Keep.isV _, Keep.isV _, Keep.isV _, Keep.isV _, Keep.isV _, Keep.isV _, Keep.isV _, Keep.isV _, trivial⟩
          case todo =>
            refine ⟨?_, ?_, ?_, ?_, ?_, ?_, ?_, ?_, ?_, ?_, ?_, ?_, ?_, ?_, trivial⟩
            · intro ev X hT hb hk hf
              have e0 : ev (.tmp 8) = .int .i64 0 := hk.1
              exact OpOk.move rfl e0 ⟨rfl, Stay.refl _⟩
            · intro ev X hT hb hk hf
              have e0 : ev (.tmp 54) = .int .i64 0 := hf.1
              exact OpOk.run (v := .bool true) (W' := X) (by simp [execOp, e0, hb.1, go_sem]) ⟨rfl, Stay.refl _⟩
            · intro ev X hT hb hk hf
              have e0 : ev (.tmp 55) = .bool true := hf.1
              exact OpOk.move rfl e0 ⟨rfl, Stay.refl _⟩
            · intro ev X hT hb hk hf
              refine ⟨true, hf.1, fun _ => ?_, fun h => (h rfl).elim⟩
              have e0 : ev (.tmp 7) = .pointer (some ⟨g6, 0, Option.none⟩) := hk.1
              exact OpOk.load_row _ _ rfl _ e0 _ R4 (0, 0) _ (on_blk_mul (H9.out.below hT)) hun rfl HsN.out ⟨rfl, Stay.refl _⟩
            · intro ev X hT hb hk hf
              refine ⟨true, hf.1, fun _ => ?_, fun h => (h rfl).elim⟩
              have e0 : ev (.tmp 5) = .pointer (some ⟨g, 0, Option.none⟩) := hk.1
              exact OpOk.load_row _ _ rfl _ e0 _ R4 (0, 0) _ (on_blk_mul (H9.out.below hT).right) hu rfl HsN4.out ⟨rfl, Stay.refl _⟩
            · intro ev X hT hb hk hf
              refine ⟨true, hf.2.2.1, fun _ => ?_, fun h => (h rfl).elim⟩
              have e0 : ev (.tmp 57) = .agg R4 := hf.1
              have e1 : ev (.tmp 58) = .agg R4 := hf.2.1
              exact OpOk.run (v := .bool true) (W' := X) (by
                unfold execOp
                simp only [e0, e1, Sem.run_bind, run_eqGuard_agg X _ _ _ _ _ _ Hgd.out, run_eql_struct, HE.out X, Result.andThen_ok]
                simp) ⟨rfl, Stay.refl _⟩
            · intro ev X hT hb hk hf
              have e0 : ev (.tmp 56) = .bool true := hf.1
              have e1 : ev (.tmp 59) = .bool true := hf.2.1
              exact OpOk.run (v := .bool true) (W' := X) (by simp [execOp, e0, e1, hb, hb.1, hb.2.1, hb.2.2, go_sem]) ⟨rfl, Stay.refl _⟩
            · intro ev X hT hb hk hf
              have e0 : ev (.tmp 60) = .bool true := hf.1
              exact OpOk.move rfl e0 ⟨rfl, Stay.refl _⟩
            · intro ev X hT hb hk hf
              refine ⟨true, hf.1, fun _ => ?_, fun h => (h rfl).elim⟩
              have e0 : ev (.tmp 7) = .pointer (some ⟨g6, 0, Option.none⟩) := hk.1
              exact OpOk.load_row _ _ rfl _ e0 _ R4 (0, 0) _ (on_blk_mul (H9.out.below hT)) hun rfl HsN.out ⟨rfl, Stay.refl _⟩
            · intro ev X hT hb hk hf
              refine ⟨true, hf.2.1, fun _ => ?_, fun h => (h rfl).elim⟩
              have e0 : ev (.tmp 62) = .agg R4 := hf.1
              refine OpOk.enters (f := 49) (args := #[.agg R4]) (W' := X) (by simp [execOp, resolve, invoke, e0, hb.1, hb.2.1, go_sem]) ((Henc.out X).mono ?_)
              rintro e _ ⟨rfl, hB⟩
              exact ⟨_, rfl, rfl, hB⟩
            · intro ev X hT hb hk hf
              refine ⟨true, hf.1, fun _ => ?_, fun h => (h rfl).elim⟩
              have e0 : ev (.tmp 2) = .pointer (some ⟨w.heap.size, 0, Option.none⟩) := hk.1
              exact OpOk.load_row _ _ rfl _ e0 _ Zb (0, 0) _ (on_blk_mul (H9.out.below hT).right.right) hu32 rfl HsB.out ⟨rfl, Stay.refl _⟩
            · intro ev X hT hb hk hf
              refine ⟨true, hf.2.2.1, fun _ => ?_, fun h => (h rfl).elim⟩
              have e0 : ev (.tmp 63) = .agg Zb := hf.1
              have e1 : ev (.tmp 64) = .agg Zb := hf.2.1
              exact OpOk.run (v := .bool true) (W' := X) (by
                unfold execOp
                simp only [e0, e1, Sem.run_bind, run_eqGuard_agg X _ _ _ _ _ _ Hgd32.out, run_eql_struct, HEb.out X, Result.andThen_ok]
                simp) ⟨rfl, Stay.refl _⟩
            · intro ev X hT hb hk hf
              have e0 : ev (.tmp 61) = .bool true := hf.1
              have e1 : ev (.tmp 65) = .bool true := hf.2.1
              exact OpOk.run (v := .bool true) (W' := X) (by simp [execOp, e0, e1, hb, hb.1, hb.2.1, hb.2.2, go_sem]) ⟨rfl, Stay.refl _⟩
            · intro ev X hT hb hk hf
              have e0 : ev (.tmp 66) = .bool true := hf.1
              exact OpOk.assign rfl e0 ⟨rfl, Stay.refl _⟩
          case rest =>
            intro X5 hT5
            rintro _ - _ - _ - _ - _ - _ - _ - _ - _ - _ - _ - _ - _ - _ rfl
            have HB5 := hide (all_below (H9.out.below hT5).right.right.right (HS9.out.trans (Str.below hT5)))
            clear hT5
            go_wp2
            refine Rest.done ?_
            go_wp2_with fail
            go_ret
            exact ⟨rfl, HB5.out⟩
        · have hdd : decN l = .tuple #[.agg (q4 0), .int .i64 7] := by unfold decN; rw [if_neg hlo]
          rw [hdd]
          have H6 := hide (SP.on.setRow h5 (q4 0))
          have HS6 := hide (hs5.setRow w4.heap.size (q4 0))
          have hone : (q4 0).all (·.oneCell') = true := lvs_one _
          have HsN := hide (Hsn.out 0)
          have HsN4 := hide (Hs.out (leN l))
          have Hlo := hide hlo
          clear h5 hs5 hdd hlo
          generalize hR4 : q4 (leN l) = R4 at *
          have HR4 := hide hR4
          clear hR4
          go_wp2_with (refine wpList_store_row rfl _ _ _ rfl w4.heap.size (q4 0) rfl rfl _ _ gN HsN.out rfl hone ?_)
          generalize (w4.alloc (.cells (q4 0) 58)).setRow w4.heap.size (q4 0) = w6 at *
          generalize w4.heap.size = g6 at *
          have HOw := hide (HO.out.below (all_below H6.out.right.right.right HS6.out))
          have HVw := hide (HV0.out.below (all_below H6.out.right.right.right HS6.out))
          go_wp2_with fail
          refine (reduce_any _ long _ HVw.out HOw.out (by omega)).mono ?_
          rintro e w7 ⟨rfl, hB7⟩
          have H7 := hide (H6.out.below hB7)
          have HS7 := hide (HS6.out.trans (Str.below hB7))
          have HVw7 := hide (HVw.out.below hB7)
          clear hB7 H6 HS6
          go_wp2_with fail
          refine (rreduce_any _ long _ HVw7.out (by omega)).mono ?_
          rintro e w8 ⟨rfl, hB8⟩
          have H8 := hide (H7.out.below hB8)
          have HS8 := hide (HS7.out.trans (Str.below hB8))
          clear hB8 H7 HS7
          have hlm : leN long % O6 < 18446744073709551616 ^ 4 := Nat.lt_trans (Nat.mod_lt _ (by decide)) (by decide)
          have gNn := on_blk_mul H8.out.right
          go_wp2_with (first
            | (refine wpList_neq_q4 rfl _ _ _ _ rfl Hgd.out hun (leN long % O6) (leN long % O6) rfl rfl hlm hlm false (by simp) ?_)
            | (refine wpList_load_row rfl _ _ rfl g rfl _ R4 _ _ gNn hu rfl HsN4.out ?_))
          have Hbl := hide (belowL_any (leN l) HVl.out w8)
          rw [HR4.out, decide_eq_false Hlo.out] at Hbl
          refine Hbl.out.mono ?_
          rintro e w9 ⟨rfl, hB9⟩
          have H9 := hide (H8.out.below hB9)
          have HS9 := hide (HS8.out.trans (Str.below hB9))
          have gA9 := on_blk_mul H9.out
          have HB9 := hide (all_below H9.out.right.right.right HS9.out)
          clear hB9 H8 HS8 gNn Hbl gN
          go_wp2_with (first
            | (refine wpList_load_row_g rfl _ _ rfl g6 rfl _ (q4 0) _ _ gA9 hun rfl HsN.out ?_)
            | (refine wpList_eq_q4 rfl _ _ _ _ rfl Hgd.out hun 0 0 rfl rfl (by decide) (by decide) true rfl ?_))
          go_ret
          exact ⟨rfl, HB9.out⟩
      | succ k =>
        have hk32 : k < 32 := by omega
        have hkl : k < l.length := by rw [Hl.out]; exact hk32
        have hq4 : k / 8 < 4 := by omega
        obtain ⟨hst, hov⟩ := stL_step l k hk32 hkl
        have hset := stS_set (leN l) k hk32
        have h4 : (lvs (stS (leN l) (k + 1)))[k / 8]? = some (lv (stL (leN l) (k + 1) (k / 8))) := lvs_get _ _ _ (stS_get _ _ _ hq4)
        have hx8 := UInt8.toNat_lt l[k]
        have Hcx : Hid (∀ X, (blk w.heap.size (.cells Zb 48 (0, 0)) * all w).on X → X.cell? ⟨w.heap.size, k, Option.none⟩ = some (vb l[k])) := hide fun X hX => Hcell.out X k l[k] (by simp [hkl]) hX
        have c5 : IntKind.u64.wrap ((l[k].toNat : Nat) : Int) = ((l[k].toNat : Nat) : Int) := wrapS _ (by omega)
        have hor := or_byte (stL (leN l) (k + 1) (k / 8)) l[k].toNat hx8
        rw [← hst] at hor
        obtain ⟨P1, hP1⟩ : ∃ P1, P1 = lvs (stS (leN l) (k + 1)) := ⟨_, rfl⟩
        obtain ⟨P2, hP2⟩ : ∃ P2, P2 = lvs (stS (leN l) k) := ⟨_, rfl⟩
        have HP2 := hide hP2
        have Hp2 := hide (show P1.setIfInBounds (k / 8) (lv (stL (leN l) k (k / 8))) = P2 by rw [hP1, hP2, lvs_set, hset])
        have Hps := hide (show P1.size = 4 by rw [hP1, lvs_size, stS_len])
        rw [← hP1] at h4 HXk
        have H4 := hide h4
        have q1 : IntKind.u64.wrap (((stL (leN l) (k + 1) (k / 8) : Nat) : Int) * 256) = ((stL (leN l) (k + 1) (k / 8) * 256 : Nat) : Int) := by
          rw [show ((stL (leN l) (k + 1) (k / 8) : Nat) : Int) * 256 = ((stL (leN l) (k + 1) (k / 8) * 256 : Nat) : Int) by omega]
          exact wrapS _ hov
        have q2 : bits .or .u64 ((stL (leN l) (k + 1) (k / 8) * 256 : Nat) : Int) ((l[k].toNat : Nat) : Int) = ((stL (leN l) k (k / 8) : Nat) : Int) := (u64_or_nat _ _ hov (by omega)).trans (congrArg Int.ofNat hor)
        have Q1 := hide q1
        have Q2 := hide q2
        have c1 : IntKind.i64.wrap ((k : Int) / 8) = ((k / 8 : Nat) : Int) := by rw [IntWalk.i64_in _ (by omega)]; omega
        have s1 : (((k + 1 : Nat) : Int) - 1) = (k : Int) := by omega
        rw [s1]
        clear s1 q1 q2 h4 hset hst hov hor hP1 hP2
        generalize stL (leN l) (k + 1) (k / 8) = u at *
        generalize stL (leN l) k (k / 8) = r at *
        generalize u * 256 = sh at *
        generalize l[k] = x at *
        have hk4 : ((k / 8 : Nat) : Int) < 4 := by omega
        have hk32' : (k : Int) < 32 := by omega
        generalize hqk : k / 8 = q at *
        have Hqk := hide hqk
        clear hqk
        go_wp2_with fail
        refine Multi.wp_region_multi [13] [13] [isV (.int .i64 (k : Int)), isV (.int .i64 ((q : Nat) : Int)), isV (.int .i64 (k : Int)), isV (.int .i64 ((q : Nat) : Int)), isV (.pointer (some ⟨g, q, Option.none⟩)), isV (lv u), isV (lv sh), isV (.int .i64 (k : Int)), isV (.pointer (some ⟨w.heap.size, k, Option.none⟩)), isV (vb x), isV (lv x.toNat), isV (lv r), isV (.pointer (some ⟨g, q, Option.none⟩)), (fun _ _ => True)]
          (by kernel_rfl) (by kernel_rfl) (by kernel_rfl) ⟨rfl, trivial⟩ (fun f X => (blk g (.cells (if f 13 = true then P2 else P1) 23 (0, 0)) * (blk w.heap.size (.cells Zb 48 (0, 0)) * all w)).on X ∧ Str w X) ⟨SP.on.drew HXk.out, Str.drew HSk.out⟩ (fun f a b h st => ⟨h.1.below st, h.2.trans (Str.below st)⟩) (fun f g X h hI => by rw [← h 13 rfl]; exact hI) ?keep ?todo ?rest (by decide)
        case keep => exact ⟨Keep.isV _, Keep.isV _, Keep.isV _, Keep.isV _, Keep.isV _, Keep.isV _, Keep.isV _, Keep.isV _, Keep.isV _, Keep.isV _, Keep.isV _, Keep.isV _, Keep.isV _, fun _ _ _ h _ => h, trivial⟩
        case todo =>
          refine ⟨?_, ?_, ?_, ?_, ?_, ?_, ?_, ?_, ?_, ?_, ?_, ?_, ?_, ?_, trivial⟩
          · intro f hf0 hw hn ev X hT hb hk hf
            have e0 : ev (.tmp 6) = .int .i64 (k : Int) := by have h9 := hk.1; rw [if_pos (by kernel_rfl)] at h9; exact h9
            exact OpOk.move rfl e0 (Multi.ended_stay rfl rfl (Stay.refl _))
          · intro f hf0 hw hn ev X hT hb hk hf
            have e0 : ev (.tmp 21) = .int .i64 (k : Int) := hf.1
            exact OpOk.run (v := .int .i64 ((q : Nat) : Int)) (W' := X) (by simp [execOp, e0, hb.1, c1, go_sem]) (Multi.ended_stay rfl rfl (Stay.refl _))
          · intro f hf0 hw hn ev X hT hb hk hf
            have e0 : ev (.tmp 6) = .int .i64 (k : Int) := by have h9 := hk.1; rw [if_pos (by kernel_rfl)] at h9; exact h9
            exact OpOk.move rfl e0 (Multi.ended_stay rfl rfl (Stay.refl _))
          · intro f hf0 hw hn ev X hT hb hk hf
            have e0 : ev (.tmp 23) = .int .i64 (k : Int) := hf.1
            exact OpOk.run (v := .int .i64 ((q : Nat) : Int)) (W' := X) (by simp [execOp, e0, hb.1, c1, go_sem]) (Multi.ended_stay rfl rfl (Stay.refl _))
          · intro f hf0 hw hn ev X hT hb hk hf
            have e0 : ev (.tmp 5) = .pointer (some ⟨g, 0, Option.none⟩) := by have h9 := hk.1; rw [if_pos (by kernel_rfl)] at h9; exact h9
            have e1 : ev (.tmp 24) = .int .i64 ((q : Nat) : Int) := hf.1
            exact OpOk.run (v := .pointer (some ⟨g, q, Option.none⟩)) (W' := X) (by simp [execOp, e0, e1, hb.1, hk4, hk32', go_sem]; try (intro h; omega)) (Multi.ended_stay rfl rfl (Stay.refl _))
          · intro f hf0 hw hn ev X hT hb hk hf
            have e0 : ev (.tmp 25) = .pointer (some ⟨g, q, Option.none⟩) := hf.1
            have f13 : f 13 = false := hn 13 (by kernel_rfl)
            have hX := hT.1
            rw [f13, if_neg (by decide)] at hX
            have cW := (cell_of_row X g q _ _ _ (on_blk_mul hX)).trans H4.out
            exact OpOk.run (v := lv u) (W' := X) (by simp [execOp, e0, cW, go_sem]) (Multi.ended_stay rfl rfl (Stay.refl _))
          · intro f hf0 hw hn ev X hT hb hk hf
            have e0 : ev (.tmp 26) = lv u := hf.1
            exact OpOk.run (v := lv sh) (W' := X) (by have h9 := Q1.out; simp [execOp, e0, hb.1, h9, go_sem]) (Multi.ended_stay rfl rfl (Stay.refl _))
          · intro f hf0 hw hn ev X hT hb hk hf
            have e0 : ev (.tmp 6) = .int .i64 (k : Int) := by have h9 := hk.1; rw [if_pos (by kernel_rfl)] at h9; exact h9
            exact OpOk.move rfl e0 (Multi.ended_stay rfl rfl (Stay.refl _))
          · intro f hf0 hw hn ev X hT hb hk hf
            have e0 : ev (.tmp 2) = .pointer (some ⟨w.heap.size, 0, Option.none⟩) := by have h9 := hk.1; rw [if_pos (by kernel_rfl)] at h9; exact h9
            have e1 : ev (.tmp 28) = .int .i64 (k : Int) := hf.1
            exact OpOk.run (v := .pointer (some ⟨w.heap.size, k, Option.none⟩)) (W' := X) (by simp [execOp, e0, e1, hb.1, hk4, hk32', go_sem]; try (intro h; omega)) (Multi.ended_stay rfl rfl (Stay.refl _))
          · intro f hf0 hw hn ev X hT hb hk hf
            have e0 : ev (.tmp 29) = .pointer (some ⟨w.heap.size, k, Option.none⟩) := hf.1
            have cW := Hcx.out X hT.1.right
            exact OpOk.run (v := vb x) (W' := X) (by simp [execOp, e0, cW, go_sem]) (Multi.ended_stay rfl rfl (Stay.refl _))
          · intro f hf0 hw hn ev X hT hb hk hf
            have e0 : ev (.tmp 30) = vb x := hf.1
            exact OpOk.run (v := lv x.toNat) (W' := X) (by simp [execOp, e0, hb.1, hu6, hu8, c5, go_sem]) (Multi.ended_stay rfl rfl (Stay.refl _))
          · intro f hf0 hw hn ev X hT hb hk hf
            have e0 : ev (.tmp 27) = lv sh := hf.1
            have e1 : ev (.tmp 31) = lv x.toNat := hf.2.1
            exact OpOk.run (v := lv r) (W' := X) (by have h9 := Q2.out; simp [execOp, e0, e1, h9, go_sem]) (Multi.ended_stay rfl rfl (Stay.refl _))
          · intro f hf0 hw hn ev X hT hb hk hf
            have e0 : ev (.tmp 5) = .pointer (some ⟨g, 0, Option.none⟩) := by have h9 := hk.1; rw [if_pos (by kernel_rfl)] at h9; exact h9
            have e1 : ev (.tmp 22) = .int .i64 ((q : Nat) : Int) := hf.1
            exact OpOk.run (v := .pointer (some ⟨g, q, Option.none⟩)) (W' := X) (by simp [execOp, e0, e1, hb.1, hk4, hk32', go_sem]; try (intro h; omega)) (Multi.ended_stay rfl rfl (Stay.refl _))
          · intro f hf0 hw hn ev X hT hb hk hf
            have e0 : ev (.tmp 33) = .pointer (some ⟨g, q, Option.none⟩) := hf.1
            have e1 : ev (.tmp 32) = lv r := hf.2.1
            rw [hf0, if_neg (by decide)] at hT
            have hX := hT.1
            exact OpOk.store_one _ _ _ rfl g q (lv r) e0 e1 rfl _ P1 hX hs8 (by rw [Hps.out]; omega) rfl P2 Hp2.out (fun h3 => Multi.ended_turn rfl trivial ⟨h3, hT.2.setRow _ _⟩ (Multi.free_keep (by
              intro P hP
              simp only [List.mem_cons, List.not_mem_nil, or_false] at hP
              rcases hP with rfl | rfl | rfl | rfl | rfl | rfl | rfl | rfl | rfl | rfl | rfl | rfl | rfl | rfl <;> exact fun _ _ _ h => h) _ _))
        case rest =>
          intro X hT
          rintro _ rfl _ rfl _ rfl _ rfl _ rfl _ rfl _ rfl _ rfl _ rfl _ rfl _ rfl _ rfl _ rfl _ -
          rw [if_pos rfl] at hT
          have HX2 := hide hT.1
          have HST := hide hT.2
          clear hT
          go_wp2
          refine Rest.done ?_
          go_wp2_with fail
          refine ⟨⟨k, by omega, rfl, by rw [← HP2.out]; exact HX2.out, HST.out⟩, by simp [intOf]⟩
  · have hc : ((long.length : Nat) : Int) > 200 := by omega
    go_wp2_with fail
    refine (lives06_any _ (HO.out.below HB2.out)).mono ?_
    rintro e w3 ⟨rfl, hB3⟩
    have HB3 := hide (HB2.out.trans (hB3.mono HB2.out.size))
    clear hB3
    go_wp2_with fail
    go_ret
    exact ⟨rfl, HB3.out⟩
namespace lawScalarBytes
theorem own : ownKnob Tryd.prog.godebug = Option.none := by kernel_rfl
theorem laidOut : laidOutB Tryd.prog = true := by kernel_rfl

set_option maxRecDepth 100000 in
theorem contract (H : Type) (enc : TypeId × Value → H) (W : World) (base : Nat) (args : Array Value) (ds gs : List (DataW H)) (before : List MemPlace)
    (hval0 : ∀ (j : Nat) t v, Tryd.f9.params[j]? = some t → args[j]? = some v → Value.okWide Tryd.prog W .any base t v)
    (hW : DataW.Whole enc Tryd.prog Tryd.f9.params.toList Rows.scalarBytesSpec.vars false W args.toList ds gs before) (hsz : (DataW.weightsEach Tryd.prog (Tryd.f9.params.toList ++ (OpenSpec.ofChange Rows.scalarBytesSpec).bare.plain.varTypes Tryd.prog) (ds ++ gs)).all (· ≤ reachBytes) = true) (hL : laidMetH Tryd.prog Rows.scalarBytesRow.laid W) :
    Calls Tryd.prog 9 args W fun e W' => ∃ v, e = .returned v ∧ Rows.scalarBytesSpec.post enc Tryd.prog Tryd.f9 false true false false W args v W' := by
  have hval : ∀ (j : Nat) t v, Tryd.f9.params[j]? = some t → args[j]? = some v → Value.okWide Tryd.prog W .any base t v := hval0
  have hW' := hW
  obtain ⟨p, q, hA0, hV, rfl, hfz, hnd⟩ := hW
  have hA : DataW.TrodAll enc Tryd.prog W 0 (fun _ => true) true Tryd.f9.params.toList args.toList ds p := hA0
  rw [Tryd.params9] at hA hval
  obtain ⟨v0, vs0, d0, ds0, p0, q0, hargs, rfl, rfl, h0, r0⟩ := trodAll_cons hA
  obtain ⟨v1, vs1, d1, ds1, p1, q1, rfl, rfl, rfl, h1, r1⟩ := trodAll_cons r0
  obtain ⟨rfl, rfl, rfl⟩ := trodAll_nil r1
  obtain rfl : args = #[v0, v1] := by cases args; simp_all
  obtain ⟨rfl, rfl⟩ := trodVars_none hV
  have k0 := h0
  have lt0 : ∀ x ∈ p0, x.block < W.heap.size := by obtain ⟨m, hm⟩ := k0; exact DataW.trod_lt m _ _ _ hm
  obtain ⟨s0, rfl, b0⟩ := open_b32 (hval 0 48 v0 rfl rfl) h0
  have k1 := h1
  have lt1 : ∀ x ∈ p1, x.block < W.heap.size := by obtain ⟨m, hm⟩ := k1; exact DataW.trod_lt m _ _ _ hm
  obtain ⟨l1, b1, n1⟩ := open_bytes Tryd.underlying63 Tryd.underlying5 (by kernel_rfl) (hval 1 63 v1 rfl rfl) h1
  clear hA0 hval0 hsz
  refine (walk_ScalarBytes W hL s0 b0 v1 l1 b1).mono fun e W' ⟨he, bel⟩ => ?_
  subst he
  exact ⟨_, rfl, _, _, _, [], _, [], hW', trodAll_mk1 (shut_bool Tryd.underlying4 _), (trodAll_cons_mk (Below.trod laidOut (by kernel_rfl) (of_decide_eq_true (by kernel_rfl)) k0 bel lt0) (trodAll_cons_mk (Below.trod laidOut (by kernel_rfl) (of_decide_eq_true (by kernel_rfl)) k1 bel lt1) trodAll_mk0)), rfl, bel.frame _, fun h => by cases h⟩

/-- a world for the witness: the settled one, the listed variables holding what their initialisers lay -/
def litCells (d : DataW Unit) : Array Value := match d with
  | .agg l => (l.filterMap fun x => match x with | .lit (.int k n) => some (Value.int k n) | _ => Option.none).toArray
  | _ => #[]
noncomputable def laidWorld (os : Os) : World :=
  { World.holding Tryd.prog os ⟨#[], #[], []⟩ with heap := ((World.holding Tryd.prog os ⟨#[], #[], []⟩).heap.modify 4 fun
      | .cells _ t frozen => .cells (litCells Rows.laid_bosun_scalar_order) t frozen
      | o => o) }
theorem laid_met (os : Os) : laidMet Tryd.prog Rows.scalarBytesRow.laid ((laidWorld os).forCall (fun _ _ => 0) ⟨#[], #[.agg #[.int .u8 0, .int .u8 0, .int .u8 0, .int .u8 0, .int .u8 0, .int .u8 0, .int .u8 0, .int .u8 0, .int .u8 0, .int .u8 0, .int .u8 0, .int .u8 0, .int .u8 0, .int .u8 0, .int .u8 0, .int .u8 0, .int .u8 0, .int .u8 0, .int .u8 0, .int .u8 0, .int .u8 0, .int .u8 0, .int .u8 0, .int .u8 0, .int .u8 0, .int .u8 0, .int .u8 0, .int .u8 0, .int .u8 0, .int .u8 0, .int .u8 0, .int .u8 0], .slice Option.none 0 0], []⟩).memory :=
  laidMet_of_run' 8 (by kernel_rfl) (by kernel_rfl)
theorem reads (os : Os) {H : Type} (enc : TypeId × Value → H) : ∃ places, DataW.whole enc Tryd.prog ((laidWorld os).forCall (fun _ _ => 0) ⟨#[], #[.agg #[.int .u8 0, .int .u8 0, .int .u8 0, .int .u8 0, .int .u8 0, .int .u8 0, .int .u8 0, .int .u8 0, .int .u8 0, .int .u8 0, .int .u8 0, .int .u8 0, .int .u8 0, .int .u8 0, .int .u8 0, .int .u8 0, .int .u8 0, .int .u8 0, .int .u8 0, .int .u8 0, .int .u8 0, .int .u8 0, .int .u8 0, .int .u8 0, .int .u8 0, .int .u8 0, .int .u8 0, .int .u8 0, .int .u8 0, .int .u8 0, .int .u8 0, .int .u8 0], .slice Option.none 0 0], []⟩).memory Tryd.f9.params.toList Rows.scalarBytesSpec.vars false (#[.agg #[.int .u8 0, .int .u8 0, .int .u8 0, .int .u8 0, .int .u8 0, .int .u8 0, .int .u8 0, .int .u8 0, .int .u8 0, .int .u8 0, .int .u8 0, .int .u8 0, .int .u8 0, .int .u8 0, .int .u8 0, .int .u8 0, .int .u8 0, .int .u8 0, .int .u8 0, .int .u8 0, .int .u8 0, .int .u8 0, .int .u8 0, .int .u8 0, .int .u8 0, .int .u8 0, .int .u8 0, .int .u8 0, .int .u8 0, .int .u8 0, .int .u8 0, .int .u8 0], .slice Option.none 0 0] : Array Value).toList 8 = some ([.agg (List.replicate 32 (.lit (.int .u8 0))), .nil], [], places) :=
  ⟨[], by kernel_rfl⟩

set_option maxRecDepth 100000 in
theorem lifted (os : Os) (started : os.Started) (H : Type) (enc : TypeId × Value → H) (F : Stop.Interp) :
    ReturnsInHanded {} Tryd.checked os 9 .any ((OpenSpec.ofChange Rows.scalarBytesSpec).preRow enc Tryd.prog Tryd.f9 Rows.scalarBytesRow.domain false Rows.scalarBytesRow.laid) (((OpenSpec.ofChange Rows.scalarBytesSpec).at F).post enc Tryd.prog Tryd.f9 false true false false) := by
  obtain ⟨places, hx⟩ := reads os enc
  refine returnsInHanded_of_row (C := Tryd.checked) (s := OpenSpec.ofChange Rows.scalarBytesSpec) own started (by kernel_rfl) Tryd.func9
    (witness_row_at (enc := enc) (C := Tryd.checked) false (laidWorld os) #[.agg #[.int .u8 0, .int .u8 0, .int .u8 0, .int .u8 0, .int .u8 0, .int .u8 0, .int .u8 0, .int .u8 0, .int .u8 0, .int .u8 0, .int .u8 0, .int .u8 0, .int .u8 0, .int .u8 0, .int .u8 0, .int .u8 0, .int .u8 0, .int .u8 0, .int .u8 0, .int .u8 0, .int .u8 0, .int .u8 0, .int .u8 0, .int .u8 0, .int .u8 0, .int .u8 0, .int .u8 0, .int .u8 0, .int .u8 0, .int .u8 0, .int .u8 0, .int .u8 0], .slice Option.none 0 0] rfl (by kernel_rfl) (by kernel_rfl) (by kernel_rfl)
      (OpenSpec.preRow_of_cond 8 hx (by kernel_rfl) (fun k hk => by cases hk) (by kernel_rfl) (laid_met os))) ?_
  intro W base args ds gs before hval hW _ _ hsz hL _ _
  exact contract H enc W base args ds gs before hval hW hsz hL

theorem said : Rows.ScalarBytesSaid :=
  OpenClaim.holds_of_cond 9 Tryd.f9 rfl rfl rfl rfl rfl rfl rfl ⟨rfl, rfl, rfl, rfl, rfl⟩ rfl rfl rfl rfl rfl (by kernel_rfl) Tryd.func9 (by kernel_rfl)
    (of_decide_eq_true (by kernel_rfl)) (by unfold Func.isWrapper; first | (rw [if_pos (by decide +kernel)]; kernel_rfl) | (rw [if_neg (by decide +kernel)]; exact ⟨rfl, rfl⟩))
    (fun os started H enc _ F => by rw [OpenClaim.pre_eq_preRow]; exact lifted os started H enc F)

theorem plain (f : FuncId) (fn : Func) (hf : Tryd.pinned.checked.prog.funcNamed "bosun/bosunlaw06.ScalarBytes" = some f) (hfn : Tryd.pinned.checked.prog.funcs[f]? = some fn) :
    false = Tryd.pinned.checked.prog.looks [] ∧ ∀ (j : Nat) t, fn.params[j]? = some t → Tryd.pinned.checked.prog.wantsStandIn t = false := by
  obtain rfl : f = 9 := Option.some.inj ((show Tryd.prog.funcNamed "bosun/bosunlaw06.ScalarBytes" = some 9 by kernel_rfl).symm.trans hf) |>.symm
  obtain rfl : fn = Tryd.f9 := (Option.some.inj (Tryd.func9.symm.trans hfn)).symm
  refine ⟨by kernel_rfl, fun j t ht => ?_⟩
  rw [Tryd.params9] at ht
  have hm : t ∈ [48, 63] := by simpa using Array.mem_of_getElem? ht
  have hall : ∀ t ∈ [48, 63], Tryd.prog.wantsStandIn t = false := by
    intro t ht
    simp only [List.mem_cons, List.not_mem_nil, or_false] at ht
    rcases ht with rfl | rfl <;> kernel_rfl
  exact hall t hm

theorem proved : Rows.ScalarBytesCardSaid :=
  Claim7.holds_tied_plain_at .later [] _ _ _ _ said (fun _ h => by cases h) (by kernel_rfl) (fun _ h => by cases h) scalarBytes_row_tie rfl ⟨rfl, rfl⟩ (by kernel_rfl) rfl plain (by kernel_rfl)
end lawScalarBytes
end Go.Proofs.YtgkofpfjbjnhfaaDoor
