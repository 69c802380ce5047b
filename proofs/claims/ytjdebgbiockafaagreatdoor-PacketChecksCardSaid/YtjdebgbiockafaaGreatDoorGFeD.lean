/- A part. -/
import Derived.Test.YtjdebgbiockafaaGreatDoorGFeC
import Derived.Test.YtjdebgbiockafaaGreatDoorGSl
import Derived.Lib.LaidTab
import Derived.LaidSub
import Derived.MakeChecks
set_option linter.unusedVariables false
set_option linter.unusedSimpArgs false
set_option maxRecDepth 100000
set_option maxHeartbeats 8000000
namespace Go.Proofs.YtjdebgbiockafaaGreatDoor
namespace Fe
open Go.ChangeShapes Go.WideShapes Go.ChangeAt Go.RowKit
def lf (l : List Nat) : List Nat := List.zipWith (fun x y => x + 19 * y) (l.take 17) (l.drop 17)
theorem dval_zip19 : ∀ (a b : List Nat), a.length = b.length → dval (List.zipWith (fun x y => x + 19 * y) a b) = dval a + 19 * dval b
 | [], [], _ => rfl
 | x :: a, y :: b, h => by
  have := dval_zip19 a b (by simpa using h)
  simp only [List.zipWith_cons_cons, dval, this]; omega
theorem lf_len (l : List Nat) (h : l.length = 34) : (lf l).length = 17 := by simp [lf, h]
theorem lf_get (l : List Nat) (j x y : Nat) (hj : j < 17) (hx : l[j]? = some x) (hy : l[j + 17]? = some y) : (lf l)[j]? = some (x + 19 * y) := by
 unfold lf
 rw [List.getElem?_zipWith, List.getElem?_take, if_pos hj, hx, List.getElem?_drop, Nat.add_comm 17 j, hy]
theorem zip19_le (M : Nat) : ∀ (a b : List Nat), (∀ x ∈ a, x ≤ M) → (∀ x ∈ b, x ≤ M) → ∀ z ∈ List.zipWith (fun x y => x + 19 * y) a b, z ≤ 20 * M
 | [], _, _, _, z, hz => by simp at hz
 | _ :: _, [], _, _, z, hz => by simp at hz
 | x :: a, y :: b, ha, hb, z, hz => by
  rw [List.zipWith_cons_cons] at hz
  rcases List.mem_cons.1 hz with rfl | hz
  ·have := ha x List.mem_cons_self
   have := hb y List.mem_cons_self
   omega
  exact zip19_le M a b (fun u hu => ha u (List.mem_cons_of_mem _ hu)) (fun u hu => hb u (List.mem_cons_of_mem _ hu)) z hz
theorem lf_le (l : List Nat) (M : Nat) (h : ∀ x ∈ l, x ≤ M) : ∀ x ∈ lf l, x ≤ 20 * M :=
 zip19_le M _ _ (fun x hx => h x (List.mem_of_mem_take hx)) (fun x hx => h x (List.mem_of_mem_drop hx))
theorem lf_mod (l : List Nat) (h : l.length = 34) : dval (lf l) % P5 = dval l % P5 := by
 unfold lf
 rw [dval_zip19 _ _ (by simp [h])]
 have e : dval l = dval (l.take 17) + 32768 ^ 17 * dval (l.drop 17) := by
  conv => lhs; rw [← List.take_append_drop 17 l]
  rw [dval_append, List.length_take, h]; rfl
 rw [e, D17, P5_255, Nat.add_mul, Nat.add_comm (P5 * _), ← Nat.add_assoc, Nat.add_mul_mod_self_left]
structure Wd (a b i k : Nat) (l : List Nat) : Prop where
 len : l.length = 34
 le : ∀ x ∈ l, x ≤ (17 * i + k) * 1073741824
 val : dval l = a % 32768 ^ i * b + 32768 ^ i * (dg a i * (b % 32768 ^ k))
theorem dval_rep (m : Nat) : dval (List.replicate m 0) = 0 := by
 induction m with
 | zero => rfl
 | succ m ih => rw [List.replicate_succ, dval, ih]
theorem Wd.start (a b : Nat) : Wd a b 0 0 (List.replicate 34 0) :=
 ⟨List.length_replicate, fun x hx => by rw [List.eq_of_mem_replicate hx]; exact Nat.zero_le _, by rw [dval_rep, Nat.pow_zero, Nat.mod_one, Nat.mod_one, Nat.zero_mul, Nat.mul_zero, Nat.mul_zero]⟩
theorem Wd.step {a b i k : Nat} {l : List Nat} (h : Wd a b i k l) (x : Nat) (hx : l[i + k]? = some x) : Wd a b i (k + 1) (l.set (i + k) (x + dg a i * dg b k)) := by
 have hd := dval_set l (i + k) (x + dg a i * dg b k) x hx
 have h1 := dg_lt a i
 have h2 := dg_lt b k
 have h3 : dg a i * dg b k ≤ 32767 * 32767 := Nat.mul_le_mul (by omega) (by omega)
 refine ⟨by rw [List.length_set]; exact h.len, ?_, ?_⟩
 ·intro y hy
  rcases List.mem_or_eq_of_mem_set hy with hy | rfl
  ·exact Nat.le_trans (h.le y hy) (Nat.mul_le_mul_right _ (by omega))
  have h5 := h.le x (List.mem_of_getElem? hx)
  have h4 : dg a i * dg b k ≤ 1073741824 := Nat.le_trans h3 (by decide)
  rw [← Nat.add_assoc, Nat.add_mul _ 1, Nat.one_mul]
  exact Nat.add_le_add h5 h4
 have hv := h.val
 rw [mod_dg b k]
 have e : 32768 ^ i * (dg a i * (b % 32768 ^ k + 32768 ^ k * dg b k)) = 32768 ^ i * (dg a i * (b % 32768 ^ k)) + 32768 ^ (i + k) * (dg a i * dg b k) := by
  rw [Nat.mul_add, Nat.mul_add, Nat.pow_add]
  congr 1
  ac_rfl
 rw [e]
 rw [Nat.mul_add] at hd
 omega
theorem Wd.row {a b i : Nat} {l : List Nat} (hb : b < 2 ^ 255) (h : Wd a b i 17 l) : Wd a b (i + 1) 0 l := by
 refine ⟨h.len, fun x hx => by have := h.le x hx; omega, ?_⟩
 rw [h.val, D17, Nat.mod_eq_of_lt hb, Nat.pow_zero, Nat.mod_one, Nat.mul_zero, Nat.mul_zero, Nat.add_zero, mod_dg, Nat.add_mul]
 congr 1
 ac_rfl
theorem Wd.done {a b : Nat} {l : List Nat} (ha : a < 2 ^ 255) (h : Wd a b 17 0 l) : dval (lf l) % P5 = a * b % P5 ∧ ∀ x ∈ lf l, x ≤ 1152921504606846976 := by
 constructor
 ·rw [lf_mod l h.len, h.val, D17, Nat.mod_eq_of_lt ha, Nat.pow_zero, Nat.mod_one, Nat.mul_zero, Nat.mul_zero, Nat.add_zero]
 intro x hx
 have := lf_le l _ h.le x hx
 omega
theorem rmul_any (a b : Nat) (ha : a < 2 ^ 255) (hb : b < 2 ^ 255) (w : World) :
  Calls Tryz.prog 38 #[.agg (n17 a), .agg (n17 b)] w fun e w' => e = .returned (.agg (n17 (a * b % P5))) ∧ Below w.heap.size w w' := by
 have hun := Tryz.underlying56
 have hzn := nZero
 have h0 := (((on_all w).alloc (.cells (n17 (a)) 56)).alloc (.cells (n17 (b)) 56)).alloc (.cells (n17 0) 56)
 have s0 := (((Str.refl w).alloc (.cells (n17 (a)) 56)).alloc (.cells (n17 (b)) 56)).alloc (.cells (n17 0) 56)
 try simp only [World.size_alloc] at h0
 have H1 := hide h0
 have S1 := hide s0
 clear h0 s0
 have hzw : ∀ w, (zeroValue 122).run Tryz.prog w = .ok (.agg (dvs (List.replicate 34 0))) w := fun w => by kernel_rfl
 have h34 := H1.out.alloc (.cells (dvs (List.replicate 34 0)) 122)
 simp only [World.size_alloc] at h34
 have H2 := hide h34
 have S2 := hide (S1.out.alloc (.cells (dvs (List.replicate 34 0)) 122))
 have Ha := hide ha
 have Hb := hide hb
 have HcA0 := hide (fun k (h : k < 17) => dvs_get _ _ _ (ds_get 17 a k h))
 have HcA0 : Hid (∀ k, k < 17 → (n17 a)[k]? = some (nv (dg a k))) := HcA0
 have HcB0 := hide (fun k (h : k < 17) => dvs_get _ _ _ (ds_get 17 b k h))
 have HcB0 : Hid (∀ k, k < 17 → (n17 b)[k]? = some (nv (dg b k))) := HcB0
 have HzL := hide nz_lit
 clear h34 ha hb H1 S1
 obtain ⟨HsAn, HoAn, HzAn⟩ := nF (a)
 obtain ⟨HsBn, HoBn, HzBn⟩ := nF (b)
 obtain ⟨HsRn, HoRn, HzRn⟩ := nF (a * b % P5)
 generalize hAn : n17 (a) = An at *
 have HAn := hide hAn
 clear hAn
 generalize hBn : n17 (b) = Bn at *
 have HBn := hide hBn
 clear hBn
 generalize hRn : n17 (a * b % P5) = Rn at *
 have HRn := hide hRn
 clear hRn
 generalize hZn : n17 0 = Zn at *
 have HZn := hide hZn
 clear hZn
 go_enter Tryz.func38, Tryz.ntmps38
 generalize hZw : dvs (List.replicate 34 0) = Zw at *
 have HZw := hide hZw
 clear hZw
 go_wp2_with fail
 generalize (((w.alloc (.cells An 56)).alloc (.cells Bn 56)).alloc (.cells Zn 56)).alloc (.cells Zw 122) = w2 at *
 go_loopw [6] (fun i wr => ∃ k : Nat, k ≤ 17 ∧ i = .int .i64 k ∧ ∃ l, Wd a b k 0 l ∧ (blk (w.heap.size + 1 + 1 + 1) (.cells (dvs l) 122 (0, 0)) * (blk (w.heap.size + 1 + 1) (.cells Zn 56 (0, 0)) * (blk (w.heap.size + 1) (.cells Bn 56 (0, 0)) * (blk w.heap.size (.cells An 56 (0, 0)) * all w)))).on wr ∧ Str w wr) (fun i _ => 17 - (intOf i).toNat)
 case atStart => exact ⟨0, by omega, rfl, _, Wd.start a b, by rw [HZw.out]; exact H2.out, S2.out⟩
 obtain ⟨i, hi, rfl, l, hW, hX, hS2⟩ := hrel
 have HXk := hide hX
 have HSk := hide hS2
 have HW := hide hW
 clear hX hS2 H2 S2 hW
 by_cases hlt : i < 17
 ·have hi17 : (i : Int) < 17 := by omega
  go_wp2_with fail
  go_loopw [7] (fun j wr => ∃ k : Nat, k ≤ 17 ∧ j = .int .i64 k ∧ ∃ l, Wd a b i k l ∧ (blk (w.heap.size + 1 + 1 + 1) (.cells (dvs l) 122 (0, 0)) * (blk (w.heap.size + 1 + 1) (.cells Zn 56 (0, 0)) * (blk (w.heap.size + 1) (.cells Bn 56 (0, 0)) * (blk w.heap.size (.cells An 56 (0, 0)) * all w)))).on wr ∧ Str w wr) (fun j _ => 17 - (intOf j).toNat)
  case atStart => exact ⟨0, by omega, rfl, l, HW.out, HXk.out, HSk.out⟩
  obtain ⟨k, hk, rfl, l2, hW, hX, hS2⟩ := hrel
  have HXm := hide hX
  have HSm := hide hS2
  have HW2 := hide hW
  clear hX hS2 hW HXk HSk HW
  by_cases hlk : k < 17
  ·have hik : i + k < l2.length := by rw [HW2.out.len]; omega
   obtain ⟨x, hx⟩ : ∃ x, l2[i + k]? = some x := ⟨_, List.getElem?_eq_getElem hik⟩
   have hxb := HW2.out.le _ (List.mem_of_getElem? hx)
   have HN := hide (HW2.out.step _ hx)
   have hg := dvs_get l2 (i + k) _ hx
   have hset := dvs_set l2 (i + k) (x + dg a i * dg b k)
   have h1 := dg_lt a i
   have h2 := dg_lt b k
   have h3 : dg a i * dg b k ≤ 32767 * 32767 := Nat.mul_le_mul (by omega) (by omega)
   have Hps := hide (show i + k < (dvs l2).size by rw [dvs_size]; exact hik)
   have HcA : Hid (∀ X, (blk w.heap.size (.cells An 56 (0, 0)) * all w).on X → X.cell? ⟨w.heap.size, i, .none⟩ = some (nv (dg a i))) := hide fun X hX => (cell_of_row X w.heap.size i An _ _ (on_blk_mul hX)).trans (HcA0.out i hlt)
   have HcB : Hid (∀ X, (blk (w.heap.size + 1) (.cells Bn 56 (0, 0)) * (blk w.heap.size (.cells An 56 (0, 0)) * all w)).on X → X.cell? ⟨w.heap.size + 1, k, .none⟩ = some (nv (dg b k))) := hide fun X hX => (cell_of_row X (w.heap.size + 1) k Bn _ _ (on_blk_mul hX)).trans (HcB0.out k hlk)
   have q11 : IntKind.i64.wrap (((dg a i : Nat) : Int) * ((dg b k : Nat) : Int)) = ((dg a i * dg b k : Nat) : Int) := by rw [← Int.natCast_mul, IntWalk.i64_in _ (by omega)]
   have q12 : IntKind.i64.wrap ((x : Int) + ((dg a i * dg b k : Nat) : Int)) = ((x + dg a i * dg b k : Nat) : Int) := by rw [← Int.natCast_add, IntWalk.i64_in _ (by omega)]
   have q2 : IntKind.i64.wrap ((i : Int) + (k : Int)) = ((i + k : Nat) : Int) := by rw [IntWalk.i64_in _ (by omega)]; omega
   have hk17 : (k : Int) < 17 := by omega
   have hik34 : ((i + k : Nat) : Int) < 34 := by have := HW2.out.len; omega
   have Hcl := hide hg
   have Hset := hide hset
   have Q11 := hide q11
   have Q12 := hide q12
   have Q2 := hide q2
   have hs8 : (Tryz.prog.info? 3).map (·.size) = some 1 := by kernel_rfl
   clear hx hxb hg hset h3 q11 q12 q2 hik h1 h2
   generalize dg a i = ai at *
   generalize dg b k = bk at *
   generalize ai * bk = m at *
   generalize x + m = z at *
   generalize dvs l2 = P1 at *
   generalize hP2 : dvs (l2.set (i + k) z) = P2 at *
   have HP2 := hide hP2
   clear hP2
   generalize i + k = q at *
   go_wp2_with fail
   refine AppK.wp_region_set 14 [isV (.int .i64 (i : Int)), isV (.int .i64 (k : Int)), isV (.int .i64 ((q : Nat) : Int)), isV (.pointer (some ⟨w.heap.size + 1 + 1 + 1, q, .none⟩)), isV (nv x), isV (.int .i64 (i : Int)), isV (.pointer (some ⟨w.heap.size, i, .none⟩)), isV (nv ai), isV (.int .i64 (k : Int)), isV (.pointer (some ⟨w.heap.size + 1, k, .none⟩)), isV (nv bk), isV (nv m), isV (nv z), isV (.pointer (some ⟨w.heap.size + 1 + 1 + 1, q, .none⟩)), (fun _ _ => True)]
    [isV (.int .i64 (i : Int)), isV (.int .i64 (k : Int)), isV (.int .i64 ((q : Nat) : Int)), isV (.pointer (some ⟨w.heap.size + 1 + 1 + 1, q, .none⟩)), isV (nv x), isV (.int .i64 (i : Int)), isV (.pointer (some ⟨w.heap.size, i, .none⟩)), isV (nv ai), isV (.int .i64 (k : Int)), isV (.pointer (some ⟨w.heap.size + 1, k, .none⟩)), isV (nv bk), isV (nv m), isV (nv z), isV (.pointer (some ⟨w.heap.size + 1 + 1 + 1, q, .none⟩)), (fun _ _ => True)] _ rfl (by kernel_rfl) (by kernel_rfl) rfl (by decide) (.inr rfl) (fun ph X => (blk (w.heap.size + 1 + 1 + 1) (.cells (if ph = true then P2 else P1) 122 (0, 0)) * (blk (w.heap.size + 1 + 1) (.cells Zn 56 (0, 0)) * (blk (w.heap.size + 1) (.cells Bn 56 (0, 0)) * (blk w.heap.size (.cells An 56 (0, 0)) * all w)))).on X ∧ Str w X) ⟨SP.on.drew HXm.out, Str.drew HSm.out⟩ (fun ph a b h st => ⟨h.1.below st, h.2.trans (Str.below st)⟩) kP kP ?store ?todo ?r58
   case store =>
    intro ev X hT hb hk hf
    have hX : (blk (w.heap.size + 1 + 1 + 1) (.cells P1 122 (0, 0)) * (blk (w.heap.size + 1 + 1) (.cells Zn 56 (0, 0)) * (blk (w.heap.size + 1) (.cells Bn 56 (0, 0)) * (blk w.heap.size (.cells An 56 (0, 0)) * all w)))).on X := hT.1
    exact OpOk.store_one _ _ _ rfl (w.heap.size + 1 + 1 + 1) q (nv z) (fX ev 31 hf.1) (fX ev 30 hf.2.1) rfl _ P1 hX hs8 Hps.out rfl P2 Hset.out (fun h3 => ⟨⟨h3, hT.2.setRow _ _⟩, trivial, fun i _ hv => vList_free fR i _ _ _ hv⟩)
   case todo =>
    refine ⟨?_, ?_, ?_, ?_, ?_, ?_, ?_, ?_, ?_, ?_, ?_, ?_, ?_, ?_, ?_, trivial⟩
    ·refine pK fun ev X hT hb hk hf => ?_
     exact OpOk.m rfl (fV ev 6 (.int .i64 (i : Int)) hk.1)
    ·refine pK fun ev X hT hb hk hf => ?_
     exact OpOk.m rfl (fV ev 7 (.int .i64 (k : Int)) hk.1)
    ·refine pK fun ev X hT hb hk hf => ?_
     exact OpOk.r (by have h9 := Q2.out; simp [execOp, fX ev 18 hf.1, fX ev 19 hf.2.1, h9, go_sem])
    ·refine pK fun ev X hT hb hk hf => ?_
     exact OpOk.r (by simp [execOp, fV ev 5 (.pointer (some ⟨w.heap.size + 1 + 1 + 1, 0, .none⟩)) hk.1, fX ev 20 hf.1, hb.1, hik34, go_sem]; try (intro h; omega))
    ·refine pK fun ev X hT hb hk hf => ?_
     have cW := (cell_of_row X (w.heap.size + 1 + 1 + 1) q _ _ _ (on_blk_mul hT.1)).trans Hcl.out
     exact OpOk.sc (fX ev 21 hf.1) cW
    ·refine pK fun ev X hT hb hk hf => ?_
     exact OpOk.m rfl (fV ev 6 (.int .i64 (i : Int)) hk.1)
    ·refine pK fun ev X hT hb hk hf => ?_
     exact OpOk.r (by simp [execOp, fV ev 2 (.pointer (some ⟨w.heap.size, 0, .none⟩)) hk.1, fX ev 23 hf.1, hb.1, hi17, go_sem]; try (intro h; omega))
    ·refine pK fun ev X hT hb hk hf => ?_
     have cW := HcA.out X hT.1.right.right.right
     exact OpOk.sc (fX ev 24 hf.1) cW
    ·refine pK fun ev X hT hb hk hf => ?_
     exact OpOk.m rfl (fV ev 7 (.int .i64 (k : Int)) hk.1)
    ·refine pK fun ev X hT hb hk hf => ?_
     exact OpOk.r (by simp [execOp, fV ev 3 (.pointer (some ⟨w.heap.size + 1, 0, .none⟩)) hk.1, fX ev 26 hf.1, hb.1, hk17, go_sem]; try (intro h; omega))
    ·refine pK fun ev X hT hb hk hf => ?_
     have cW := HcB.out X hT.1.right.right
     exact OpOk.sc (fX ev 27 hf.1) cW
    ·refine pK fun ev X hT hb hk hf => ?_
     exact OpOk.r (by have h9 := Q11.out; simp [execOp, fX ev 25 hf.1, fX ev 28 hf.2.1, h9, go_sem])
    ·refine pK fun ev X hT hb hk hf => ?_
     exact OpOk.r (by have h9 := Q12.out; simp [execOp, fX ev 22 hf.1, fX ev 29 hf.2.1, h9, go_sem])
    ·refine pK fun ev X hT hb hk hf => ?_
     exact OpOk.r (by simp [execOp, fV ev 5 (.pointer (some ⟨w.heap.size + 1 + 1 + 1, 0, .none⟩)) hk.1, fX ev 20 hf.1, hb.1, hik34, go_sem]; try (intro h; omega))
    exact fun h => absurd rfl h
   intro X hT
   rintro _ - _ - _ - _ - _ - _ - _ - _ - _ - _ - _ - _ - _ - _ - _ -
   have hX2 : (blk (w.heap.size + 1 + 1 + 1) (.cells P2 122 (0, 0)) * (blk (w.heap.size + 1 + 1) (.cells Zn 56 (0, 0)) * (blk (w.heap.size + 1) (.cells Bn 56 (0, 0)) * (blk w.heap.size (.cells An 56 (0, 0)) * all w)))).on X := hT.1
   have HX2 := hide hX2
   have HST := hide hT.2
   clear hT hX2
   go_wp2
   refine Rest.done ?_
   go_wp2
   refine ⟨⟨k + 1, by omega, by simp, _, HN.out, by rw [HP2.out]; exact HX2.out, HST.out⟩, by simp [intOf]; omega⟩
  obtain rfl : k = 17 := by omega
  go_wp2_with fail
  exact ⟨⟨i + 1, by omega, by simp, l2, HW2.out.row Hb.out, HXm.out, HSm.out⟩, by simp [intOf]; omega⟩
 obtain rfl : i = 17 := by omega
 have hll := HW.out.len
 obtain ⟨hd1, hd2⟩ := HW.out.done Ha.out
 have Hst : Hid (∀ X, Calls Tryz.prog 72 #[.agg (dvs (lf l))] X fun e w' => e = .returned (.agg Rn) ∧ Below X.heap.size X w') := hide fun X => by
  have := settle_any (lf l) (lf_len l hll) hd2 X
  rwa [hd1, HRn.out] at this
 have Hle := hide HW.out.le
 have h4 := HXk.out.alloc (.cells Zn 56)
 have H4 := hide h4
 have S4 := hide (HSk.out.alloc (.cells Zn 56))
 have Hll := hide hll
 have HsLf := hide (nInfoL (lf l) (lf_len l hll))
 clear h4 hd1 hd2 hll HW HXk HSk
 rw [show ((17 : Nat) : Int) = (17 : Int) from rfl]
 go_wp2_with fail
 generalize wr.heap.size = p8 at *
 generalize wr.alloc (.cells Zn 56) = w5 at *
 go_loopw [9] (fun j wr => ∃ k : Nat, k ≤ 17 ∧ j = .int .i64 k ∧ (blk p8 (.cells (dvs ((lf l).take k ++ (List.replicate 17 0).drop k)) 56 (0, 0)) * (blk (w.heap.size + 1 + 1 + 1) (.cells (dvs l) 122 (0, 0)) * (blk (w.heap.size + 1 + 1) (.cells Zn 56 (0, 0)) * (blk (w.heap.size + 1) (.cells Bn 56 (0, 0)) * (blk w.heap.size (.cells An 56 (0, 0)) * all w))))).on wr ∧ Str w wr) (fun j _ => 17 - (intOf j).toNat)
 case atStart =>
  refine ⟨0, by omega, rfl, ?_, S4.out⟩
  rw [List.take_zero, List.drop_zero, List.nil_append, ← HzL.out]
  exact H4.out
 obtain ⟨k, hk, rfl, hX, hS2⟩ := hrel
 have HXm := hide hX
 have HSm := hide hS2
 clear hX hS2 H4 S4
 by_cases hlk : k < 17
 ·have hk1 : k < l.length := by rw [Hll.out]; omega
  have hk2 : k + 17 < l.length := by rw [Hll.out]; omega
  obtain ⟨x, hx⟩ : ∃ x, l[k]? = some x := ⟨_, List.getElem?_eq_getElem hk1⟩
  obtain ⟨y, hy⟩ : ∃ y, l[k + 17]? = some y := ⟨_, List.getElem?_eq_getElem hk2⟩
  have hxb := Hle.out _ (List.mem_of_getElem? hx)
  have hyb := Hle.out _ (List.mem_of_getElem? hy)
  have hgf := lf_get l k _ _ hlk hx hy
  have Hs9 := set_takeN (lf l) (List.replicate 17 0) k _ hgf (by simp; omega)
  have HcX : Hid (∀ X, (blk (w.heap.size + 1 + 1 + 1) (.cells (dvs l) 122 (0, 0)) * (blk (w.heap.size + 1 + 1) (.cells Zn 56 (0, 0)) * (blk (w.heap.size + 1) (.cells Bn 56 (0, 0)) * (blk w.heap.size (.cells An 56 (0, 0)) * all w)))).on X → X.cell? ⟨w.heap.size + 1 + 1 + 1, k, .none⟩ = some (nv x)) := hide fun X hX => rowCell hX k _ hx
  have HcY : Hid (∀ X, (blk (w.heap.size + 1 + 1 + 1) (.cells (dvs l) 122 (0, 0)) * (blk (w.heap.size + 1 + 1) (.cells Zn 56 (0, 0)) * (blk (w.heap.size + 1) (.cells Bn 56 (0, 0)) * (blk w.heap.size (.cells An 56 (0, 0)) * all w)))).on X → X.cell? ⟨w.heap.size + 1 + 1 + 1, k + 17, .none⟩ = some (nv y)) := hide fun X hX => rowCell hX (k + 17) _ hy
  have hpl : ((lf l).take k ++ (List.replicate 17 0).drop k).length = 17 := by rw [List.length_append, List.length_take, List.length_drop, lf_len l Hll.out]; simp; omega
  have hset := dvs_set ((lf l).take k ++ (List.replicate 17 0).drop k) k (x + 19 * y)
  rw [Hs9] at hset
  have Hps := hide (show k < (dvs ((lf l).take k ++ (List.replicate 17 0).drop k)).size by rw [dvs_size, hpl]; exact hlk)
  have Hset := hide hset
  clear hset hpl Hs9 hgf hx hy
  have q8 : IntKind.i64.wrap (19 * (y : Int)) = ((19 * y : Nat) : Int) := by rw [IntWalk.i64_in _ (by omega)]; omega
  have q9 : IntKind.i64.wrap ((x : Int) + ((19 * y : Nat) : Int)) = ((x + 19 * y : Nat) : Int) := by rw [IntWalk.i64_in _ (by omega)]; omega
  have q5 : IntKind.i64.wrap ((k : Int) + 17) = ((k + 17 : Nat) : Int) := by rw [IntWalk.i64_in _ (by omega)]; omega
  have hk17 : (k : Int) < 17 := by omega
  have hk34 : (k : Int) < 34 := by omega
  have hq34 : ((k + 17 : Nat) : Int) < 34 := by omega
  have Q8 := hide q8
  have Q9 := hide q9
  have Q5 := hide q5
  have hs8 : (Tryz.prog.info? 3).map (·.size) = some 1 := by kernel_rfl
  clear q8 q9 q5 hk1 hk2 hxb hyb
  generalize 19 * y = m at *
  generalize x + m = z at *
  generalize dvs l = Wl at *
  generalize dvs ((lf l).take k ++ (List.replicate 17 0).drop k) = P1 at *
  generalize hP2 : dvs ((lf l).take (k + 1) ++ (List.replicate 17 0).drop (k + 1)) = P2 at *
  have HP2 := hide hP2
  clear hP2
  generalize k + 17 = q at *
  go_wp2_with fail
  refine AppK.wp_region_set 11 [isV (.int .i64 (k : Int)), isV (.int .i64 (k : Int)), isV (.pointer (some ⟨w.heap.size + 1 + 1 + 1, k, .none⟩)), isV (nv x), isV (.int .i64 (k : Int)), isV (.int .i64 ((q : Nat) : Int)), isV (.pointer (some ⟨w.heap.size + 1 + 1 + 1, q, .none⟩)), isV (nv y), isV (nv m), isV (nv z), isV (.pointer (some ⟨p8, k, .none⟩)), (fun _ _ => True)]
   [isV (.int .i64 (k : Int)), isV (.int .i64 (k : Int)), isV (.pointer (some ⟨w.heap.size + 1 + 1 + 1, k, .none⟩)), isV (nv x), isV (.int .i64 (k : Int)), isV (.int .i64 ((q : Nat) : Int)), isV (.pointer (some ⟨w.heap.size + 1 + 1 + 1, q, .none⟩)), isV (nv y), isV (nv m), isV (nv z), isV (.pointer (some ⟨p8, k, .none⟩)), (fun _ _ => True)] _ rfl (by kernel_rfl) (by kernel_rfl) rfl (by decide) (.inr rfl) (fun ph X => (blk p8 (.cells (if ph = true then P2 else P1) 56 (0, 0)) * (blk (w.heap.size + 1 + 1 + 1) (.cells Wl 122 (0, 0)) * (blk (w.heap.size + 1 + 1) (.cells Zn 56 (0, 0)) * (blk (w.heap.size + 1) (.cells Bn 56 (0, 0)) * (blk w.heap.size (.cells An 56 (0, 0)) * all w))))).on X ∧ Str w X) ⟨SP.on.drew HXm.out, Str.drew HSm.out⟩ (fun ph a b h st => ⟨h.1.below st, h.2.trans (Str.below st)⟩) kP kP ?store ?todo ?r59
  case store =>
   intro ev X hT hb hk hf
   have hX : (blk p8 (.cells P1 56 (0, 0)) * (blk (w.heap.size + 1 + 1 + 1) (.cells Wl 122 (0, 0)) * (blk (w.heap.size + 1 + 1) (.cells Zn 56 (0, 0)) * (blk (w.heap.size + 1) (.cells Bn 56 (0, 0)) * (blk w.heap.size (.cells An 56 (0, 0)) * all w))))).on X := hT.1
   exact OpOk.store_one _ _ _ rfl (p8) k (nv z) (fX ev 46 hf.1) (fX ev 45 hf.2.1) rfl _ P1 hX hs8 Hps.out rfl P2 Hset.out (fun h3 => ⟨⟨h3, hT.2.setRow _ _⟩, trivial, fun i _ hv => vList_free fR i _ _ _ hv⟩)
  case todo =>
   refine ⟨?_, ?_, ?_, ?_, ?_, ?_, ?_, ?_, ?_, ?_, ?_, ?_, trivial⟩
   ·refine pK fun ev X hT hb hk hf => ?_
    exact OpOk.m rfl (fV ev 9 (.int .i64 (k : Int)) hk.1)
   ·refine pK fun ev X hT hb hk hf => ?_
    exact OpOk.m rfl (fV ev 9 (.int .i64 (k : Int)) hk.1)
   ·refine pK fun ev X hT hb hk hf => ?_
    exact OpOk.r (by simp [execOp, fV ev 5 (.pointer (some ⟨w.heap.size + 1 + 1 + 1, 0, .none⟩)) hk.1, fX ev 37 hf.1, hb.1, hk34, go_sem]; try (intro h; omega))
   ·refine pK fun ev X hT hb hk hf => ?_
    have cW := HcX.out X hT.1.right
    exact OpOk.sc (fX ev 38 hf.1) cW
   ·refine pK fun ev X hT hb hk hf => ?_
    exact OpOk.m rfl (fV ev 9 (.int .i64 (k : Int)) hk.1)
   ·refine pK fun ev X hT hb hk hf => ?_
    exact OpOk.r (by have h9 := Q5.out; simp [execOp, fX ev 40 hf.1, hb.1, h9, go_sem])
   ·refine pK fun ev X hT hb hk hf => ?_
    exact OpOk.r (by simp [execOp, fV ev 5 (.pointer (some ⟨w.heap.size + 1 + 1 + 1, 0, .none⟩)) hk.1, fX ev 41 hf.1, hb.1, hq34, go_sem]; try (intro h; omega))
   ·refine pK fun ev X hT hb hk hf => ?_
    have cW := HcY.out X hT.1.right
    exact OpOk.sc (fX ev 42 hf.1) cW
   ·refine pK fun ev X hT hb hk hf => ?_
    exact OpOk.r (by have h9 := Q8.out; simp [execOp, fX ev 43 hf.1, hb.1, h9, go_sem])
   ·refine pK fun ev X hT hb hk hf => ?_
    exact OpOk.r (by have h9 := Q9.out; simp [execOp, fX ev 39 hf.1, fX ev 44 hf.2.1, h9, go_sem])
   ·refine pK fun ev X hT hb hk hf => ?_
    exact OpOk.r (by simp [execOp, fV ev 8 (.pointer (some ⟨p8, 0, .none⟩)) hk.1, fX ev 36 hf.1, hb.1, hk17, go_sem]; try (intro h; omega))
   exact fun h => absurd rfl h
  intro X hT
  rintro _ - _ - _ - _ - _ - _ - _ - _ - _ - _ - _ - _ -
  have hX2 : (blk p8 (.cells P2 56 (0, 0)) * (blk (w.heap.size + 1 + 1 + 1) (.cells Wl 122 (0, 0)) * (blk (w.heap.size + 1 + 1) (.cells Zn 56 (0, 0)) * (blk (w.heap.size + 1) (.cells Bn 56 (0, 0)) * (blk w.heap.size (.cells An 56 (0, 0)) * all w))))).on X := hT.1
  have HX2 := hide hX2
  have HST := hide hT.2
  clear hT hX2
  go_wp2
  refine Rest.done ?_
  go_wp2
  go_roundw
  case rel => exact ⟨k + 1, by omega, by simp, by rw [HP2.out]; exact HX2.out, HST.out⟩
  case measure => simp [intOf]; omega
 obtain rfl : k = 17 := by omega
 have e4 : (lf l).take 17 ++ (List.replicate 17 0).drop 17 = lf l := by rw [List.take_of_length_le (by rw [lf_len l Hll.out]; omega), List.drop_of_length_le (by simp), List.append_nil]
 rw [e4] at HXm
 have g0 := on_blk_mul HXm.out
 clear e4
 generalize dvs (lf l) = Lf at *
 go_wp2_with (refine wL g0 hun HsLf ?_)
 clear g0
 refine (Hst.out _).mono ?_
 rintro e w7 ⟨rfl, hB⟩
 obtain ⟨H7, S7⟩ := nx HXm.out HSm.out hB
 clear hB HXm HSm
 have gR := on_blk_mul H7.out.right.right
 have HB := hide (all_below H7.out.right.right.right.right.right S7.out)
 go_wp2_with (refine wS gR HsRn HzRn HoRn ?_)
 exact retR Tryz.results38 gR hun HsRn.out rfl HB.out (by omega)
theorem bit_rem (e m : Nat) : ((((limb e (m / 64) : Nat) : Int) / 2 ^ (m % 64)).tmod 2 == 1) = e.testBit m := by
 have h1 := testBit_limb e m
 have e3 : ((limb e (m / 64) : Nat) : Int) / 2 ^ (m % 64) = ((limb e (m / 64) / 2 ^ (m % 64) : Nat) : Int) := by rw [Int.natCast_ediv, Int.natCast_pow]; rfl
 rw [e3, Int.tmod_eq_emod_of_nonneg (Int.natCast_nonneg _), ← h1, Nat.testBit_eq_decide_div_mod_eq, Bool.eq_iff_iff, beq_iff_eq, decide_eq_true_eq]
 omega
theorem rpower_any (a e : Nat) (ha : a < 2 ^ 255) (he : e < 18446744073709551616 ^ 4) (w : World) :
  Calls Tryz.prog 68 #[.agg (n17 a), .agg (q4 e)] w fun e' w' => e' = .returned (.agg (n17 (pwr a e 256))) ∧ Below w.heap.size w w' := by
 have hu4 := Tryz.underlying51
 have hz4 := eZero4
 have hun := Tryz.underlying56
 have hzn := nZero
 have h0 := (((on_all w).alloc (.cells (n17 (a)) 56)).alloc (.cells (q4 (e)) 51)).alloc (.cells (n17 0) 56)
 have s0 := (((Str.refl w).alloc (.cells (n17 (a)) 56)).alloc (.cells (q4 (e)) 51)).alloc (.cells (n17 0) 56)
 try simp only [World.size_alloc] at h0
 have H1 := hide h0
 have S1 := hide s0
 clear h0 s0
 have Hc : Hid (∀ X, Calls Tryz.prog 44 #[.int .i64 1] X fun e w' => e = .returned (.agg (n17 1)) ∧ Below X.heap.size X w') := hide fun X => by
  have := rsmall_any 1 (by decide) X
  rwa [show 1 % P5 = 1 by decide] at this
 have Hcell : Hid (∀ m, m < 256 → (q4 e)[m / 64]? = some (lv (limb e (m / 64)))) := hide fun m hm => lvs_get _ _ _ (qs_get 4 e _ (by omega))
 have Ha := hide ha
 have HI := hide nInfo
 have HP5 := hide P5_255lt
 clear ha he
 obtain ⟨HsAn, HoAn, HzAn⟩ := nF (a)
 obtain ⟨HsE4, HoE4, HzE4⟩ := b3 (eInfo4 (e)) (eOne (e)) (eSize 0 (e))
 obtain ⟨HsIn, HoIn, HzIn⟩ := nF (1)
 generalize hAn : n17 (a) = An at *
 have HAn := hide hAn
 clear hAn
 generalize hE4 : q4 (e) = E4 at *
 have HE4 := hide hE4
 clear hE4
 generalize hIn : n17 (1) = In at *
 have HIn := hide hIn
 clear hIn
 generalize hZn : n17 0 = Zn at *
 have HZn := hide hZn
 clear hZn
 go_enter Tryz.func68, Tryz.ntmps68
 go_wp2_with fail
 generalize ((w.alloc (.cells An 56)).alloc (.cells E4 51)).alloc (.cells Zn 56) = w1 at *
 refine (Hc.out _).mono ?_
 rintro e w2 ⟨rfl, hB⟩
 obtain ⟨H2, S2⟩ := nx H1.out S1.out hB
 clear hB H1 S1
 obtain ⟨gN, gM, H3, S3⟩ := newV H2.out S2.out Zn In 56
 go_wp2_with (first
  | (refine wS gN HsIn HzIn HoIn ?_))
 generalize (w2.alloc (.cells Zn 56)).setRow w2.heap.size In = w3 at *
 clear gN gM H2 S2
 generalize w2.heap.size = p5 at *
 go_loopw [6] (fun i wr => ∃ k : Nat, k ≤ 256 ∧ i = .int .i64 ((k : Int) - 1) ∧ (blk p5 (.cells (n17 (pwr a e (256 - k))) 56 (0, 0)) * (blk (w.heap.size + 1 + 1) (.cells Zn 56 (0, 0)) * (blk (w.heap.size + 1) (.cells E4 51 (0, 0)) * (blk w.heap.size (.cells An 56 (0, 0)) * all w)))).on wr ∧ Str w wr) (fun i _ => (intOf i + 1).toNat)
 case atStart => exact ⟨256, by omega, rfl, by rw [show pwr a e (256 - 256) = 1 from rfl, HIn.out]; exact H3.out, S3.out⟩
 obtain ⟨k, hk, rfl, hX, hS2⟩ := hrel
 have H4 := hide hX
 have S4 := hide hS2
 clear hX hS2 H3 S3
 have hP5 := HP5.out
 cases k with
 | zero =>
  obtain ⟨HsP, HoP, HzP⟩ := b3 (HI.out (pwr a e 256)) (nOne (pwr a e 256)) (nSize 0 (pwr a e 256))
  rw [HZn.out] at HzP
  rw [show 256 - 0 = 256 from rfl] at H4
  generalize hP : n17 (pwr a e 256) = P at *
  have HP := hide hP
  clear hP
  have g0 := on_blk_mul H4.out
  have gR := on_blk_mul H4.out.right
  have HB := hide (all_below H4.out.right.right.right.right S4.out)
  go_wp2_with (first
   | (refine wS gR HsP HzP HoP ?_)
   | (refine wL g0 hun HsP ?_))
  exact retE Tryz.results68 gR hun HsP.out rfl (by rw [HP.out]) HB.out (by omega)
 | succ m =>
  have hm2 : m < 256 := by omega
  have hst : pwr a e (256 - m) = stepP a e (256 - (m + 1)) (pwr a e (256 - (m + 1))) := by rw [show 256 - m = (256 - (m + 1)) + 1 by omega]; rfl
  unfold stepP at hst
  rw [show 255 - (256 - (m + 1)) = m by omega] at hst
  have hp := pwr_lt a e (256 - (m + 1))
  have hq : pwr a e (256 - (m + 1)) * pwr a e (256 - (m + 1)) % P5 < P5 := Nat.mod_lt _ P5_pos
  have Ht1 := hide (fun X => rmul_any (pwr a e (256 - (m + 1))) (pwr a e (256 - (m + 1))) (by omega) (by omega) X)
  have Ht2 := hide (fun X => rmul_any (pwr a e (256 - (m + 1)) * pwr a e (256 - (m + 1)) % P5) a (by omega) Ha.out X)
  have hb := bit_rem e m
  have s1 : (((m + 1 : Nat) : Int) - 1) = (m : Int) := by omega
  rw [s1]
  clear s1
  have hm4 : ((m / 64 : Nat) : Int) < 4 := by omega
  have Hst := hide hst
  have hE := Hcell.out m hm2
  clear hst hp hq
  generalize pwr a e (256 - (m + 1)) = q at *
  have HsP := hide (HI.out q)
  obtain ⟨HsQ, HoQ, HzQ⟩ := b3 (HI.out (q * q % P5)) (nOne (q * q % P5)) (nSize q (q * q % P5))
  obtain ⟨HsR, HoR, HzR⟩ := b3 (HI.out (q * q % P5 * a % P5)) (nOne (q * q % P5 * a % P5)) (nSize (q * q % P5) (q * q % P5 * a % P5))
  generalize limb e (m / 64) = x at *
  generalize n17 q = P at *
  generalize hQ : n17 (q * q % P5) = Q at *
  generalize hR : n17 (q * q % P5 * a % P5) = R at *
  have HQ := hide hQ
  have HR := hide hR
  rw [HAn.out] at Ht2
  clear hQ hR hP5
  have g0 := on_blk_mul H4.out
  go_wp2_with (first
   | (refine wL g0 hun HsP ?_))
  clear g0
  refine (Ht1.out _).mono ?_
  rintro e w5 ⟨rfl, hB⟩
  obtain ⟨H5, S5⟩ := nx H4.out S4.out hB
  clear hB H4 S4
  have H6 := hide (st0 H5.out (cs := Q))
  have S6 := hide (S5.out.setRow (p5) Q)
  have gW := on_blk_mul H5.out
  have g0 := on_blk_mul H6.out
  have gA := on_blk_mul H6.out.right.right.right
  have hcell := (cell_of_row (w5.setRow p5 Q) (w.heap.size + 1) (m / 64) _ _ _ (on_blk_mul H6.out.right.right)).trans hE
  by_cases ht : e.testBit m = true
  ·rw [ht] at hb
   have HN := hide (show pwr a e (256 - m) = q * q % P5 * a % P5 by rw [Hst.out, if_pos ht])
   clear ht hE
   go_wp2_with (first
    | (refine wS gW HsQ HzQ HoQ ?_)
    | (refine wL g0 hun HsQ ?_)
    | (refine wL gA hun HsAn ?_))
   clear hcell gA
   generalize w5.setRow p5 Q = w6 at *
   clear gW H5 S5 g0
   refine (Ht2.out _).mono ?_
   rintro e w7 ⟨rfl, hB⟩
   obtain ⟨H7, S7⟩ := nx H6.out S6.out hB
   clear hB H6 S6
   have H8 := hide (st0 H7.out (cs := R))
   have S8 := hide (S7.out.setRow (p5) R)
   have gW := on_blk_mul H7.out
   go_wp2_with (first
    | (refine wS gW HsR HzR HoR ?_))
   exact ⟨⟨m, by omega, rfl, by rw [HN.out, HR.out]; exact H8.out, S8.out⟩, by simp [intOf]⟩
  have hf : e.testBit m = false := by simpa using ht
  rw [hf] at hb
  have HN := hide (show pwr a e (256 - m) = q * q % P5 by rw [Hst.out, if_neg ht])
  clear ht hE hf
  go_wp2_with (first
   | (refine wS gW HsQ HzQ HoQ ?_))
  exact ⟨⟨m, by omega, rfl, by rw [HN.out, HQ.out]; exact H6.out, S6.out⟩, by simp [intOf]⟩
theorem rinvert_any (a : Nat) (ha : a < P5) (w : World) :
  Calls Tryz.prog 37 #[.agg (n17 a)] w fun e w' => e = .returned (.agg (n17 (pwr a (P5 - 2) 256))) ∧ Below w.heap.size w w' := by
 have hu4 := Tryz.underlying51
 have hz4 := eZero4
 have hun := Tryz.underlying56
 have hzn := nZero
 have h0 := ((on_all w).alloc (.cells (n17 (a)) 56)).alloc (.cells (n17 0) 56)
 have s0 := ((Str.refl w).alloc (.cells (n17 (a)) 56)).alloc (.cells (n17 0) 56)
 try simp only [World.size_alloc] at h0
 have H1 := hide h0
 have S1 := hide s0
 clear h0 s0
 have hp := P5_255lt
 have hp2 : 2 ≤ P5 := by decide
 have hp3 : P5 - 2 < 2 ^ 255 := by omega
 have HP := hide (fun X => rp_any X)
 have HT : Hid (∀ X, Calls Tryz.prog 44 #[.int .i64 2] X fun e w' => e = .returned (.agg (n17 2)) ∧ Below X.heap.size X w') := hide fun X => by
  have := rsmall_any 2 (by decide) X
  rwa [show 2 % P5 = 2 by decide] at this
 have HU := hide (fun X => under_any P5 2 hp hp2 X)
 have HL := hide (fun X => limbs_any (P5 - 2) hp3 X)
 have HW := hide (fun X => rpower_any a (P5 - 2) (by omega) (by have := P5_lt; omega) X)
 clear ha hp hp2 hp3
 obtain ⟨HsAn, HoAn, HzAn⟩ := nF (a)
 obtain ⟨HsPn, HoPn, HzPn⟩ := nF (P5)
 obtain ⟨HsTn, HoTn, HzTn⟩ := nF (2)
 obtain ⟨HsUn, HoUn, HzUn⟩ := nF (P5 - 2)
 obtain ⟨HsU4, HoU4, HzU4⟩ := b3 (eInfo4 (P5 - 2)) (eOne (P5 - 2)) (eSize 0 (P5 - 2))
 obtain ⟨HsRn, HoRn, HzRn⟩ := b3 (nInfo (pwr a (P5 - 2) 256)) (nOne (pwr a (P5 - 2) 256)) (nSize 0 (pwr a (P5 - 2) 256))
 generalize hAn : n17 (a) = An at *
 have HAn := hide hAn
 clear hAn
 generalize hPn : n17 (P5) = Pn at *
 have HPn := hide hPn
 clear hPn
 generalize hTn : n17 (2) = Tn at *
 have HTn := hide hTn
 clear hTn
 generalize hUn : n17 (P5 - 2) = Un at *
 have HUn := hide hUn
 clear hUn
 generalize hU4 : q4 (P5 - 2) = U4 at *
 have HU4 := hide hU4
 clear hU4
 generalize hRn : n17 (pwr a (P5 - 2) 256) = Rn at *
 have HRn := hide hRn
 clear hRn
 generalize hZn : n17 0 = Zn at *
 have HZn := hide hZn
 clear hZn
 go_enter Tryz.func37, Tryz.ntmps37
 go_wp2_with fail
 generalize (w.alloc (.cells An 56)).alloc (.cells Zn 56) = w1 at *
 refine wp_tail 6 (iv [.agg An, .agg Pn, .agg Tn, .agg Un, .agg U4, .agg Rn]) ?t52 ?r60
 case' t52 => refine ⟨?_, ?_, ?_, ?_, ?_, ?_, trivial⟩ <;> intro ev X hT hb hk hf
 ·exact OpOk.l (x := .tmp 1) hk.1 (on_blk_mul (H1.out.below hT).right) hun HsAn.out
 ·exact OpOk.c0 hb (HP.out X)
 ·exact OpOk.c0 hb (HT.out X)
 ·exact OpOk.c2 (fX ev 4 hf.1) (fX ev 5 hf.2.1) hb (HU.out X)
 ·exact OpOk.c1 (fX ev 6 hf.1) hb (HL.out X)
 ·exact OpOk.c2 (fX ev 3 hf.1) (fX ev 7 hf.2.1) hb (HW.out X)
 intro w2 hX
 rintro _ - _ - _ - _ - _ - _ rfl
 obtain ⟨H2, S2⟩ := nx H1.out S1.out hX
 clear hX H1 S1
 refine Rest.done ?_
 have gR := on_blk_mul H2.out
 have HB := hide (all_below H2.out.right.right S2.out)
 go_wp2_with (first
  | (refine wS gR HsRn HzRn HoRn ?_))
 exact retR Tryz.results37 gR hun HsRn.out rfl HB.out (by omega)
theorem tb_m {W : World} (hL : laidMet Tryz.prog [("bosun/field.modulus", Rows.laid_bosun_field_modulus)] W) : Tb 6 P5 W := by
 have e1 : (Rows.laid_bosun_field_modulus : DataW Unit) = Lib.tabData .u64 ((qs 4 P5).map fun x : Nat => (x : Int)) := by
  rw [show qs 4 P5 = [18446744073709551597, 18446744073709551615, 18446744073709551615, 9223372036854775807] by decide +kernel]; kernel_rfl
 rw [e1] at hL
 have t1 := Lib.tabIs_of_head (g := 6) (t := 126) (e := 50) (n := 4) (by kernel_rfl) (by kernel_rfl) Tryz.underlying126 Tryz.underlying50 (by kernel_rfl) (by kernel_rfl) hL
 intro i hi
 have := t1.cell (g := 6) (by kernel_rfl) i (by rw [List.length_map, qs_len]; exact hi)
 rw [this, List.getD_eq_getElem?_getD, List.getElem?_map, qs_get 4 _ i hi]
 rfl
theorem tb_l {W : World} (hL : laidMet Tryz.prog [("bosun/field.lessTwo", Rows.laid_bosun_field_lessTwo)] W) : Tb 7 (P5 - 2) W := by
 have e1 : (Rows.laid_bosun_field_lessTwo : DataW Unit) = Lib.tabData .u64 ((qs 4 (P5 - 2)).map fun x : Nat => (x : Int)) := by
  rw [show qs 4 (P5 - 2) = [18446744073709551595, 18446744073709551615, 18446744073709551615, 9223372036854775807] by decide +kernel]; kernel_rfl
 rw [e1] at hL
 have t1 := Lib.tabIs_of_head (g := 7) (t := 51) (e := 50) (n := 4) (by kernel_rfl) (by kernel_rfl) Tryz.underlying51 Tryz.underlying50 (by kernel_rfl) (by kernel_rfl) hL
 intro i hi
 have := t1.cell (g := 7) (by kernel_rfl) i (by rw [List.length_map, qs_len]; exact hi)
 rw [this, List.getD_eq_getElem?_getD, List.getElem?_map, qs_get 4 _ i hi]
 rfl
theorem tb_e {W : World} (hL : laidMet Tryz.prog [("bosun/field.eighth", Rows.laid_bosun_field_eighth)] W) : Tb 8 E8 W := by
 have e1 : (Rows.laid_bosun_field_eighth : DataW Unit) = Lib.tabData .u64 ((qs 4 E8).map fun x : Nat => (x : Int)) := by
  rw [show qs 4 E8 = [18446744073709551614, 18446744073709551615, 18446744073709551615, 1152921504606846975] by decide +kernel]; kernel_rfl
 rw [e1] at hL
 have t1 := Lib.tabIs_of_head (g := 8) (t := 51) (e := 50) (n := 4) (by kernel_rfl) (by kernel_rfl) Tryz.underlying51 Tryz.underlying50 (by kernel_rfl) (by kernel_rfl) hL
 intro i hi
 have := t1.cell (g := 8) (by kernel_rfl) i (by rw [List.length_map, qs_len]; exact hi)
 rw [this, List.getD_eq_getElem?_getD, List.getElem?_map, qs_get 4 _ i hi]
 rfl
theorem tb_r {W : World} (hL : laidMet Tryz.prog [("bosun/field.rootOfMinusOne", Rows.laid_bosun_field_rootOfMinusOne)] W) : Tb 9 SqM W := by
 have e1 : (Rows.laid_bosun_field_rootOfMinusOne : DataW Unit) = Lib.tabData .u64 ((qs 4 SqM).map fun x : Nat => (x : Int)) := by
  rw [show qs 4 SqM = [14190309331451158704, 3405592160176694392, 3120150775007532967, 3135389899092516619] by decide +kernel]; kernel_rfl
 rw [e1] at hL
 have t1 := Lib.tabIs_of_head (g := 9) (t := 126) (e := 50) (n := 4) (by kernel_rfl) (by kernel_rfl) Tryz.underlying126 Tryz.underlying50 (by kernel_rfl) (by kernel_rfl) hL
 intro i hi
 have := t1.cell (g := 9) (by kernel_rfl) i (by rw [List.length_map, qs_len]; exact hi)
 rw [this, List.getD_eq_getElem?_getD, List.getElem?_map, qs_get 4 _ i hi]
 rfl
end Fe
end Go.Proofs.YtjdebgbiockafaaGreatDoor
namespace Go.Proofs.YtjdebgbiockafaaGreatDoor
namespace Pr
def Prm (p : Nat) : Prop := 1 < p ∧ ∀ k, k ∣ p → k = 1 ∨ k = p
theorem Prm.cop {p k : Nat} (h : Prm p) (hk : ¬ p ∣ k) : Nat.Coprime p k := by
 rcases h.2 (Nat.gcd p k) (Nat.gcd_dvd_left p k) with h1 | h1
 ·exact h1
 exact absurd (h1 ▸ Nat.gcd_dvd_right p k) hk
def ch : Nat → Nat → Nat
 | _, 0 => 1
 | 0, _ + 1 => 0
 | n + 1, k + 1 => ch n k + ch n (k + 1)
theorem ch_0 (n : Nat) : ch n 0 = 1 := by cases n <;> rfl
theorem ch_gt : ∀ (n k : Nat), n < k → ch n k = 0
 | _, 0, h => by omega
 | 0, k + 1, _ => rfl
 | n + 1, k + 1, h => by
  show ch n k + ch n (k + 1) = 0
  rw [ch_gt n k (by omega), ch_gt n (k + 1) (by omega)]
theorem ch_self : ∀ n : Nat, ch n n = 1
 | 0 => rfl
 | n + 1 => by
  show ch n n + ch n (n + 1) = 1
  rw [ch_self n, ch_gt n (n + 1) (by omega)]
theorem ch_one : ∀ n : Nat, ch n 1 = n
 | 0 => rfl
 | n + 1 => by
  show ch n 0 + ch n 1 = n + 1
  rw [ch_0, ch_one n, Nat.add_comm]
theorem ch_abs : ∀ (n k : Nat), (n + 1) * ch n k = ch (n + 1) (k + 1) * (k + 1)
 | 0, 0 => rfl
 | 0, k + 1 => by
  show 1 * 0 = (0 + ch 0 (k + 2)) * (k + 2)
  rw [ch_gt 0 (k + 2) (by omega)]; simp
 | n + 1, 0 => by
  rw [ch_0, ch_one]
 | n + 1, k + 1 => by
  have h1 := ch_abs n k
  have h2 := ch_abs n (k + 1)
  have e1 : ch (n + 1 + 1) (k + 1 + 1) = ch (n + 1) (k + 1) + ch (n + 1) (k + 1 + 1) := rfl
  have e2 : ch (n + 1) (k + 1) = ch n k + ch n (k + 1) := rfl
  have e3 : ch (n + 1) (k + 1) * (k + 1 + 1) = ch (n + 1) (k + 1) * (k + 1) + ch (n + 1) (k + 1) := Nat.mul_succ _ _
  have e4 : (n + 1 + 1) * ch (n + 1) (k + 1) = (n + 1) * ch (n + 1) (k + 1) + ch (n + 1) (k + 1) := Nat.succ_mul _ _
  have e5 : (n + 1) * ch (n + 1) (k + 1) = (n + 1) * ch n k + (n + 1) * ch n (k + 1) := by rw [e2, Nat.mul_add]
  rw [e1, Nat.add_mul (ch (n + 1) (k + 1)) (ch (n + 1) (k + 1 + 1)) (k + 1 + 1), e3, e4, e5, ← h1, ← h2]
  omega
theorem Prm.ch_dvd {p k : Nat} (h : Prm p) (h0 : 0 < k) (hk : k < p) : p ∣ ch p k := by
 obtain ⟨n, rfl⟩ : ∃ n, p = n + 1 := ⟨p - 1, by omega⟩
 obtain ⟨j, rfl⟩ : ∃ j, k = j + 1 := ⟨k - 1, by omega⟩
 have e := ch_abs n j
 have hc := h.cop (k := j + 1) (fun hd => by have := Nat.le_of_dvd (by omega) hd; omega)
 refine hc.dvd_of_dvd_mul_right (n := j + 1) ?_
 rw [← e]
 exact Nat.dvd_mul_right _ _
def bs (n a : Nat) : Nat → Nat
 | 0 => 0
 | m + 1 => bs n a m + ch n m * a ^ m
theorem bs_succ (n a : Nat) : ∀ m, bs (n + 1) a (m + 1) = bs n a (m + 1) + a * bs n a m
 | 0 => by simp [bs, ch_0]
 | m + 1 => by
  have ih := bs_succ n a m
  have e1 : bs (n + 1) a (m + 1 + 1) = bs (n + 1) a (m + 1) + (ch n m + ch n (m + 1)) * a ^ (m + 1) := rfl
  have e2 : bs n a (m + 1 + 1) = bs n a (m + 1) + ch n (m + 1) * a ^ (m + 1) := rfl
  have e3 : bs n a (m + 1) = bs n a m + ch n m * a ^ m := rfl
  have e4 : a * (ch n m * a ^ m) = ch n m * a ^ (m + 1) := by rw [Nat.pow_succ, Nat.mul_left_comm, Nat.mul_comm a]
  rw [e1, ih, e2, Nat.add_mul]
  have e5 : a * bs n a (m + 1) = a * bs n a m + ch n m * a ^ (m + 1) := by rw [e3, Nat.mul_add, e4]
  rw [e5]; omega
theorem bs_all (a : Nat) : ∀ n, bs n a (n + 1) = (a + 1) ^ n
 | 0 => by simp [bs, ch]
 | n + 1 => by
  have e2 : bs n a (n + 1 + 1) = bs n a (n + 1) + ch n (n + 1) * a ^ (n + 1) := rfl
  rw [bs_succ n a (n + 1), e2, ch_gt n (n + 1) (by omega), Nat.zero_mul, Nat.add_zero, bs_all a n, Nat.pow_succ, Nat.mul_add, Nat.mul_one, Nat.mul_comm a, Nat.add_comm]
theorem Prm.bs_mod {p : Nat} (h : Prm p) (a : Nat) : ∀ m, 1 ≤ m → m ≤ p → bs p a m % p = 1 % p
 | 0, h1, _ => by omega
 | 1, _, _ => by simp [bs, ch_0]
 | m + 2, _, hm => by
  have e : bs p a (m + 2) = bs p a (m + 1) + ch p (m + 1) * a ^ (m + 1) := rfl
  obtain ⟨c, hc⟩ := h.ch_dvd (k := m + 1) (by omega) (by omega)
  rw [e, hc, Nat.mul_assoc, Nat.add_mul_mod_self_left]
  exact h.bs_mod a (m + 1) (by omega) (by omega)
theorem Prm.step {p : Nat} (h : Prm p) (a : Nat) : (a + 1) ^ p % p = (a ^ p + 1) % p := by
 have e : bs p a (p + 1) = bs p a p + ch p p * a ^ p := rfl
 rw [← bs_all, e, ch_self, Nat.one_mul, Nat.add_mod, h.bs_mod a p (by have := h.1; omega) (Nat.le_refl _), ← Nat.add_mod, Nat.add_comm]
theorem Prm.flt {p : Nat} (h : Prm p) : ∀ a, a ^ p % p = a % p
 | 0 => by rw [Nat.zero_pow (by have := h.1; omega)]
 | a + 1 => by rw [h.step, Nat.add_mod, h.flt a, ← Nat.add_mod]
theorem Prm.fermat {p : Nat} (h : Prm p) (a : Nat) (ha : ¬ p ∣ a) : a ^ (p - 1) % p = 1 := by
 have h1 := h.1
 have hf := Nat.sub_mod_eq_zero_of_mod_eq (h.flt a)
 have e : a ^ p - a = a * (a ^ (p - 1) - 1) := by
  rw [Nat.mul_sub, Nat.mul_one]
  congr 1
  conv => lhs; rw [show p = (p - 1) + 1 by omega, Nat.pow_succ, Nat.mul_comm]
 rw [e] at hf
 have hd := (h.cop ha).dvd_of_dvd_mul_left (Nat.dvd_of_mod_eq_zero hf)
 obtain ⟨c, hc⟩ := hd
 have ha0 : 0 < a := Nat.pos_of_ne_zero fun h0 => ha (h0 ▸ Nat.dvd_zero p)
 have hp : 0 < a ^ (p - 1) := Nat.pow_pos ha0
 rw [show a ^ (p - 1) = 1 + p * c by omega, Nat.add_mul_mod_self_left, Nat.mod_eq_of_lt h1]
def One (d a e : Nat) : Prop := a ^ e % d = 1 % d
theorem One.mul {d a e : Nat} (h : One d a e) (c : Nat) : One d a (e * c) := by
 unfold One at *
 rw [Nat.pow_mul, Nat.pow_mod, h, ← Nat.pow_mod, Nat.one_pow]
theorem One.gcd {d a : Nat} (m n : Nat) : One d a m → One d a n → One d a (Nat.gcd m n) := by
 refine Nat.gcd.induction (P := fun m n => One d a m → One d a n → One d a (Nat.gcd m n)) m n ?_ ?_
 ·intro n _ h; rwa [Nat.gcd_zero_left]
 intro m n hm ih h1 h2
 rw [Nat.gcd_rec]
 refine ih ?_ h1
 have h3 := h1.mul (n / m)
 unfold One at *
 have e : a ^ n = a ^ (m * (n / m)) * a ^ (n % m) := by rw [← Nat.pow_add, Nat.div_add_mod]
 rw [e, Nat.mul_mod, h3, ← Nat.mul_mod, Nat.one_mul] at h2
 exact h2
theorem exists_prm (n : Nat) : 1 < n → ∃ d, Prm d ∧ d ∣ n := by
 induction n using Nat.strongRecOn with
 | ind n ih =>
  intro h1
  by_cases hp : Prm n
  ·exact ⟨n, hp, Nat.dvd_refl n⟩
  have : ∃ k, k ∣ n ∧ k ≠ 1 ∧ k ≠ n := Classical.byContradiction fun hx => hp ⟨h1, fun k hk => Classical.byContradiction fun hne => hx ⟨k, hk, fun e => hne (.inl e), fun e => hne (.inr e)⟩⟩
  obtain ⟨k, hk, hk1, hkn⟩ := this
  have hle := Nat.le_of_dvd (by omega) hk
  have hk0 : k ≠ 0 := fun e => by rw [e] at hk; have := Nat.eq_zero_of_zero_dvd hk; omega
  obtain ⟨d, hd, hdk⟩ := ih k (by omega) (by omega)
  exact ⟨d, hd, Nat.dvd_trans hdk hk⟩
theorem small_prm (n : Nat) (h1 : 1 < n) (hp : ¬ Prm n) : ∃ d, Prm d ∧ d ∣ n ∧ d * d ≤ n := by
 have : ∃ k, k ∣ n ∧ k ≠ 1 ∧ k ≠ n := Classical.byContradiction fun hx => hp ⟨h1, fun k hk => Classical.byContradiction fun hne => hx ⟨k, hk, fun e => hne (.inl e), fun e => hne (.inr e)⟩⟩
 obtain ⟨k, ⟨v, rfl⟩, hk1, hkn⟩ := this
 have hk0 : k ≠ 0 := fun e => by rw [e, Nat.zero_mul] at h1; omega
 have hv0 : v ≠ 0 := fun e => by rw [e, Nat.mul_zero] at h1; omega
 have hv1 : v ≠ 1 := fun e => hkn (by rw [e, Nat.mul_one])
 rcases Nat.le_total k v with hkv | hkv
 ·obtain ⟨d, hd, hdk⟩ := exists_prm k (by omega)
  have := Nat.le_of_dvd (by omega) hdk
  exact ⟨d, hd, Nat.dvd_trans hdk (Nat.dvd_mul_right _ _), Nat.mul_le_mul this (Nat.le_trans this hkv)⟩
 obtain ⟨d, hd, hdk⟩ := exists_prm v (by omega)
 have := Nat.le_of_dvd (by omega) hdk
 exact ⟨d, hd, Nat.dvd_trans hdk (Nat.dvd_mul_left _ _), Nat.mul_le_mul (Nat.le_trans this hkv) this⟩
def sqm (n h : Nat) : Nat := h * h % n
def pm (n a : Nat) : Nat → Nat → Nat
 | 0, _ => 1 % n
 | f + 1, e => if e % 2 = 1 then sqm n (pm n a f (e / 2)) * a % n else sqm n (pm n a f (e / 2))
theorem pm_eq (n a : Nat) : ∀ (f e : Nat), e < 2 ^ f → pm n a f e = a ^ e % n
 | 0, e, h => by
  obtain rfl : e = 0 := by simpa using h
  rfl
 | f + 1, e, h => by
  have ih := pm_eq n a f (e / 2) (by rw [Nat.pow_succ] at h; omega)
  have hs : sqm n (pm n a f (e / 2)) = a ^ (2 * (e / 2)) % n := by
   unfold sqm
   rw [ih, ← Nat.mul_mod, ← Nat.pow_add]; congr 2; omega
  unfold pm
  rw [hs]
  split
  ·rename_i h1
   rw [Nat.mod_mul_mod, ← Nat.pow_succ]; congr 2; omega
  congr 2; omega
theorem pock_one (n q m a d : Nat) (hq : Prm q) (hd : Prm d) (hdn : d ∣ n) (h0 : 0 < n) (h1 : n - 1 = q * m) (ho : One d a (n - 1)) (hda : One d a (d - 1)) (g : Nat.gcd (a ^ m % n + (n - 1)) n = 1) : q ∣ d - 1 := by
 refine Classical.byContradiction fun hnd => ?_
 have hc := hq.cop hnd
 have hg := One.gcd _ _ ho hda
 rw [h1, hc.gcd_mul_left_cancel] at hg
 have hm : One d a m := by
  obtain ⟨c, hc⟩ := Nat.gcd_dvd_left m (d - 1)
  have := hg.mul c
  rwa [← hc] at this
 have h2 : a ^ m % n % d = 1 := by
  rw [Nat.mod_mod_of_dvd _ hdn]
  have h3 : a ^ m % d = 1 % d := hm
  rw [h3, Nat.mod_eq_of_lt hd.1]
 have h3 : d ∣ a ^ m % n + (n - 1) := by
  obtain ⟨e, rfl⟩ := hdn
  have h4 := Nat.div_add_mod (a ^ m % (d * e)) d
  rw [h2] at h4
  refine ⟨a ^ m % (d * e) / d + e, ?_⟩
  rw [Nat.mul_add]; omega
 have h4 := Nat.dvd_gcd h3 hdn
 rw [g] at h4
 have := Nat.le_of_dvd (by decide) h4
 have := hd.1
 omega
theorem pock (n q s m1 m2 a : Nat) (hn : 1 < n) (hq : Prm q) (hs : Prm s) (hne : q ≠ s) (h1 : n - 1 = q * m1) (h2 : n - 1 = s * m2) (hf : pm n a 256 (n - 1) = 1)
  (g1 : Nat.gcd (pm n a 256 m1 + (n - 1)) n = 1) (g2 : Nat.gcd (pm n a 256 m2 + (n - 1)) n = 1) (hb : n < q * s * (q * s)) (hlt : n < 2 ^ 256) : Prm n := by
 refine Classical.byContradiction fun hp => ?_
 obtain ⟨d, hd, hdn, hdd⟩ := small_prm n hn hp
 have hm1 : m1 ≤ n - 1 := by rw [h1]; exact Nat.le_mul_of_pos_left _ (by have := hq.1; omega)
 have hm2 : m2 ≤ n - 1 := by rw [h2]; exact Nat.le_mul_of_pos_left _ (by have := hs.1; omega)
 rw [pm_eq _ _ _ _ (by omega)] at hf g1 g2
 have ho : One d a (n - 1) := by
  unfold One
  rw [← Nat.mod_mod_of_dvd _ hdn, hf]
 have hda : ¬ d ∣ a := fun hx => by
  have h3 : d ∣ a ^ (n - 1) := Nat.dvd_trans hx (by
   obtain ⟨k, hk⟩ : ∃ k, n - 1 = k + 1 := ⟨n - 2, by omega⟩
   rw [hk, Nat.pow_succ]; exact Nat.dvd_mul_left _ _)
  have h4 : a ^ (n - 1) % d = 1 % d := ho
  rw [Nat.mod_eq_zero_of_dvd h3, Nat.mod_eq_of_lt hd.1] at h4
  omega
 have hF : One d a (d - 1) := by
  unfold One
  rw [hd.fermat a hda, Nat.mod_eq_of_lt hd.1]
 have k1 := pock_one n q m1 a d hq hd hdn (by omega) h1 ho hF g1
 have k2 := pock_one n s m2 a d hs hd hdn (by omega) h2 ho hF g2
 have hc : Nat.Coprime q s := hq.cop fun hx => by
  rcases hs.2 q hx with e | e
  ·have := hq.1; omega
  exact hne e
 have k3 := hc.mul_dvd_of_dvd_of_dvd k1 k2
 have h5 := hd.1
 have k4 := Nat.le_of_dvd (by omega) k3
 have k5 : q * s * (q * s) ≤ d * d := Nat.mul_le_mul (by omega) (by omega)
 omega
def td (n : Nat) : Nat → Nat → Bool
 | 0, _ => true
 | f + 1, k => n % k != 0 && td n f (k + 1)
theorem td_ok (n : Nat) : ∀ (f k : Nat), td n f k = true → ∀ j, k ≤ j → j < k + f → ¬ j ∣ n
 | 0, k, _, j, h1, h2 => by omega
 | f + 1, k, h, j, h1, h2 => by
  simp only [td, Bool.and_eq_true, bne_iff_ne, ne_eq] at h
  rcases Nat.eq_or_lt_of_le h1 with rfl | h3
  ·exact fun hd => h.1 (Nat.mod_eq_zero_of_dvd hd)
  exact td_ok n f (k + 1) h.2 j h3 (by omega)
theorem prm_td (n f : Nat) (hn : 1 < n) (h : td n f 2 = true) (hf : n < (2 + f) * (2 + f)) : Prm n := by
 refine Classical.byContradiction fun hp => ?_
 obtain ⟨d, hd, hdn, hdd⟩ := small_prm n hn hp
 refine td_ok n f 2 h d hd.1 ?_ hdn
 exact Nat.lt_of_not_le fun hle => by
  have := Nat.mul_le_mul hle hle
  omega
theorem prm_7 : Prm 7 := prm_td 7 2 (by decide) (by decide +kernel) (by decide)
theorem prm_3 : Prm 3 := prm_td 3 1 (by decide) (by decide +kernel) (by decide)
theorem prm_353 : Prm 353 := prm_td 353 18 (by decide) (by decide +kernel) (by decide)
theorem prm_75707 : Prm 75707 := prm_td 75707 275 (by decide) (by decide +kernel) (by decide)
theorem prm_8574133 : Prm 8574133 := prm_td 8574133 2928 (by decide) (by decide +kernel) (by decide)
theorem prm_1919519569386763 : Prm 1919519569386763 := pock 1919519569386763 8574133 7 223873314 274217081340966 2 (by decide) prm_8574133 prm_7 (by decide) (by decide +kernel) (by decide +kernel) (by decide +kernel) (by decide +kernel) (by decide +kernel) (by decide +kernel) (by decide)
theorem prm_75445702479781427272750846543864801 : Prm 75445702479781427272750846543864801 := pock 75445702479781427272750846543864801 1919519569386763 75707 39304471641247389600 996548568557483816196003626400 2 (by decide) prm_1919519569386763 prm_75707 (by decide) (by decide +kernel) (by decide +kernel) (by decide +kernel) (by decide +kernel) (by decide +kernel) (by decide +kernel) (by decide)
theorem prm_74058212732561358302231226437062788676166966415465897661863160754340907 : Prm 74058212732561358302231226437062788676166966415465897661863160754340907 := pock 74058212732561358302231226437062788676166966415465897661863160754340907 75445702479781427272750846543864801 353 981609426360740691344999861639072106 209796636636151156663544550813209033076960244803019540118592523383402 2 (by decide) prm_75445702479781427272750846543864801 prm_353 (by decide) (by decide +kernel) (by decide +kernel) (by decide +kernel) (by decide +kernel) (by decide +kernel) (by decide +kernel) (by decide)
theorem prm_P5 : Prm 57896044618658097711785492504343953926634992332820282019728792003956564819949 := pock 57896044618658097711785492504343953926634992332820282019728792003956564819949 74058212732561358302231226437062788676166966415465897661863160754340907 3 781764 19298681539552699237261830834781317975544997444273427339909597334652188273316 2 (by decide) prm_74058212732561358302231226437062788676166966415465897661863160754340907 prm_3 (by decide) (by decide +kernel) (by decide +kernel) (by decide +kernel) (by decide +kernel) (by decide +kernel) (by decide +kernel) (by decide)
end Pr
end Go.Proofs.YtjdebgbiockafaaGreatDoor
namespace Go.Proofs.YtjdebgbiockafaaGreatDoor
namespace Fe
open Go.ChangeShapes Go.WideShapes Go.ChangeAt Go.RowKit
theorem prime5 : Pr.Prm P5 := Pr.prm_P5
theorem pwr_pow (a e : Nat) (he : e < 2 ^ 256) : ∀ k, k ≤ 256 → pwr a e k = a ^ (e / 2 ^ (256 - k)) % P5
 | 0, _ => by
  rw [Nat.div_eq_of_lt he, Nat.pow_zero]
  show 1 = 1 % P5
  decide
 | k + 1, hk => by
  have ih := pwr_pow a e he k (by omega)
  show stepP a e k (pwr a e k) = _
  have e1 : e / 2 ^ (255 - k) / 2 = e / 2 ^ (256 - k) := by rw [Nat.div_div_eq_div_mul, ← Nat.pow_succ]; congr 2; omega
  rw [show 256 - (k + 1) = 255 - k by omega]
  unfold stepP
  rw [ih, Nat.testBit_eq_decide_div_mod_eq]
  generalize e / 2 ^ (255 - k) = m at *
  rw [← e1, ← Nat.mul_mod, ← Nat.pow_add]
  by_cases hb : m % 2 = 1
  ·rw [if_pos (by simpa using hb), Nat.mod_mul_mod, ← Nat.pow_succ]
   congr 2; omega
  rw [if_neg (by simpa using hb)]
  congr 2; omega
theorem pwr_all (a e : Nat) (he : e < 2 ^ 256) : pwr a e 256 = a ^ e % P5 := by
 have := pwr_pow a e he 256 (Nat.le_refl _)
 rwa [Nat.sub_self, Nat.pow_zero, Nat.div_one] at this
theorem inv_one (x : Nat) (h0 : x ≠ 0) (hx : x < P5) : x * pwr x (P5 - 2) 256 % P5 = 1 := by
 rw [pwr_all _ _ (by decide +kernel), Nat.mul_mod_mod, Nat.mul_comm, ← Nat.pow_succ, show (P5 - 2).succ = P5 - 1 by decide +kernel]
 exact prime5.fermat x (fun hd => by have := Nat.le_of_dvd (by omega) hd; omega)
theorem neg_mul (p x y : Nat) (hp : 0 < p) (hx : x ≤ p) : ((p - x) % p * y) % p = (p - x * y % p) % p := by
 rw [Nat.mod_mul_mod]
 have hs : (p - x) * y + x * y = p * y := by rw [← Nat.add_mul]; congr 1; omega
 have h : ((p - x) * y % p + x * y % p) % p = 0 := by rw [← Nat.add_mod, hs, Nat.mul_mod_right]
 have hu := Nat.mod_lt ((p - x) * y) hp
 have hv := Nat.mod_lt (x * y) hp
 generalize (p - x) * y % p = u at *
 generalize x * y % p = v at *
 rcases Nat.lt_or_ge (u + v) p with h1 | h1
 ·rw [Nat.mod_eq_of_lt h1] at h
  obtain rfl : u = 0 := by omega
  obtain rfl : v = 0 := by omega
  rw [Nat.sub_zero, Nat.mod_self]
 rw [Nat.mod_eq_sub_mod h1, Nat.mod_eq_of_lt (by omega)] at h
 rw [Nat.mod_eq_of_lt (by omega)]; omega
theorem add_two (u v : Nat) (hu : u < P5) (hv : v < P5) (vv : Value) (X : World) (h1 : IsEl X vv [u, v]) (h2 : Tab5 X) : Calls Tryz.prog 100 #[vv] X fun e w' => e = .returned (.agg (q4 ((u + v) % P5))) ∧ Below X.heap.size X w' := by
 have := add_any vv [u, v] (by simp only [List.mem_cons, List.not_mem_nil, or_false]; rintro t (rfl | rfl) <;> assumption) (show 2 < 1000 by decide) X h1 h2
 rwa [show sumP [u, v] = (u + v) % P5 by simp only [sumP, List.foldl_cons, List.foldl_nil, Nat.zero_add]; rw [Nat.mod_eq_of_lt hu]] at this
theorem mul_two (u v : Nat) (hu : u < P5) (hv : v < P5) (vv : Value) (X : World) (h1 : IsEl X vv [u, v]) (h2 : Tab5 X) : Calls Tryz.prog 99 #[vv] X fun e w' => e = .returned (.agg (q4 (u * v % P5))) ∧ Below X.heap.size X w' := by
 have := mul_any vv [u, v] (by simp only [List.mem_cons, List.not_mem_nil, or_false]; rintro t (rfl | rfl) <;> assumption) (show 2 < 1000 by decide) X h1 h2
 rwa [show mulP [u, v] = u * v % P5 from rfl] at this
def HF : Nat := 28948022309329048855892746252171976963317496166410141009864396001978282409974
def QF : Nat := 14474011154664524427946373126085988481658748083205070504932198000989141204987
theorem HF_lt : HF < 2 ^ 256 := by decide +kernel
theorem sq_two (r x : Nat) (hr : r < P5) (hx : x < P5) (h : r * r % P5 = x * x % P5) : r = x ∨ r = (P5 - x) % P5 := by
 have key : ∀ u v : Nat, u < P5 → v < P5 → v ≤ u → u * u % P5 = v * v % P5 → u = v ∨ u + v = 0 ∨ u + v = P5 := by
  intro u v hu hv hle h
  have h1 := Nat.sub_mod_eq_zero_of_mod_eq h
  rw [Nat.mul_self_sub_mul_self_eq] at h1
  have h2 := Nat.dvd_of_mod_eq_zero h1
  by_cases hd : P5 ∣ u + v
  ·obtain ⟨c, hc⟩ := hd
   have hc2 : c < 2 := by
    rcases Nat.lt_or_ge c 2 with h3 | h3
    ·exact h3
    have := Nat.mul_le_mul_left P5 h3
    omega
   rcases (show c = 0 ∨ c = 1 by omega) with rfl | rfl
   ·exact .inr (.inl (by rw [hc, Nat.mul_zero]))
   exact .inr (.inr (by rw [hc, Nat.mul_one]))
  have h3 := (prime5.cop hd).dvd_of_dvd_mul_left h2
  refine .inl ?_
  rcases Nat.eq_zero_or_pos (u - v) with h4 | h4
  ·omega
  have := Nat.le_of_dvd h4 h3; omega
 have hfin : r = x ∨ r + x = 0 ∨ r + x = P5 := by
  rcases Nat.le_total x r with hle | hle
  ·exact key r x hr hx hle h
  rcases key x r hx hr hle h.symm with h1 | h1 | h1
  ·exact .inl h1.symm
  ·exact .inr (.inl (by omega))
  exact .inr (.inr (by omega))
 rcases hfin with h1 | h1 | h1
 ·exact .inl h1
 ·exact .inl (by omega)
 rcases Nat.eq_zero_or_pos x with h2 | h2
 ·omega
 exact .inr (by rw [Nat.mod_eq_of_lt (by omega)]; omega)
theorem pow_full (x : Nat) (h0 : x ≠ 0) (hx : x < P5) : x ^ (P5 - 1) % P5 = 1 := prime5.fermat x (fun hd => by have := Nat.le_of_dvd (by omega) hd; omega)
theorem sq_pow (r a : Nat) (h : r * r % P5 = a) (h0 : a ≠ 0) (hr : r < P5) : a ^ HF % P5 = 1 := by
 have hr0 : r ≠ 0 := fun e => h0 (by rw [← h, e]; decide)
 rw [← h, ← Nat.pow_mod, ← Nat.pow_two, ← Nat.pow_mul, show 2 * HF = P5 - 1 by decide +kernel]
 exact pow_full r hr0 hr
theorem root2_of (a : Nat) (ha : a < P5) (h : a ^ HF % P5 = 1) : root2 a * root2 a % P5 = a := by
 by_cases h1 : root1 a * root1 a % P5 = a
 ·unfold root2; rw [if_pos h1]; exact h1
 have hr1 : root1 a = a ^ E8 % P5 := pwr_all a E8 (by decide +kernel)
 have hsq : root1 a * root1 a % P5 = a * (a ^ QF % P5) % P5 := by
  rw [hr1, ← Nat.mul_mod, ← Nat.pow_add, Nat.mul_mod_mod, Nat.mul_comm a, ← Nat.pow_succ, show E8 + E8 = QF.succ by decide +kernel]
 have ht : (a ^ QF % P5) * (a ^ QF % P5) % P5 = 1 * 1 % P5 := by
  rw [← Nat.mul_mod, ← Nat.pow_add, show QF + QF = HF by decide +kernel, h]; decide
 rcases sq_two _ 1 (Nat.mod_lt _ P5_pos) (by decide) ht with h2 | h2
 ·rw [h2, Nat.mul_one, Nat.mod_eq_of_lt ha] at hsq
  exact absurd hsq h1
 rw [h2] at hsq
 unfold root2
 rw [if_neg h1]
 have hs : SqM * SqM % P5 = (P5 - 1) % P5 := by decide +kernel
 have hm : (P5 - 1) % P5 * ((P5 - 1) % P5) % P5 = 1 := by decide +kernel
 generalize root1 a = r at *
 generalize SqM = s at *
 generalize (P5 - 1) % P5 = m at *
 rw [← Nat.mul_mod, show r * s * (r * s) = (r * r) * (s * s) by ac_rfl, Nat.mul_mod, hsq, hs, Nat.mod_mul_mod, Nat.mul_assoc, Nat.mul_mod, hm, Nat.mul_one, Nat.mod_mod, Nat.mod_eq_of_lt ha]
theorem root2_lt (a : Nat) : root2 a < P5 := by
 unfold root2
 split
 ·exact pwr_lt _ _ _
 exact Nat.mod_lt _ P5_pos
theorem root2_zero : root2 0 * root2 0 % P5 = 0 := by
 have h : root1 0 = 0 := by
  have := pwr_all 0 E8 (by decide +kernel)
  rw [show root1 0 = pwr 0 E8 256 from rfl, this, Nat.zero_pow (by decide)]; decide
 unfold root2
 rw [h, if_pos (by decide)]; decide
def evenR (r : Nat) : Nat := if r % 2 = 1 then (P5 - r) % P5 else r
theorem evenR_ok (r : Nat) (hr : r < P5) : evenR r < P5 ∧ evenR r % 2 = 0 ∧ evenR r * evenR r % P5 = r * r % P5 := by
 unfold evenR
 split
 ·rename_i h
  have hp : P5 % 2 = 1 := by decide
  have e : (P5 - r) % P5 = P5 - r := Nat.mod_eq_of_lt (by omega)
  refine ⟨Nat.mod_lt _ P5_pos, by rw [e]; omega, ?_⟩
  have h1 := neg_mul P5 r ((P5 - r) % P5) P5_pos (by omega)
  have h2 := neg_mul P5 r r P5_pos (by omega)
  rw [h1, Nat.mul_comm r, h2]
  generalize r * r = t
  have ht := Nat.mod_lt t P5_pos
  have hP := P5_pos
  generalize t % P5 = v at *
  rcases Nat.eq_zero_or_pos v with rfl | hv
  ·decide +kernel
  have e1 : (P5 - v) % P5 = P5 - v := Nat.mod_eq_of_lt (by omega)
  rw [e1, show P5 - (P5 - v) = v by omega, Nat.mod_eq_of_lt ht]
 exact ⟨hr, by omega, rfl⟩
theorem rootV_if (a : Nat) : rootV a = if root2 a * root2 a % P5 = a then .tuple #[.agg (q4 (evenR (root2 a))), .bool true] else .tuple #[.agg (q4 0), .bool false] := by
 unfold rootV evenR
 split
 ·split <;> rfl
 rfl
theorem eq_n17 (X : World) (d a b : Nat) (ha : a < 2 ^ 255) (hb : b < 2 ^ 255) : (Op.equalIn (d + 2) 56 (.agg (n17 a)) (.agg (n17 b))).run Tryz.prog X = .ok (decide (a = b)) X := by
 have h := run_eq_ints (P := Tryz.prog) X d 56 3 17 .i64 Tryz.underlying56 Tryz.underlying3 (by kernel_rfl) ((ds 17 a).map fun x : Nat => (x : Int)) ((ds 17 b).map fun x : Nat => (x : Int)) (by simp [ds_len]) (by simp [ds_len])
 rw [List.map_map, List.map_map] at h
 refine Eq.trans h (congrArg (fun b => Result.ok b X) (decide_eq_decide.2 ⟨fun h => ?_, fun h => by rw [h]⟩))
 refine ds_inj a b ha hb (List.ext_getElem? fun j => ?_)
 have h2 := congrArg (fun l => l[j]?) h
 simp only [List.getElem?_map] at h2
 cases h3 : (ds 17 a)[j]? with
 | none => rw [h3] at h2; cases h4 : (ds 17 b)[j]? with
  | none => rfl
  | some y => rw [h4] at h2; simp at h2
 | some x => rw [h3] at h2; cases h4 : (ds 17 b)[j]? with
  | none => rw [h4] at h2; simp at h2
  | some y => rw [h4] at h2; simp at h2; rw [Int.ofNat_inj.1 h2]
end Fe
end Go.Proofs.YtjdebgbiockafaaGreatDoor
