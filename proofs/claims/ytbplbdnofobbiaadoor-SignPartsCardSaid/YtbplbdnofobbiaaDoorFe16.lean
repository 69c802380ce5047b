/- MERGED. the document's numbers: products. the document's numbers: powers; the law's numbers of both kinds. -/
import Derived.Test.YtbplbdnofobbiaaDoorFe14
set_option linter.unusedVariables false
set_option linter.unusedSimpArgs false
set_option maxRecDepth 100000
set_option maxHeartbeats 8000000
namespace Go.Proofs.YtbplbdnofobbiaaDoor
namespace Fe
open Go.ChangeShapes Go.WideShapes Go.ChangeAt Go.RowKit
def lf (l : List Nat) : List Nat := List.zipWith (fun x y => x + 19 * y) (l.take 17) (l.drop 17)
theorem dval_zip19 : ∀ (a b : List Nat), a.length = b.length → dval (List.zipWith (fun x y => x + 19 * y) a b) = dval a + 19 * dval b
 | [], [], _ => rfl
 | x :: a, y :: b, h => by
  have := dval_zip19 a b (by simpa using h)
  simp only [List.zipWith_cons_cons, dval, this]; omega
theorem lf_len (l : List Nat) (h : l.length = 34) : (lf l).length = 17 := by simp [lf, h]
theorem lf_get (l : List Nat) (j x y : Nat) (hj : j < 17) (hx : l[j]? = some x) (hy : l[j + 17]? = some y) : (lf l)[j]? = some (x + 19 * y) := by
 unfold lf
 rw [List.getElem?_zipWith, List.getElem?_take, if_pos hj, hx, List.getElem?_drop, Nat.add_comm 17 j, hy]
theorem zip19_le (M : Nat) : ∀ (a b : List Nat), (∀ x ∈ a, x ≤ M) → (∀ x ∈ b, x ≤ M) → ∀ z ∈ List.zipWith (fun x y => x + 19 * y) a b, z ≤ 20 * M
 | [], _, _, _, z, hz => by simp at hz
 | _ :: _, [], _, _, z, hz => by simp at hz
 | x :: a, y :: b, ha, hb, z, hz => by
  rw [List.zipWith_cons_cons] at hz
  rcases List.mem_cons.1 hz with rfl | hz
  ·have := ha x List.mem_cons_self
   have := hb y List.mem_cons_self
   omega
  ·exact zip19_le M a b (fun u hu => ha u (List.mem_cons_of_mem _ hu)) (fun u hu => hb u (List.mem_cons_of_mem _ hu)) z hz
theorem lf_le (l : List Nat) (M : Nat) (h : ∀ x ∈ l, x ≤ M) : ∀ x ∈ lf l, x ≤ 20 * M :=
 zip19_le M _ _ (fun x hx => h x (List.mem_of_mem_take hx)) (fun x hx => h x (List.mem_of_mem_drop hx))
theorem lf_mod (l : List Nat) (h : l.length = 34) : dval (lf l) % P5 = dval l % P5 := by
 unfold lf
 rw [dval_zip19 _ _ (by simp [h])]
 have e : dval l = dval (l.take 17) + 32768 ^ 17 * dval (l.drop 17) := by
  conv => lhs; rw [← List.take_append_drop 17 l]
  rw [dval_append, List.length_take, h]; rfl
 rw [e, D17, P5_255, Nat.add_mul, Nat.add_comm (P5 * _), ← Nat.add_assoc, Nat.add_mul_mod_self_left]
structure Wd (a b i k : Nat) (l : List Nat) : Prop where
 len : l.length = 34
 le : ∀ x ∈ l, x ≤ (17 * i + k) * 1073741824
 val : dval l = a % 32768 ^ i * b + 32768 ^ i * (dg a i * (b % 32768 ^ k))
theorem dval_rep (m : Nat) : dval (List.replicate m 0) = 0 := by
 induction m with
 | zero => rfl
 | succ m ih => rw [List.replicate_succ, dval, ih]
theorem Wd.start (a b : Nat) : Wd a b 0 0 (List.replicate 34 0) :=
 ⟨List.length_replicate, fun x hx => by rw [List.eq_of_mem_replicate hx]; exact Nat.zero_le _, by rw [dval_rep, Nat.pow_zero, Nat.mod_one, Nat.mod_one, Nat.zero_mul, Nat.mul_zero, Nat.mul_zero]⟩
theorem Wd.step {a b i k : Nat} {l : List Nat} (h : Wd a b i k l) (x : Nat) (hx : l[i + k]? = some x) : Wd a b i (k + 1) (l.set (i + k) (x + dg a i * dg b k)) := by
 have hd := dval_set l (i + k) (x + dg a i * dg b k) x hx
 have h1 := dg_lt a i
 have h2 := dg_lt b k
 have h3 : dg a i * dg b k ≤ 32767 * 32767 := Nat.mul_le_mul (by omega) (by omega)
 refine ⟨by rw [List.length_set]; exact h.len, ?_, ?_⟩
 ·intro y hy
  rcases List.mem_or_eq_of_mem_set hy with hy | rfl
  ·exact Nat.le_trans (h.le y hy) (Nat.mul_le_mul_right _ (by omega))
  ·have h5 := h.le x (List.mem_of_getElem? hx)
   have h4 : dg a i * dg b k ≤ 1073741824 := Nat.le_trans h3 (by decide)
   rw [← Nat.add_assoc, Nat.add_mul _ 1, Nat.one_mul]
   exact Nat.add_le_add h5 h4
 ·have hv := h.val
  rw [mod_dg b k]
  have e : 32768 ^ i * (dg a i * (b % 32768 ^ k + 32768 ^ k * dg b k)) = 32768 ^ i * (dg a i * (b % 32768 ^ k)) + 32768 ^ (i + k) * (dg a i * dg b k) := by
   rw [Nat.mul_add, Nat.mul_add, Nat.pow_add]
   congr 1
   ac_rfl
  rw [e]
  rw [Nat.mul_add] at hd
  omega
theorem Wd.row {a b i : Nat} {l : List Nat} (hb : b < 2 ^ 255) (h : Wd a b i 17 l) : Wd a b (i + 1) 0 l := by
 refine ⟨h.len, fun x hx => by have := h.le x hx; omega, ?_⟩
 rw [h.val, D17, Nat.mod_eq_of_lt hb, Nat.pow_zero, Nat.mod_one, Nat.mul_zero, Nat.mul_zero, Nat.add_zero, mod_dg, Nat.add_mul]
 congr 1
 ac_rfl
theorem Wd.done {a b : Nat} {l : List Nat} (ha : a < 2 ^ 255) (h : Wd a b 17 0 l) : dval (lf l) % P5 = a * b % P5 ∧ ∀ x ∈ lf l, x ≤ 1152921504606846976 := by
 constructor
 ·rw [lf_mod l h.len, h.val, D17, Nat.mod_eq_of_lt ha, Nat.pow_zero, Nat.mod_one, Nat.mul_zero, Nat.mul_zero, Nat.add_zero]
 ·intro x hx
  have := lf_le l _ h.le x hx
  omega
theorem rmul_any (a b : Nat) (ha : a < 2 ^ 255) (hb : b < 2 ^ 255) (w : World) :
  Calls Tryd.prog 42 #[.agg (n17 a), .agg (n17 b)] w fun e w' => e = .returned (.agg (n17 (a * b % P5))) ∧ Below w.heap.size w w' := by
 have hun := Tryd.underlying29
 have hzn := nZero
 have h0 := (((on_all w).alloc (.cells (n17 (a)) 29)).alloc (.cells (n17 (b)) 29)).alloc (.cells (n17 0) 29)
 have s0 := (((Str.refl w).alloc (.cells (n17 (a)) 29)).alloc (.cells (n17 (b)) 29)).alloc (.cells (n17 0) 29)
 try simp only [World.size_alloc] at h0
 have H1 := hide h0
 have S1 := hide s0
 clear h0 s0
 have hzw : ∀ w, (zeroValue 113).run Tryd.prog w = .ok (.agg (dvs (List.replicate 34 0))) w := fun w => by kernel_rfl
 have h34 := H1.out.alloc (.cells (dvs (List.replicate 34 0)) 113)
 simp only [World.size_alloc] at h34
 have H2 := hide h34
 have S2 := hide (S1.out.alloc (.cells (dvs (List.replicate 34 0)) 113))
 have Ha := hide ha
 have Hb := hide hb
 have HcA0 := hide (fun k (h : k < 17) => dvs_get _ _ _ (ds_get 17 a k h))
 have HcA0 : Hid (∀ k, k < 17 → (n17 a)[k]? = some (nv (dg a k))) := HcA0
 have HcB0 := hide (fun k (h : k < 17) => dvs_get _ _ _ (ds_get 17 b k h))
 have HcB0 : Hid (∀ k, k < 17 → (n17 b)[k]? = some (nv (dg b k))) := HcB0
 have HzL := hide nz_lit
 clear h34 ha hb H1 S1
 obtain ⟨HsAn, HoAn, HzAn⟩ := nF (a)
 obtain ⟨HsBn, HoBn, HzBn⟩ := nF (b)
 obtain ⟨HsRn, HoRn, HzRn⟩ := nF (a * b % P5)
 generalize hAn : n17 (a) = An at *
 have HAn := hide hAn
 clear hAn
 generalize hBn : n17 (b) = Bn at *
 have HBn := hide hBn
 clear hBn
 generalize hRn : n17 (a * b % P5) = Rn at *
 have HRn := hide hRn
 clear hRn
 generalize hZn : n17 0 = Zn at *
 have HZn := hide hZn
 clear hZn
 go_enter Tryd.func42, Tryd.ntmps42
 generalize hZw : dvs (List.replicate 34 0) = Zw at *
 have HZw := hide hZw
 clear hZw
 go_wp2_with fail
 generalize (((w.alloc (.cells An 29)).alloc (.cells Bn 29)).alloc (.cells Zn 29)).alloc (.cells Zw 113) = w2 at *
 go_loopw [6] (fun i wr => ∃ k : Nat, k ≤ 17 ∧ i = .int .i64 k ∧ ∃ l, Wd a b k 0 l ∧ (blk (w.heap.size + 1 + 1 + 1) (.cells (dvs l) 113 (0, 0)) * (blk (w.heap.size + 1 + 1) (.cells Zn 29 (0, 0)) * (blk (w.heap.size + 1) (.cells Bn 29 (0, 0)) * (blk w.heap.size (.cells An 29 (0, 0)) * all w)))).on wr ∧ Str w wr) (fun i _ => 17 - (intOf i).toNat)
 case atStart => exact ⟨0, by omega, rfl, _, Wd.start a b, by rw [HZw.out]; exact H2.out, S2.out⟩
 case round =>
  obtain ⟨i, hi, rfl, l, hW, hX, hS2⟩ := hrel
  have HXk := hide hX
  have HSk := hide hS2
  have HW := hide hW
  clear hX hS2 H2 S2 hW
  by_cases hlt : i < 17
  ·have hi17 : (i : Int) < 17 := by omega
   go_wp2_with fail
   go_loopw [7] (fun j wr => ∃ k : Nat, k ≤ 17 ∧ j = .int .i64 k ∧ ∃ l, Wd a b i k l ∧ (blk (w.heap.size + 1 + 1 + 1) (.cells (dvs l) 113 (0, 0)) * (blk (w.heap.size + 1 + 1) (.cells Zn 29 (0, 0)) * (blk (w.heap.size + 1) (.cells Bn 29 (0, 0)) * (blk w.heap.size (.cells An 29 (0, 0)) * all w)))).on wr ∧ Str w wr) (fun j _ => 17 - (intOf j).toNat)
   case atStart => exact ⟨0, by omega, rfl, l, HW.out, HXk.out, HSk.out⟩
   case round =>
    obtain ⟨k, hk, rfl, l2, hW, hX, hS2⟩ := hrel
    have HXm := hide hX
    have HSm := hide hS2
    have HW2 := hide hW
    clear hX hS2 hW HXk HSk HW
    by_cases hlk : k < 17
    ·have hik : i + k < l2.length := by rw [HW2.out.len]; omega
     obtain ⟨x, hx⟩ : ∃ x, l2[i + k]? = some x := ⟨_, List.getElem?_eq_getElem hik⟩
     have hxb := HW2.out.le _ (List.mem_of_getElem? hx)
     have HN := hide (HW2.out.step _ hx)
     have hg := dvs_get l2 (i + k) _ hx
     have hset := dvs_set l2 (i + k) (x + dg a i * dg b k)
     have h1 := dg_lt a i
     have h2 := dg_lt b k
     have h3 : dg a i * dg b k ≤ 32767 * 32767 := Nat.mul_le_mul (by omega) (by omega)
     have Hps := hide (show i + k < (dvs l2).size by rw [dvs_size]; exact hik)
     have HcA : Hid (∀ X, (blk w.heap.size (.cells An 29 (0, 0)) * all w).on X → X.cell? ⟨w.heap.size, i, .none⟩ = some (nv (dg a i))) := hide fun X hX => (cell_of_row X w.heap.size i An _ _ (on_blk_mul hX)).trans (HcA0.out i hlt)
     have HcB : Hid (∀ X, (blk (w.heap.size + 1) (.cells Bn 29 (0, 0)) * (blk w.heap.size (.cells An 29 (0, 0)) * all w)).on X → X.cell? ⟨w.heap.size + 1, k, .none⟩ = some (nv (dg b k))) := hide fun X hX => (cell_of_row X (w.heap.size + 1) k Bn _ _ (on_blk_mul hX)).trans (HcB0.out k hlk)
     have q11 : IntKind.i64.wrap (((dg a i : Nat) : Int) * ((dg b k : Nat) : Int)) = ((dg a i * dg b k : Nat) : Int) := by rw [← Int.natCast_mul, IntWalk.i64_in _ (by omega)]
     have q12 : IntKind.i64.wrap ((x : Int) + ((dg a i * dg b k : Nat) : Int)) = ((x + dg a i * dg b k : Nat) : Int) := by rw [← Int.natCast_add, IntWalk.i64_in _ (by omega)]
     have q2 : IntKind.i64.wrap ((i : Int) + (k : Int)) = ((i + k : Nat) : Int) := by rw [IntWalk.i64_in _ (by omega)]; omega
     have hk17 : (k : Int) < 17 := by omega
     have hik34 : ((i + k : Nat) : Int) < 34 := by have := HW2.out.len; omega
     have Hcl := hide hg
     have Hset := hide hset
     have Q11 := hide q11
     have Q12 := hide q12
     have Q2 := hide q2
     have hs8 : (Tryd.prog.info? 3).map (·.size) = some 1 := by kernel_rfl
     clear hx hxb hg hset h3 q11 q12 q2 hik h1 h2
     generalize dg a i = ai at *
     generalize dg b k = bk at *
     generalize ai * bk = m at *
     generalize x + m = z at *
     generalize dvs l2 = P1 at *
     generalize hP2 : dvs (l2.set (i + k) z) = P2 at *
     have HP2 := hide hP2
     clear hP2
     generalize i + k = q at *
     go_wp2_with fail
     refine AppK.wp_region_set 14 [isV (.int .i64 (i : Int)), isV (.int .i64 (k : Int)), isV (.int .i64 ((q : Nat) : Int)), isV (.pointer (some ⟨w.heap.size + 1 + 1 + 1, q, .none⟩)), isV (nv x), isV (.int .i64 (i : Int)), isV (.pointer (some ⟨w.heap.size, i, .none⟩)), isV (nv ai), isV (.int .i64 (k : Int)), isV (.pointer (some ⟨w.heap.size + 1, k, .none⟩)), isV (nv bk), isV (nv m), isV (nv z), isV (.pointer (some ⟨w.heap.size + 1 + 1 + 1, q, .none⟩)), (fun _ _ => True)]
      [isV (.int .i64 (i : Int)), isV (.int .i64 (k : Int)), isV (.int .i64 ((q : Nat) : Int)), isV (.pointer (some ⟨w.heap.size + 1 + 1 + 1, q, .none⟩)), isV (nv x), isV (.int .i64 (i : Int)), isV (.pointer (some ⟨w.heap.size, i, .none⟩)), isV (nv ai), isV (.int .i64 (k : Int)), isV (.pointer (some ⟨w.heap.size + 1, k, .none⟩)), isV (nv bk), isV (nv m), isV (nv z), isV (.pointer (some ⟨w.heap.size + 1 + 1 + 1, q, .none⟩)), (fun _ _ => True)] _ rfl (by kernel_rfl) (by kernel_rfl) rfl (by decide) (.inr rfl) (fun ph X => (blk (w.heap.size + 1 + 1 + 1) (.cells (if ph = true then P2 else P1) 113 (0, 0)) * (blk (w.heap.size + 1 + 1) (.cells Zn 29 (0, 0)) * (blk (w.heap.size + 1) (.cells Bn 29 (0, 0)) * (blk w.heap.size (.cells An 29 (0, 0)) * all w)))).on X ∧ Str w X) ⟨SP.on.drew HXm.out, Str.drew HSm.out⟩ (fun ph a b h st => ⟨h.1.below st, h.2.trans (Str.below st)⟩) ?keep ?keep2 ?store ?todo ?r57
     case keep => exact ⟨Keep.isV _, Keep.isV _, Keep.isV _, Keep.isV _, Keep.isV _, Keep.isV _, Keep.isV _, Keep.isV _, Keep.isV _, Keep.isV _, Keep.isV _, Keep.isV _, Keep.isV _, Keep.isV _, fun _ _ _ h _ => h, trivial⟩
     case keep2 => exact ⟨Keep.isV _, Keep.isV _, Keep.isV _, Keep.isV _, Keep.isV _, Keep.isV _, Keep.isV _, Keep.isV _, Keep.isV _, Keep.isV _, Keep.isV _, Keep.isV _, Keep.isV _, Keep.isV _, fun _ _ _ h _ => h, trivial⟩
     case store =>
      intro ev X hT hb hk hf
      have e0 : ev (.tmp 31) = _ := hf.1
      have e1 : ev (.tmp 30) = _ := hf.2.1
      have hX : (blk (w.heap.size + 1 + 1 + 1) (.cells P1 113 (0, 0)) * (blk (w.heap.size + 1 + 1) (.cells Zn 29 (0, 0)) * (blk (w.heap.size + 1) (.cells Bn 29 (0, 0)) * (blk w.heap.size (.cells An 29 (0, 0)) * all w)))).on X := hT.1
      exact OpOk.store_one _ _ _ rfl (w.heap.size + 1 + 1 + 1) q (nv z) e0 e1 rfl _ P1 hX hs8 Hps.out rfl P2 Hset.out (fun h3 => ⟨⟨h3, hT.2.setRow _ _⟩, trivial, fun i _ hv => vList_free (by
       intro P hP
       simp only [List.mem_cons, List.not_mem_nil, or_false] at hP
       rcases hP with rfl | rfl | rfl | rfl | rfl | rfl | rfl | rfl | rfl | rfl | rfl | rfl | rfl | rfl | rfl <;> exact fun _ _ _ h => h) i _ _ _ hv⟩)
     case todo =>
      refine ⟨?_, ?_, ?_, ?_, ?_, ?_, ?_, ?_, ?_, ?_, ?_, ?_, ?_, ?_, ?_, trivial⟩
      ·rintro _ ph - h2 ev X hT hb hk hf
       obtain rfl := h2 (by kernel_rfl)
       have e0 : ev (.tmp 6) = .int .i64 (i : Int) := hk.1
       exact OpOk.m rfl e0
      ·rintro _ ph - h2 ev X hT hb hk hf
       obtain rfl := h2 (by kernel_rfl)
       have e0 : ev (.tmp 7) = .int .i64 (k : Int) := hk.1
       exact OpOk.m rfl e0
      ·rintro _ ph - h2 ev X hT hb hk hf
       obtain rfl := h2 (by kernel_rfl)
       have e0 : ev (.tmp 18) = _ := hf.1
       have e1 : ev (.tmp 19) = _ := hf.2.1
       exact OpOk.r (by have h9 := Q2.out; simp [execOp, e0, e1, h9, go_sem])
      ·rintro _ ph - h2 ev X hT hb hk hf
       obtain rfl := h2 (by kernel_rfl)
       have e0 : ev (.tmp 5) = .pointer (some ⟨w.heap.size + 1 + 1 + 1, 0, .none⟩) := hk.1
       have e1 : ev (.tmp 20) = _ := hf.1
       exact OpOk.r (by simp [execOp, e0, e1, hb.1, hik34, go_sem]; try (intro h; omega))
      ·rintro _ ph - h2 ev X hT hb hk hf
       obtain rfl := h2 (by kernel_rfl)
       have e0 : ev (.tmp 21) = _ := hf.1
       have cW := (cell_of_row X (w.heap.size + 1 + 1 + 1) q _ _ _ (on_blk_mul hT.1)).trans Hcl.out
       exact OpOk.r (by simp [execOp, e0, cW, go_sem])
      ·rintro _ ph - h2 ev X hT hb hk hf
       obtain rfl := h2 (by kernel_rfl)
       have e0 : ev (.tmp 6) = .int .i64 (i : Int) := hk.1
       exact OpOk.m rfl e0
      ·rintro _ ph - h2 ev X hT hb hk hf
       obtain rfl := h2 (by kernel_rfl)
       have e0 : ev (.tmp 2) = .pointer (some ⟨w.heap.size, 0, .none⟩) := hk.1
       have e1 : ev (.tmp 23) = _ := hf.1
       exact OpOk.r (by simp [execOp, e0, e1, hb.1, hi17, go_sem]; try (intro h; omega))
      ·rintro _ ph - h2 ev X hT hb hk hf
       obtain rfl := h2 (by kernel_rfl)
       have e0 : ev (.tmp 24) = _ := hf.1
       have cW := HcA.out X hT.1.right.right.right
       exact OpOk.r (by simp [execOp, e0, cW, go_sem])
      ·rintro _ ph - h2 ev X hT hb hk hf
       obtain rfl := h2 (by kernel_rfl)
       have e0 : ev (.tmp 7) = .int .i64 (k : Int) := hk.1
       exact OpOk.m rfl e0
      ·rintro _ ph - h2 ev X hT hb hk hf
       obtain rfl := h2 (by kernel_rfl)
       have e0 : ev (.tmp 3) = .pointer (some ⟨w.heap.size + 1, 0, .none⟩) := hk.1
       have e1 : ev (.tmp 26) = _ := hf.1
       exact OpOk.r (by simp [execOp, e0, e1, hb.1, hk17, go_sem]; try (intro h; omega))
      ·rintro _ ph - h2 ev X hT hb hk hf
       obtain rfl := h2 (by kernel_rfl)
       have e0 : ev (.tmp 27) = _ := hf.1
       have cW := HcB.out X hT.1.right.right
       exact OpOk.r (by simp [execOp, e0, cW, go_sem])
      ·rintro _ ph - h2 ev X hT hb hk hf
       obtain rfl := h2 (by kernel_rfl)
       have e0 : ev (.tmp 25) = _ := hf.1
       have e1 : ev (.tmp 28) = _ := hf.2.1
       exact OpOk.r (by have h9 := Q11.out; simp [execOp, e0, e1, h9, go_sem])
      ·rintro _ ph - h2 ev X hT hb hk hf
       obtain rfl := h2 (by kernel_rfl)
       have e0 : ev (.tmp 22) = _ := hf.1
       have e1 : ev (.tmp 29) = _ := hf.2.1
       exact OpOk.r (by have h9 := Q12.out; simp [execOp, e0, e1, h9, go_sem])
      ·rintro _ ph - h2 ev X hT hb hk hf
       obtain rfl := h2 (by kernel_rfl)
       have e0 : ev (.tmp 5) = .pointer (some ⟨w.heap.size + 1 + 1 + 1, 0, .none⟩) := hk.1
       have e1 : ev (.tmp 20) = _ := hf.1
       exact OpOk.r (by simp [execOp, e0, e1, hb.1, hik34, go_sem]; try (intro h; omega))
      ·exact fun h => absurd rfl h
     intro X hT
     rintro _ - _ - _ - _ - _ - _ - _ - _ - _ - _ - _ - _ - _ - _ - _ -
     have hX2 : (blk (w.heap.size + 1 + 1 + 1) (.cells P2 113 (0, 0)) * (blk (w.heap.size + 1 + 1) (.cells Zn 29 (0, 0)) * (blk (w.heap.size + 1) (.cells Bn 29 (0, 0)) * (blk w.heap.size (.cells An 29 (0, 0)) * all w)))).on X := hT.1
     have HX2 := hide hX2
     have HST := hide hT.2
     clear hT hX2
     go_wp2
     refine Rest.done ?_
     go_wp2_with fail
     refine ⟨⟨k + 1, by omega, by simp, _, HN.out, by rw [HP2.out]; exact HX2.out, HST.out⟩, by simp [intOf]; omega⟩
    ·obtain rfl : k = 17 := by omega
     go_wp2_with fail
     exact ⟨⟨i + 1, by omega, by simp, l2, HW2.out.row Hb.out, HXm.out, HSm.out⟩, by simp [intOf]; omega⟩
  ·obtain rfl : i = 17 := by omega
   have hll := HW.out.len
   obtain ⟨hd1, hd2⟩ := HW.out.done Ha.out
   have Hst : Hid (∀ X, Calls Tryd.prog 77 #[.agg (dvs (lf l))] X fun e w' => e = .returned (.agg Rn) ∧ Below X.heap.size X w') := hide fun X => by
    have := settle_any (lf l) (lf_len l hll) hd2 X
    rwa [hd1, HRn.out] at this
   have Hle := hide HW.out.le
   have h4 := HXk.out.alloc (.cells Zn 29)
   have H4 := hide h4
   have S4 := hide (HSk.out.alloc (.cells Zn 29))
   have Hll := hide hll
   have HsLf := hide (nInfoL (lf l) (lf_len l hll))
   clear h4 hd1 hd2 hll HW HXk HSk
   rw [show ((17 : Nat) : Int) = (17 : Int) from rfl]
   go_wp2_with fail
   generalize wr.heap.size = p8 at *
   generalize wr.alloc (.cells Zn 29) = w5 at *
   go_loopw [9] (fun j wr => ∃ k : Nat, k ≤ 17 ∧ j = .int .i64 k ∧ (blk p8 (.cells (dvs ((lf l).take k ++ (List.replicate 17 0).drop k)) 29 (0, 0)) * (blk (w.heap.size + 1 + 1 + 1) (.cells (dvs l) 113 (0, 0)) * (blk (w.heap.size + 1 + 1) (.cells Zn 29 (0, 0)) * (blk (w.heap.size + 1) (.cells Bn 29 (0, 0)) * (blk w.heap.size (.cells An 29 (0, 0)) * all w))))).on wr ∧ Str w wr) (fun j _ => 17 - (intOf j).toNat)
   case atStart =>
    refine ⟨0, by omega, rfl, ?_, S4.out⟩
    rw [List.take_zero, List.drop_zero, List.nil_append, ← HzL.out]
    exact H4.out
   case round =>
    obtain ⟨k, hk, rfl, hX, hS2⟩ := hrel
    have HXm := hide hX
    have HSm := hide hS2
    clear hX hS2 H4 S4
    by_cases hlk : k < 17
    ·have hk1 : k < l.length := by rw [Hll.out]; omega
     have hk2 : k + 17 < l.length := by rw [Hll.out]; omega
     obtain ⟨x, hx⟩ : ∃ x, l[k]? = some x := ⟨_, List.getElem?_eq_getElem hk1⟩
     obtain ⟨y, hy⟩ : ∃ y, l[k + 17]? = some y := ⟨_, List.getElem?_eq_getElem hk2⟩
     have hxb := Hle.out _ (List.mem_of_getElem? hx)
     have hyb := Hle.out _ (List.mem_of_getElem? hy)
     have hgf := lf_get l k _ _ hlk hx hy
     have Hs9 := set_takeN (lf l) (List.replicate 17 0) k _ hgf (by simp; omega)
     have HcX : Hid (∀ X, (blk (w.heap.size + 1 + 1 + 1) (.cells (dvs l) 113 (0, 0)) * (blk (w.heap.size + 1 + 1) (.cells Zn 29 (0, 0)) * (blk (w.heap.size + 1) (.cells Bn 29 (0, 0)) * (blk w.heap.size (.cells An 29 (0, 0)) * all w)))).on X → X.cell? ⟨w.heap.size + 1 + 1 + 1, k, .none⟩ = some (nv x)) := hide fun X hX => rowCell hX k _ hx
     have HcY : Hid (∀ X, (blk (w.heap.size + 1 + 1 + 1) (.cells (dvs l) 113 (0, 0)) * (blk (w.heap.size + 1 + 1) (.cells Zn 29 (0, 0)) * (blk (w.heap.size + 1) (.cells Bn 29 (0, 0)) * (blk w.heap.size (.cells An 29 (0, 0)) * all w)))).on X → X.cell? ⟨w.heap.size + 1 + 1 + 1, k + 17, .none⟩ = some (nv y)) := hide fun X hX => rowCell hX (k + 17) _ hy
     have hpl : ((lf l).take k ++ (List.replicate 17 0).drop k).length = 17 := by rw [List.length_append, List.length_take, List.length_drop, lf_len l Hll.out]; simp; omega
     have hset := dvs_set ((lf l).take k ++ (List.replicate 17 0).drop k) k (x + 19 * y)
     rw [Hs9] at hset
     have Hps := hide (show k < (dvs ((lf l).take k ++ (List.replicate 17 0).drop k)).size by rw [dvs_size, hpl]; exact hlk)
     have Hset := hide hset
     clear hset hpl Hs9 hgf hx hy
     have q8 : IntKind.i64.wrap (19 * (y : Int)) = ((19 * y : Nat) : Int) := by rw [IntWalk.i64_in _ (by omega)]; omega
     have q9 : IntKind.i64.wrap ((x : Int) + ((19 * y : Nat) : Int)) = ((x + 19 * y : Nat) : Int) := by rw [IntWalk.i64_in _ (by omega)]; omega
     have q5 : IntKind.i64.wrap ((k : Int) + 17) = ((k + 17 : Nat) : Int) := by rw [IntWalk.i64_in _ (by omega)]; omega
     have hk17 : (k : Int) < 17 := by omega
     have hk34 : (k : Int) < 34 := by omega
     have hq34 : ((k + 17 : Nat) : Int) < 34 := by omega
     have Q8 := hide q8
     have Q9 := hide q9
     have Q5 := hide q5
     have hs8 : (Tryd.prog.info? 3).map (·.size) = some 1 := by kernel_rfl
     clear q8 q9 q5 hk1 hk2 hxb hyb
     generalize 19 * y = m at *
     generalize x + m = z at *
     generalize dvs l = Wl at *
     generalize dvs ((lf l).take k ++ (List.replicate 17 0).drop k) = P1 at *
     generalize hP2 : dvs ((lf l).take (k + 1) ++ (List.replicate 17 0).drop (k + 1)) = P2 at *
     have HP2 := hide hP2
     clear hP2
     generalize k + 17 = q at *
     go_wp2_with fail
     refine AppK.wp_region_set 11 [isV (.int .i64 (k : Int)), isV (.int .i64 (k : Int)), isV (.pointer (some ⟨w.heap.size + 1 + 1 + 1, k, .none⟩)), isV (nv x), isV (.int .i64 (k : Int)), isV (.int .i64 ((q : Nat) : Int)), isV (.pointer (some ⟨w.heap.size + 1 + 1 + 1, q, .none⟩)), isV (nv y), isV (nv m), isV (nv z), isV (.pointer (some ⟨p8, k, .none⟩)), (fun _ _ => True)]
      [isV (.int .i64 (k : Int)), isV (.int .i64 (k : Int)), isV (.pointer (some ⟨w.heap.size + 1 + 1 + 1, k, .none⟩)), isV (nv x), isV (.int .i64 (k : Int)), isV (.int .i64 ((q : Nat) : Int)), isV (.pointer (some ⟨w.heap.size + 1 + 1 + 1, q, .none⟩)), isV (nv y), isV (nv m), isV (nv z), isV (.pointer (some ⟨p8, k, .none⟩)), (fun _ _ => True)] _ rfl (by kernel_rfl) (by kernel_rfl) rfl (by decide) (.inr rfl) (fun ph X => (blk p8 (.cells (if ph = true then P2 else P1) 29 (0, 0)) * (blk (w.heap.size + 1 + 1 + 1) (.cells Wl 113 (0, 0)) * (blk (w.heap.size + 1 + 1) (.cells Zn 29 (0, 0)) * (blk (w.heap.size + 1) (.cells Bn 29 (0, 0)) * (blk w.heap.size (.cells An 29 (0, 0)) * all w))))).on X ∧ Str w X) ⟨SP.on.drew HXm.out, Str.drew HSm.out⟩ (fun ph a b h st => ⟨h.1.below st, h.2.trans (Str.below st)⟩) ?keep ?keep2 ?store ?todo ?r58
     case keep => exact ⟨Keep.isV _, Keep.isV _, Keep.isV _, Keep.isV _, Keep.isV _, Keep.isV _, Keep.isV _, Keep.isV _, Keep.isV _, Keep.isV _, Keep.isV _, fun _ _ _ h _ => h, trivial⟩
     case keep2 => exact ⟨Keep.isV _, Keep.isV _, Keep.isV _, Keep.isV _, Keep.isV _, Keep.isV _, Keep.isV _, Keep.isV _, Keep.isV _, Keep.isV _, Keep.isV _, fun _ _ _ h _ => h, trivial⟩
     case store =>
      intro ev X hT hb hk hf
      have e0 : ev (.tmp 46) = _ := hf.1
      have e1 : ev (.tmp 45) = _ := hf.2.1
      have hX : (blk p8 (.cells P1 29 (0, 0)) * (blk (w.heap.size + 1 + 1 + 1) (.cells Wl 113 (0, 0)) * (blk (w.heap.size + 1 + 1) (.cells Zn 29 (0, 0)) * (blk (w.heap.size + 1) (.cells Bn 29 (0, 0)) * (blk w.heap.size (.cells An 29 (0, 0)) * all w))))).on X := hT.1
      exact OpOk.store_one _ _ _ rfl (p8) k (nv z) e0 e1 rfl _ P1 hX hs8 Hps.out rfl P2 Hset.out (fun h3 => ⟨⟨h3, hT.2.setRow _ _⟩, trivial, fun i _ hv => vList_free (by
       intro P hP
       simp only [List.mem_cons, List.not_mem_nil, or_false] at hP
       rcases hP with rfl | rfl | rfl | rfl | rfl | rfl | rfl | rfl | rfl | rfl | rfl | rfl <;> exact fun _ _ _ h => h) i _ _ _ hv⟩)
     case todo =>
      refine ⟨?_, ?_, ?_, ?_, ?_, ?_, ?_, ?_, ?_, ?_, ?_, ?_, trivial⟩
      ·rintro _ ph - h2 ev X hT hb hk hf
       obtain rfl := h2 (by kernel_rfl)
       have e0 : ev (.tmp 9) = .int .i64 (k : Int) := hk.1
       exact OpOk.m rfl e0
      ·rintro _ ph - h2 ev X hT hb hk hf
       obtain rfl := h2 (by kernel_rfl)
       have e0 : ev (.tmp 9) = .int .i64 (k : Int) := hk.1
       exact OpOk.m rfl e0
      ·rintro _ ph - h2 ev X hT hb hk hf
       obtain rfl := h2 (by kernel_rfl)
       have e0 : ev (.tmp 5) = .pointer (some ⟨w.heap.size + 1 + 1 + 1, 0, .none⟩) := hk.1
       have e1 : ev (.tmp 37) = _ := hf.1
       exact OpOk.r (by simp [execOp, e0, e1, hb.1, hk34, go_sem]; try (intro h; omega))
      ·rintro _ ph - h2 ev X hT hb hk hf
       obtain rfl := h2 (by kernel_rfl)
       have e0 : ev (.tmp 38) = _ := hf.1
       have cW := HcX.out X hT.1.right
       exact OpOk.r (by simp [execOp, e0, cW, go_sem])
      ·rintro _ ph - h2 ev X hT hb hk hf
       obtain rfl := h2 (by kernel_rfl)
       have e0 : ev (.tmp 9) = .int .i64 (k : Int) := hk.1
       exact OpOk.m rfl e0
      ·rintro _ ph - h2 ev X hT hb hk hf
       obtain rfl := h2 (by kernel_rfl)
       have e0 : ev (.tmp 40) = _ := hf.1
       exact OpOk.r (by have h9 := Q5.out; simp [execOp, e0, hb.1, h9, go_sem])
      ·rintro _ ph - h2 ev X hT hb hk hf
       obtain rfl := h2 (by kernel_rfl)
       have e0 : ev (.tmp 5) = .pointer (some ⟨w.heap.size + 1 + 1 + 1, 0, .none⟩) := hk.1
       have e1 : ev (.tmp 41) = _ := hf.1
       exact OpOk.r (by simp [execOp, e0, e1, hb.1, hq34, go_sem]; try (intro h; omega))
      ·rintro _ ph - h2 ev X hT hb hk hf
       obtain rfl := h2 (by kernel_rfl)
       have e0 : ev (.tmp 42) = _ := hf.1
       have cW := HcY.out X hT.1.right
       exact OpOk.r (by simp [execOp, e0, cW, go_sem])
      ·rintro _ ph - h2 ev X hT hb hk hf
       obtain rfl := h2 (by kernel_rfl)
       have e0 : ev (.tmp 43) = _ := hf.1
       exact OpOk.r (by have h9 := Q8.out; simp [execOp, e0, hb.1, h9, go_sem])
      ·rintro _ ph - h2 ev X hT hb hk hf
       obtain rfl := h2 (by kernel_rfl)
       have e0 : ev (.tmp 39) = _ := hf.1
       have e1 : ev (.tmp 44) = _ := hf.2.1
       exact OpOk.r (by have h9 := Q9.out; simp [execOp, e0, e1, h9, go_sem])
      ·rintro _ ph - h2 ev X hT hb hk hf
       obtain rfl := h2 (by kernel_rfl)
       have e0 : ev (.tmp 8) = .pointer (some ⟨p8, 0, .none⟩) := hk.1
       have e1 : ev (.tmp 36) = _ := hf.1
       exact OpOk.r (by simp [execOp, e0, e1, hb.1, hk17, go_sem]; try (intro h; omega))
      ·exact fun h => absurd rfl h
     intro X hT
     rintro _ - _ - _ - _ - _ - _ - _ - _ - _ - _ - _ - _ -
     have hX2 : (blk p8 (.cells P2 29 (0, 0)) * (blk (w.heap.size + 1 + 1 + 1) (.cells Wl 113 (0, 0)) * (blk (w.heap.size + 1 + 1) (.cells Zn 29 (0, 0)) * (blk (w.heap.size + 1) (.cells Bn 29 (0, 0)) * (blk w.heap.size (.cells An 29 (0, 0)) * all w))))).on X := hT.1
     have HX2 := hide hX2
     have HST := hide hT.2
     clear hT hX2
     go_wp2
     refine Rest.done ?_
     go_wp2_with fail
     go_roundw
     case rel => exact ⟨k + 1, by omega, by simp, by rw [HP2.out]; exact HX2.out, HST.out⟩
     case measure => simp [intOf]; omega
    ·obtain rfl : k = 17 := by omega
     have e4 : (lf l).take 17 ++ (List.replicate 17 0).drop 17 = lf l := by rw [List.take_of_length_le (by rw [lf_len l Hll.out]; omega), List.drop_of_length_le (by simp), List.append_nil]
     rw [e4] at HXm
     have g0 := on_blk_mul HXm.out
     clear e4
     generalize dvs (lf l) = Lf at *
     go_wp2_with (refine wL g0 hun HsLf ?_)
     clear g0
     refine (Hst.out _).mono ?_
     rintro e w7 ⟨rfl, hB⟩
     obtain ⟨H7, S7⟩ := nx HXm.out HSm.out hB
     clear hB HXm HSm
     have gR := on_blk_mul H7.out.right.right
     have HB := hide (all_below H7.out.right.right.right.right.right S7.out)
     go_wp2_with (refine wS gR HsRn HzRn HoRn ?_)
     exact retR Tryd.results42 gR hun HsRn.out rfl HB.out (by omega)
end Fe
end Go.Proofs.YtbplbdnofobbiaaDoor
namespace Go.Proofs.YtbplbdnofobbiaaDoor
namespace Fe
open Go.ChangeShapes Go.WideShapes Go.ChangeAt Go.RowKit
theorem bit_rem (e m : Nat) : ((((limb e (m / 64) : Nat) : Int) / 2 ^ (m % 64)).tmod 2 == 1) = e.testBit m := by
 have h1 := testBit_limb e m
 have e3 : ((limb e (m / 64) : Nat) : Int) / 2 ^ (m % 64) = ((limb e (m / 64) / 2 ^ (m % 64) : Nat) : Int) := by rw [Int.natCast_ediv, Int.natCast_pow]; rfl
 rw [e3, Int.tmod_eq_emod_of_nonneg (Int.natCast_nonneg _), ← h1, Nat.testBit_eq_decide_div_mod_eq, Bool.eq_iff_iff, beq_iff_eq, decide_eq_true_eq]
 omega
theorem rpower_any (a e : Nat) (ha : a < 2 ^ 255) (he : e < 18446744073709551616 ^ 4) (w : World) :
  Calls Tryd.prog 79 #[.agg (n17 a), .agg (q4 e)] w fun e' w' => e' = .returned (.agg (n17 (pwr a e 256))) ∧ Below w.heap.size w w' := by
 have hu4 := Tryd.underlying23
 have hz4 := eZero4
 have hun := Tryd.underlying29
 have hzn := nZero
 have h0 := (((on_all w).alloc (.cells (n17 (a)) 29)).alloc (.cells (q4 (e)) 23)).alloc (.cells (n17 0) 29)
 have s0 := (((Str.refl w).alloc (.cells (n17 (a)) 29)).alloc (.cells (q4 (e)) 23)).alloc (.cells (n17 0) 29)
 try simp only [World.size_alloc] at h0
 have H1 := hide h0
 have S1 := hide s0
 clear h0 s0
 have Hc : Hid (∀ X, Calls Tryd.prog 46 #[.int .i64 1] X fun e w' => e = .returned (.agg (n17 1)) ∧ Below X.heap.size X w') := hide fun X => by
  have := rsmall_any 1 (by decide) X
  rwa [show 1 % P5 = 1 by decide] at this
 have Hcell : Hid (∀ m, m < 256 → (q4 e)[m / 64]? = some (lv (limb e (m / 64)))) := hide fun m hm => lvs_get _ _ _ (qs_get 4 e _ (by omega))
 have Ha := hide ha
 have HI := hide nInfo
 have HP5 := hide P5_255lt
 clear ha he
 obtain ⟨HsAn, HoAn, HzAn⟩ := nF (a)
 obtain ⟨HsE4, HoE4, HzE4⟩ := b3 (eInfo4 (e)) (eOne (e)) (eSize 0 (e))
 obtain ⟨HsIn, HoIn, HzIn⟩ := nF (1)
 generalize hAn : n17 (a) = An at *
 have HAn := hide hAn
 clear hAn
 generalize hE4 : q4 (e) = E4 at *
 have HE4 := hide hE4
 clear hE4
 generalize hIn : n17 (1) = In at *
 have HIn := hide hIn
 clear hIn
 generalize hZn : n17 0 = Zn at *
 have HZn := hide hZn
 clear hZn
 go_enter Tryd.func79, Tryd.ntmps79
 go_wp2_with fail
 generalize ((w.alloc (.cells An 29)).alloc (.cells E4 23)).alloc (.cells Zn 29) = w1 at *
 refine (Hc.out _).mono ?_
 rintro e w2 ⟨rfl, hB⟩
 obtain ⟨H2, S2⟩ := nx H1.out S1.out hB
 clear hB H1 S1
 obtain ⟨gN, gM, H3, S3⟩ := newV H2.out S2.out Zn In 29
 go_wp2_with (first
  | (refine wS gN HsIn HzIn HoIn ?_))
 generalize (w2.alloc (.cells Zn 29)).setRow w2.heap.size In = w3 at *
 clear gN gM H2 S2
 generalize w2.heap.size = p5 at *
 go_loopw [6] (fun i wr => ∃ k : Nat, k ≤ 256 ∧ i = .int .i64 ((k : Int) - 1) ∧ (blk p5 (.cells (n17 (pwr a e (256 - k))) 29 (0, 0)) * (blk (w.heap.size + 1 + 1) (.cells Zn 29 (0, 0)) * (blk (w.heap.size + 1) (.cells E4 23 (0, 0)) * (blk w.heap.size (.cells An 29 (0, 0)) * all w)))).on wr ∧ Str w wr) (fun i _ => (intOf i + 1).toNat)
 case atStart => exact ⟨256, by omega, rfl, by rw [show pwr a e (256 - 256) = 1 from rfl, HIn.out]; exact H3.out, S3.out⟩
 case round =>
  obtain ⟨k, hk, rfl, hX, hS2⟩ := hrel
  have H4 := hide hX
  have S4 := hide hS2
  clear hX hS2 H3 S3
  have hP5 := HP5.out
  cases k with
  | zero =>
   obtain ⟨HsP, HoP, HzP⟩ := b3 (HI.out (pwr a e 256)) (nOne (pwr a e 256)) (nSize 0 (pwr a e 256))
   rw [HZn.out] at HzP
   rw [show 256 - 0 = 256 from rfl] at H4
   generalize hP : n17 (pwr a e 256) = P at *
   have HP := hide hP
   clear hP
   have g0 := on_blk_mul H4.out
   have gR := on_blk_mul H4.out.right
   have HB := hide (all_below H4.out.right.right.right.right S4.out)
   go_wp2_with (first
    | (refine wS gR HsP HzP HoP ?_)
    | (refine wL g0 hun HsP ?_))
   exact retE Tryd.results79 gR hun HsP.out rfl (by rw [HP.out]) HB.out (by omega)
  | succ m =>
   have hm2 : m < 256 := by omega
   have hst : pwr a e (256 - m) = stepP a e (256 - (m + 1)) (pwr a e (256 - (m + 1))) := by rw [show 256 - m = (256 - (m + 1)) + 1 by omega]; rfl
   unfold stepP at hst
   rw [show 255 - (256 - (m + 1)) = m by omega] at hst
   have hp := pwr_lt a e (256 - (m + 1))
   have hq : pwr a e (256 - (m + 1)) * pwr a e (256 - (m + 1)) % P5 < P5 := Nat.mod_lt _ P5_pos
   have Ht1 := hide (fun X => rmul_any (pwr a e (256 - (m + 1))) (pwr a e (256 - (m + 1))) (by omega) (by omega) X)
   have Ht2 := hide (fun X => rmul_any (pwr a e (256 - (m + 1)) * pwr a e (256 - (m + 1)) % P5) a (by omega) Ha.out X)
   have hb := bit_rem e m
   have s1 : (((m + 1 : Nat) : Int) - 1) = (m : Int) := by omega
   rw [s1]
   clear s1
   have hm4 : ((m / 64 : Nat) : Int) < 4 := by omega
   have Hst := hide hst
   have hE := Hcell.out m hm2
   clear hst hp hq
   generalize pwr a e (256 - (m + 1)) = q at *
   have HsP := hide (HI.out q)
   obtain ⟨HsQ, HoQ, HzQ⟩ := b3 (HI.out (q * q % P5)) (nOne (q * q % P5)) (nSize q (q * q % P5))
   obtain ⟨HsR, HoR, HzR⟩ := b3 (HI.out (q * q % P5 * a % P5)) (nOne (q * q % P5 * a % P5)) (nSize (q * q % P5) (q * q % P5 * a % P5))
   generalize limb e (m / 64) = x at *
   generalize n17 q = P at *
   generalize hQ : n17 (q * q % P5) = Q at *
   generalize hR : n17 (q * q % P5 * a % P5) = R at *
   have HQ := hide hQ
   have HR := hide hR
   rw [HAn.out] at Ht2
   clear hQ hR hP5
   have g0 := on_blk_mul H4.out
   go_wp2_with (first
    | (refine wL g0 hun HsP ?_))
   clear g0
   refine (Ht1.out _).mono ?_
   rintro e w5 ⟨rfl, hB⟩
   obtain ⟨H5, S5⟩ := nx H4.out S4.out hB
   clear hB H4 S4
   have H6 := hide (st0 H5.out (cs := Q))
   have S6 := hide (S5.out.setRow (p5) Q)
   have gW := on_blk_mul H5.out
   have g0 := on_blk_mul H6.out
   have gA := on_blk_mul H6.out.right.right.right
   have hcell := (cell_of_row (w5.setRow p5 Q) (w.heap.size + 1) (m / 64) _ _ _ (on_blk_mul H6.out.right.right)).trans hE
   by_cases ht : e.testBit m = true
   ·rw [ht] at hb
    have HN := hide (show pwr a e (256 - m) = q * q % P5 * a % P5 by rw [Hst.out, if_pos ht])
    clear ht hE
    go_wp2_with (first
     | (refine wS gW HsQ HzQ HoQ ?_)
     | (refine wL g0 hun HsQ ?_)
     | (refine wL gA hun HsAn ?_))
    clear hcell gA
    generalize w5.setRow p5 Q = w6 at *
    clear gW H5 S5 g0
    refine (Ht2.out _).mono ?_
    rintro e w7 ⟨rfl, hB⟩
    obtain ⟨H7, S7⟩ := nx H6.out S6.out hB
    clear hB H6 S6
    have H8 := hide (st0 H7.out (cs := R))
    have S8 := hide (S7.out.setRow (p5) R)
    have gW := on_blk_mul H7.out
    go_wp2_with (first
     | (refine wS gW HsR HzR HoR ?_))
    exact ⟨⟨m, by omega, rfl, by rw [HN.out, HR.out]; exact H8.out, S8.out⟩, by simp [intOf]⟩
   ·have hf : e.testBit m = false := by simpa using ht
    rw [hf] at hb
    have HN := hide (show pwr a e (256 - m) = q * q % P5 by rw [Hst.out, if_neg ht])
    clear ht hE hf
    go_wp2_with (first
     | (refine wS gW HsQ HzQ HoQ ?_))
    exact ⟨⟨m, by omega, rfl, by rw [HN.out, HQ.out]; exact H6.out, S6.out⟩, by simp [intOf]⟩
theorem rinvert_any (a : Nat) (ha : a < P5) (w : World) :
  Calls Tryd.prog 47 #[.agg (n17 a)] w fun e w' => e = .returned (.agg (n17 (pwr a (P5 - 2) 256))) ∧ Below w.heap.size w w' := by
 have hu4 := Tryd.underlying23
 have hz4 := eZero4
 have hun := Tryd.underlying29
 have hzn := nZero
 have h0 := ((on_all w).alloc (.cells (n17 (a)) 29)).alloc (.cells (n17 0) 29)
 have s0 := ((Str.refl w).alloc (.cells (n17 (a)) 29)).alloc (.cells (n17 0) 29)
 try simp only [World.size_alloc] at h0
 have H1 := hide h0
 have S1 := hide s0
 clear h0 s0
 have hp := P5_255lt
 have hp2 : 2 ≤ P5 := by decide
 have hp3 : P5 - 2 < 2 ^ 255 := by omega
 have HP := hide (fun X => rp_any X)
 have HT : Hid (∀ X, Calls Tryd.prog 46 #[.int .i64 2] X fun e w' => e = .returned (.agg (n17 2)) ∧ Below X.heap.size X w') := hide fun X => by
  have := rsmall_any 2 (by decide) X
  rwa [show 2 % P5 = 2 by decide] at this
 have HU := hide (fun X => under_any P5 2 hp hp2 X)
 have HL := hide (fun X => limbs_any (P5 - 2) hp3 X)
 have HW := hide (fun X => rpower_any a (P5 - 2) (by omega) (by have := P5_lt; omega) X)
 clear ha hp hp2 hp3
 obtain ⟨HsAn, HoAn, HzAn⟩ := nF (a)
 obtain ⟨HsPn, HoPn, HzPn⟩ := nF (P5)
 obtain ⟨HsTn, HoTn, HzTn⟩ := nF (2)
 obtain ⟨HsUn, HoUn, HzUn⟩ := nF (P5 - 2)
 obtain ⟨HsU4, HoU4, HzU4⟩ := b3 (eInfo4 (P5 - 2)) (eOne (P5 - 2)) (eSize 0 (P5 - 2))
 obtain ⟨HsRn, HoRn, HzRn⟩ := b3 (nInfo (pwr a (P5 - 2) 256)) (nOne (pwr a (P5 - 2) 256)) (nSize 0 (pwr a (P5 - 2) 256))
 generalize hAn : n17 (a) = An at *
 have HAn := hide hAn
 clear hAn
 generalize hPn : n17 (P5) = Pn at *
 have HPn := hide hPn
 clear hPn
 generalize hTn : n17 (2) = Tn at *
 have HTn := hide hTn
 clear hTn
 generalize hUn : n17 (P5 - 2) = Un at *
 have HUn := hide hUn
 clear hUn
 generalize hU4 : q4 (P5 - 2) = U4 at *
 have HU4 := hide hU4
 clear hU4
 generalize hRn : n17 (pwr a (P5 - 2) 256) = Rn at *
 have HRn := hide hRn
 clear hRn
 generalize hZn : n17 0 = Zn at *
 have HZn := hide hZn
 clear hZn
 go_enter Tryd.func47, Tryd.ntmps47
 go_wp2_with fail
 generalize (w.alloc (.cells An 29)).alloc (.cells Zn 29) = w1 at *
 refine wp_tail 6 [isV (.agg An), isV (.agg Pn), isV (.agg Tn), isV (.agg Un), isV (.agg U4), isV (.agg Rn)] ?keep ?todo ?r59
 case keep => repeat (first | exact trivial | refine ⟨Keep.isV _, ?_⟩)
 case todo =>
  refine ⟨?_, ?_, ?_, ?_, ?_, ?_, trivial⟩
  ·exact fun ev X hT hb hk hf => OpOk.l (x := .tmp 1) hk.1 (on_blk_mul (H1.out.below hT).right) hun HsAn.out
  ·intro ev X hT hb hk hf
   exact OpOk.c (by simp [execOp, resolve, invoke, hb.1, hb.2.1, go_sem]) (HP.out X)
  ·intro ev X hT hb hk hf
   exact OpOk.c (by simp [execOp, resolve, invoke, hb.1, hb.2.1, go_sem]) (HT.out X)
  ·intro ev X hT hb hk hf
   have e0 : ev (.tmp 4) = _ := hf.1
   have e1 : ev (.tmp 5) = _ := hf.2.1
   exact OpOk.c (by simp [execOp, resolve, invoke, e0, e1, hb.1, hb.2.1, go_sem]) (HU.out X)
  ·intro ev X hT hb hk hf
   have e0 : ev (.tmp 6) = _ := hf.1
   exact OpOk.c (by simp [execOp, resolve, invoke, e0, hb.1, hb.2.1, go_sem]) (HL.out X)
  ·intro ev X hT hb hk hf
   have e0 : ev (.tmp 3) = _ := hf.1
   have e1 : ev (.tmp 7) = _ := hf.2.1
   exact OpOk.c (by simp [execOp, resolve, invoke, e0, e1, hb.1, hb.2.1, go_sem]) (HW.out X)
 intro w2 hX
 rintro _ - _ - _ - _ - _ - _ rfl
 obtain ⟨H2, S2⟩ := nx H1.out S1.out hX
 clear hX H1 S1
 refine Rest.done ?_
 have gR := on_blk_mul H2.out
 have HB := hide (all_below H2.out.right.right S2.out)
 go_wp2_with (first
  | (refine wS gR HsRn HzRn HoRn ?_))
 exact retR Tryd.results47 gR hun HsRn.out rfl HB.out (by omega)
end Fe
end Go.Proofs.YtbplbdnofobbiaaDoor
