/- scalar: the order; a number less the order; twice a number. -/
import Derived.Test.YtgkofpfjbjnhfaaDoorSc1
import Derived.Test.YtgkofpfjbjnhfaaDoorTail
import Derived.Test.YtgkofpfjbjnhfaaDoorFresh
import Derived.Test.YtgkofpfjbjnhfaaDoorFree
import Derived.Test.YtgkofpfjbjnhfaaDoorTlv
import Derived.Test.YtgkofpfjbjnhfaaDoorRow
import Derived.Test.YtgkofpfjbjnhfaaDoorSet
import Derived.Laws.CopyRow
namespace Go.Proofs.YtgkofpfjbjnhfaaDoor
open Go.ChangeShapes Go.WideShapes Go.ChangeAt Go.RowKit
set_option linter.unusedVariables false
set_option linter.unusedSimpArgs false

def O6 : Nat := 7237005577332262213973186563042994240857116359379907606001950938285454250989
def TabO (w : World) : Prop := ∀ i, i < 4 → w.cell? ⟨4, i, Option.none⟩ = some (lv (limb O6 i))
theorem TabO.below {w X : World} (h : TabO w) (hb : Below w.heap.size w X) : TabO X := fun i hi => (hb.cell (World.block_lt_of_cell? _ _ (h i hi))).trans (h i hi)
def redO (a : Nat) : Nat := if a < O6 then a else a - O6
theorem qz : qs 4 0 = [0, 0, 0, 0] := by decide
theorem qz4 : q4 0 = #[.int .u64 0, .int .u64 0, .int .u64 0, .int .u64 0] := by rw [show q4 0 = lvs (qs 4 0) from rfl, qz]; rfl
theorem part_len (s : List Nat) (hs : s.length = 4) (k : Nat) (hk : k ≤ 4) : (s.take k ++ (List.replicate 4 0).drop k).length = 4 := by
  rw [List.length_append, List.length_take, List.length_drop, List.length_replicate, hs]; omega

theorem OpOk.store_one {P : Program} {o : Oper} {ev : Operand → Value} {W : World} {R : Value → World → Prop} {F : SP} (ty : TypeId) (x y : Operand) (ho : o.op = .store ty x y)
    (g off : Nat) (v : Value) (hx : ev x = .pointer (some ⟨g, off, Option.none⟩)) (hy : ev y = v) (hv : v.cells = #[v]) (t : TypeId) (old : Array Value) (H : (blk g (.cells old t (0, 0)) * F).on W) (hi : (P.info? ty).map (·.size) = some 1)
    (hl : off < old.size) (h1 : v.oneCell' = true) (new : Array Value) (hn : old.setIfInBounds off v = new)
    (h : (blk g (.cells new t (0, 0)) * F).on (W.setRow g new) → R undef (W.setRow g new)) : OpOk P o ev W R := by
  have hs := run_storeCells_at (P := P) g off t [v] 0 old W (on_blk_mul H) (by simp; omega) (by intro u hu; simp at hu; rw [hu]; exact h1)
  have e : old.toList.take off ++ [v] ++ old.toList.drop (off + [v].length) = new.toList := by
    rw [← hn, Array.toList_setIfInBounds, List.set_eq_take_append_cons_drop, if_pos (by simpa using hl)]
    simp
  simp only [Nat.add_zero, e, Array.toArray_toList] at hs
  have hsv : (storeVar ty ⟨g, off, Option.none⟩ v).run P W = .ok () (W.setRow g new) := by
    cases hq : P.info? ty with
    | none => simp [hq] at hi
    | some i =>
      have hz : i.size = 1 := by simpa [hq] using hi
      simp [storeVar, sizeOf, typeInfo, hq, hv, hz, hs]
  unfold OpOk execOp
  simp only [ho, hx, hy, Instr.storeAt, Instr.sureAddr, Sem.run_bind, Sem.run_pure, Result.andThen_ok, hsv]
  exact h (H.setRow new)
theorem vList_free {L : List (Value → World → Prop)} (h : ∀ P ∈ L, ∀ v w w', P v w → P v w') (i : Nat) (v : Value) (w w' : World) (hv : vList L i v w) : vList L i v w' := by
  unfold vList at hv ⊢
  cases hq : L[i]? with
  | none => rw [hq] at hv; exact hv
  | some P => rw [hq] at hv; exact h P (List.mem_of_getElem? hq) v w w' hv

set_option maxRecDepth 100000 in
set_option maxHeartbeats 8000000 in
theorem reduced_any (a : Nat) (ha : a < 18446744073709551616 ^ 4) (w : World) (hO : TabO w) :
    Calls Tryd.prog 72 #[.agg (q4 a)] w fun e w' => e = .returned (.agg (q4 (redO a))) ∧ Below w.heap.size w w' := by
  have hu := Tryd.underlying58
  have hz : ∀ w, (zeroValue 58).run Tryd.prog w = .ok (.agg (q4 0)) w := fun w => by rw [qz4]; kernel_rfl
  have hs : (Tryd.prog.info? 58).map (·.size) = some 4 := by kernel_rfl
  have Hs : ∀ n, (Tryd.prog.info? 58).map (·.size) = some (q4 n).size := fun n => by rw [q4_size]; exact hs
  have HsR := hide (Hs (redO a))
  have HsA := hide (Hs a)
  have h0 := (((on_all w).alloc (.cells (q4 a) 58)).alloc (.cells (q4 0) 58)).alloc (.cells (q4 0) 58)
  have hs0 := (((Str.refl w).alloc (.cells (q4 a) 58)).alloc (.cells (q4 0) 58)).alloc (.cells (q4 0) 58)
  have e1 : (w.alloc (.cells (q4 a) 58)).heap.size = w.heap.size + 1 := by simp
  have e2 : ((w.alloc (.cells (q4 a) 58)).alloc (.cells (q4 0) 58)).heap.size = w.heap.size + 1 + 1 := by simp
  rw [e2, e1] at h0
  have hO6 : O6 < 18446744073709551616 ^ 4 := by decide
  obtain ⟨S, hS⟩ : ∃ S, S = a + 18446744073709551616 ^ 4 - O6 := ⟨_, rfl⟩
  have HSub := hide (fun k hk => sub_limb a O6 ha hO6 k hk)
  rw [← hS] at HSub
  have HS := hide hS
  have H0 := hide h0
  have HS0 := hide hs0
  have HO := hide hO
  have Hend := hide (br_end a O6 ha hO6)
  have Hq4 := hide (q4_sub a O6 ha)
  have Ha := hide ha
  clear h0 hs0 hO hO6 hS e1 e2 ha
  generalize hA : q4 a = A4 at *
  generalize hZ : q4 0 = Z4 at *
  have HA := hide hA
  have HZ := hide hZ
  clear hA hZ hs Hs
  go_enter Tryd.func72, Tryd.ntmps72
  go_wp2_with fail
  generalize ((w.alloc (.cells A4 58)).alloc (.cells Z4 58)).alloc (.cells Z4 58) = w1 at *
  go_loopw [4, 6] (fun bv i wr => ∃ k : Nat, k ≤ 4 ∧ i = .int .i64 k ∧ bv = lv (br a O6 k) ∧ (blk (w.heap.size + 1 + 1) (.cells (lvs ((qs 4 S).take k ++ (List.replicate 4 0).drop k)) 58 (0, 0)) * (blk (w.heap.size + 1) (.cells Z4 58 (0, 0)) * (blk w.heap.size (.cells A4 58 (0, 0)) * all w))).on wr ∧ Str w wr) (fun _ i _ => 4 - (intOf i).toNat)
  case atStart =>
    refine ⟨0, by omega, rfl, ?_, ?_, HS0.out⟩
    · simp [br, Nat.mod_one]
    · have := H0.out
      rw [← HZ.out] at this ⊢
      rw [show (qs 4 S).take 0 ++ (List.replicate 4 0).drop 0 = qs 4 0 by rw [qz]; rfl]
      exact this
  case round =>
    obtain ⟨k, hk, rfl, rfl, hX, hS2⟩ := hrel
    have HXk := hide hX
    have HSk := hide hS2
    have HTk := hide (HO.out.below (all_below HXk.out.right.right.right HSk.out))
    clear hX hS2 H0 HS0
    by_cases hlt : k < 4
    · have hstep := br_step a O6 k
      have hsub := HSub.out k hlt
      have Hset := hide (set_takeN (qs 4 S) (List.replicate 4 0) k (limb S k) (qs_get 4 S k hlt) (by simp; omega))
      have HcA : Hid (∀ X, (blk w.heap.size (.cells A4 58 (0, 0)) * all w).on X → X.cell? ⟨w.heap.size, k, Option.none⟩ = some (lv (limb a k))) := hide fun X hX => by rw [cell_of_row X w.heap.size k A4 _ _ (on_blk_mul hX), ← HA.out]; exact lvs_get _ k (limb a k) (qs_get 4 a k hlt)
      have HcO : Hid (∀ X, (all w).on X → Str w X → X.cell? ⟨4, k, Option.none⟩ = some (lv (limb O6 k))) := hide fun X hX hs => (HO.out.below (all_below hX hs)) k hlt
      have hcall := fun X => sub64_run (limb a k) (limb O6 k) (br a O6 k) (br_le _ _ _) X
      rw [← hsub, ← hstep] at hcall
      have Hcall := hide hcall
      have l1 := limb_lt a k
      have l2 := limb_lt O6 k
      have l3 := limb_lt S k
      have l4 := br_le a O6 k
      have l5 := br_le a O6 (k + 1)
      have hpl := part_len (qs 4 S) (qs_len 4 S) k hk
      obtain ⟨pl, hpl2⟩ : ∃ pl, pl = (qs 4 S).take k ++ (List.replicate 4 0).drop k := ⟨_, rfl⟩
      rw [← hpl2] at hpl HXk Hset
      have Hstep := hide hstep
      have Hcell : Hid (∀ X, (blk (w.heap.size + 1 + 1) (.cells (lvs pl) 58 (0, 0)) * (blk (w.heap.size + 1) (.cells Z4 58 (0, 0)) * (blk w.heap.size (.cells A4 58 (0, 0)) * all w))).on X → ∃ u, X.cell? ⟨w.heap.size + 1 + 1, k, Option.none⟩ = some u) := hide fun X hX => ⟨_, (cell_of_row X (w.heap.size + 1 + 1) k _ _ _ (on_blk_mul hX)).trans (lvs_get pl k pl[k] (List.getElem?_eq_getElem (by omega)))⟩
      obtain ⟨P1, hP1⟩ : ∃ P1, P1 = lvs pl := ⟨_, rfl⟩
      obtain ⟨P2, hP2⟩ : ∃ P2, P2 = lvs (pl.set k (limb S k)) := ⟨_, rfl⟩
      have Hp2 := hide (show P1.setIfInBounds k (lv (limb S k)) = P2 by rw [hP1, hP2, lvs_set])
      have HP2 := hide (show P2 = lvs ((qs 4 S).take (k + 1) ++ (List.replicate 4 0).drop (k + 1)) by rw [hP2, Hset.out])
      have Hps := hide (show k < P1.size by rw [hP1, lvs_size]; omega)
      have hs8 : (Tryd.prog.info? 22).map (·.size) = some 1 := by kernel_rfl
      rw [← hP1] at HXk Hcell
      clear hsub hcall hpl hpl2 hstep hP1 hP2 Hset
      generalize limb a k = x at *
      generalize limb O6 k = y at *
      generalize br a O6 k = bb at *
      generalize hbb2 : br a O6 (k + 1) = bb2 at *
      have Hbb2 := hide hbb2
      clear hbb2
      generalize limb S k = dk at *
      have hk4 : (k : Int) < 4 := by omega
      go_wp2_with fail
      refine AppK.wp_region_set 13 [isV (.int .i64 (k : Int)), isV (.int .i64 (k : Int)), isV (.pointer (some ⟨w.heap.size, k, Option.none⟩)), isV (lv x), isV (.int .i64 (k : Int)), isV (.pointer (some ⟨4, k, Option.none⟩)), isV (lv y), isV (lv bb), isV (.tuple #[lv dk, lv bb2]), isV (.tuple #[lv dk, lv bb2]), isV (lv dk), isV (lv bb2), isV (.pointer (some ⟨w.heap.size + 1 + 1, k, Option.none⟩)), (fun _ _ => True), isV (lv bb2)]
        [isV (.int .i64 (k : Int)), isV (.int .i64 (k : Int)), isV (.pointer (some ⟨w.heap.size, k, Option.none⟩)), isV (lv x), isV (.int .i64 (k : Int)), isV (.pointer (some ⟨4, k, Option.none⟩)), isV (lv y), isV (lv bb), isV (.tuple #[lv dk, lv bb2]), isV (.tuple #[lv dk, lv bb2]), isV (lv dk), isV (lv bb2), isV (.pointer (some ⟨w.heap.size + 1 + 1, k, Option.none⟩)), (fun _ _ => True), isV (lv bb2)] _ rfl (by kernel_rfl) (by kernel_rfl) rfl (by decide) (.inr rfl) (fun ph X => (blk (w.heap.size + 1 + 1) (.cells (if ph = true then P2 else P1) 58 (0, 0)) * (blk (w.heap.size + 1) (.cells Z4 58 (0, 0)) * (blk w.heap.size (.cells A4 58 (0, 0)) * all w))).on X ∧ Str w X) ⟨SP.on.drew HXk.out, Str.drew HSk.out⟩ (fun ph a b h st => ⟨h.1.below st, h.2.trans (Str.below st)⟩) ?keep ?keep2 ?store ?todo ?rest
      case keep => exact ⟨Keep.isV _, Keep.isV _, Keep.isV _, Keep.isV _, Keep.isV _, Keep.isV _, Keep.isV _, Keep.isV _, Keep.isV _, Keep.isV _, Keep.isV _, Keep.isV _, Keep.isV _, fun _ _ _ h _ => h, Keep.isV _, trivial⟩
      case keep2 => exact ⟨Keep.isV _, Keep.isV _, Keep.isV _, Keep.isV _, Keep.isV _, Keep.isV _, Keep.isV _, Keep.isV _, Keep.isV _, Keep.isV _, Keep.isV _, Keep.isV _, Keep.isV _, fun _ _ _ h _ => h, Keep.isV _, trivial⟩
      case store =>
        intro ev X hT hb hk hf
        have e0 : ev (.tmp 21) = .pointer (some ⟨w.heap.size + 1 + 1, k, Option.none⟩) := hf.1
        have e1 : ev (.tmp 19) = lv dk := hf.2.1
        have hX : (blk (w.heap.size + 1 + 1) (.cells P1 58 (0, 0)) * (blk (w.heap.size + 1) (.cells Z4 58 (0, 0)) * (blk w.heap.size (.cells A4 58 (0, 0)) * all w))).on X := hT.1
        exact OpOk.store_one _ _ _ rfl (w.heap.size + 1 + 1) k (lv dk) e0 e1 rfl _ P1 hX hs8 Hps.out rfl P2 Hp2.out (fun h3 => ⟨⟨h3, hT.2.setRow _ _⟩, trivial, fun i _ hv => vList_free (by
          intro P hP
          simp only [List.mem_cons, List.not_mem_nil, or_false] at hP
          rcases hP with rfl | rfl | rfl | rfl | rfl | rfl | rfl | rfl | rfl | rfl | rfl | rfl | rfl | rfl | rfl <;> exact fun _ _ _ h => h) i _ _ _ hv⟩)
      case todo =>
        refine ⟨?_, ?_, ?_, ?_, ?_, ?_, ?_, ?_, ?_, ?_, ?_, ?_, ?_, ?_, ?_, trivial⟩
        · intro _ ph h1 h2
          obtain rfl : ph = false := h2 (by kernel_rfl)
          intro ev X hT hb hk hf
          have e0 : ev (.tmp 5) = .int .i64 (k : Int) := hk.1
          exact OpOk.move rfl e0 ⟨rfl, Stay.refl _⟩
        · intro _ ph h1 h2
          obtain rfl : ph = false := h2 (by kernel_rfl)
          intro ev X hT hb hk hf
          have e0 : ev (.tmp 5) = .int .i64 (k : Int) := hk.1
          exact OpOk.move rfl e0 ⟨rfl, Stay.refl _⟩
        · intro _ ph h1 h2
          obtain rfl : ph = false := h2 (by kernel_rfl)
          intro ev X hT hb hk hf
          have e0 : ev (.tmp 1) = .pointer (some ⟨w.heap.size, 0, Option.none⟩) := hk.1
          have e1 : ev (.tmp 11) = .int .i64 (k : Int) := hf.1
          exact OpOk.run (v := .pointer (some ⟨w.heap.size, k, Option.none⟩)) (W' := X) (by simp [execOp, e0, e1, hb.1, hb.2.1, hb.2.2, hk4, go_sem]; try (intro h; omega)) ⟨rfl, Stay.refl _⟩
        · intro _ ph h1 h2
          obtain rfl : ph = false := h2 (by kernel_rfl)
          intro ev X hT hb hk hf
          have e0 : ev (.tmp 12) = .pointer (some ⟨w.heap.size, k, Option.none⟩) := hf.1
          have cW := HcA.out X hT.1.right.right
          exact OpOk.run (v := lv x) (W' := X) (by simp [execOp, e0, cW, go_sem]) ⟨rfl, Stay.refl _⟩
        · intro _ ph h1 h2
          obtain rfl : ph = false := h2 (by kernel_rfl)
          intro ev X hT hb hk hf
          have e0 : ev (.tmp 5) = .int .i64 (k : Int) := hk.1
          exact OpOk.move rfl e0 ⟨rfl, Stay.refl _⟩
        · intro _ ph h1 h2
          obtain rfl : ph = false := h2 (by kernel_rfl)
          intro ev X hT hb hk hf
          have e0 : ev (.tmp 14) = .int .i64 (k : Int) := hf.1
          exact OpOk.run (v := .pointer (some ⟨4, k, Option.none⟩)) (W' := X) (by simp [execOp, e0, hb.1, hb.2.1, hb.2.2, hk4, go_sem]; try (intro h; omega)) ⟨rfl, Stay.refl _⟩
        · intro _ ph h1 h2
          obtain rfl : ph = false := h2 (by kernel_rfl)
          intro ev X hT hb hk hf
          have e0 : ev (.tmp 15) = .pointer (some ⟨4, k, Option.none⟩) := hf.1
          have cW := HcO.out X hT.1.right.right.right hT.2
          exact OpOk.run (v := lv y) (W' := X) (by simp [execOp, e0, cW, go_sem]) ⟨rfl, Stay.refl _⟩
        · intro _ ph h1 h2
          obtain rfl : ph = false := h2 (by kernel_rfl)
          intro ev X hT hb hk hf
          have e0 : ev (.tmp 4) = lv bb := by have h9 := hk.1; rw [if_pos (by kernel_rfl)] at h9; exact h9
          exact OpOk.move rfl e0 ⟨rfl, Stay.refl _⟩
        · intro _ ph h1 h2
          obtain rfl : ph = false := h2 (by kernel_rfl)
          intro ev X hT hb hk hf
          have e0 : ev (.tmp 13) = lv x := hf.1
          have e1 : ev (.tmp 16) = lv y := hf.2.1
          have e2 : ev (.tmp 17) = lv bb := hf.2.2.1
          exact OpOk.run (v := .tuple #[lv dk, lv bb2]) (W' := X) (by have h9 := Hcall.out X; simp [execOp, resolve, invoke, e0, e1, e2, hb.1, hb.2.1, h9, go_sem]) ⟨rfl, Stay.refl _⟩
        · intro _ ph h1 h2
          obtain rfl : ph = false := h2 (by kernel_rfl)
          intro ev X hT hb hk hf
          have e0 : ev (.tmp 18) = .tuple #[lv dk, lv bb2] := hf.1
          exact OpOk.move rfl e0 ⟨rfl, Stay.refl _⟩
        · intro _ ph h1 h2
          obtain rfl : ph = false := h2 (by kernel_rfl)
          intro ev X hT hb hk hf
          have e0 : ev (.tmp 9) = .tuple #[lv dk, lv bb2] := hf.1
          exact OpOk.run (v := lv dk) (W' := X) (by simp [execOp, e0, hb.1, go_sem]) ⟨rfl, Stay.refl _⟩
        · intro _ ph h1 h2
          cases ph
          all_goals
            intro ev X hT hb hk hf
            have e0 : ev (.tmp 9) = .tuple #[lv dk, lv bb2] := hf.1
            exact OpOk.run (v := lv bb2) (W' := X) (by simp [execOp, e0, hb.1, go_sem]) ⟨rfl, Stay.refl _⟩
        · intro _ ph h1 h2
          obtain rfl : ph = false := h2 (by kernel_rfl)
          intro ev X hT hb hk hf
          have e0 : ev (.tmp 3) = .pointer (some ⟨w.heap.size + 1 + 1, 0, Option.none⟩) := hk.1
          have e1 : ev (.tmp 10) = .int .i64 (k : Int) := hf.1
          exact OpOk.run (v := .pointer (some ⟨w.heap.size + 1 + 1, k, Option.none⟩)) (W' := X) (by simp [execOp, e0, e1, hb.1, hb.2.1, hb.2.2, hk4, go_sem]; try (intro h; omega)) ⟨rfl, Stay.refl _⟩
        · exact fun h => absurd rfl h
        · intro _ ph h1 h2
          obtain rfl : ph = true := h1 (by kernel_rfl)
          intro ev X hT hb hk hf
          have e0 : ev (.tmp 20) = lv bb2 := hf.1
          exact OpOk.assign rfl e0 ⟨rfl, Stay.refl _⟩
      case rest =>
        intro X hT
        rintro _ - _ - _ - _ - _ - _ - _ - _ - _ - _ - _ - _ - _ - _ - _ rfl
        have hX2 : (blk (w.heap.size + 1 + 1) (.cells P2 58 (0, 0)) * (blk (w.heap.size + 1) (.cells Z4 58 (0, 0)) * (blk w.heap.size (.cells A4 58 (0, 0)) * all w))).on X := hT.1
        have HX2 := hide hX2
        have HST := hide hT.2
        clear hT hX2
        go_wp2
        refine Rest.done ?_
        go_wp2_with fail
        refine ⟨⟨k + 1, by omega, by simp, by rw [Hbb2.out], by rw [← HP2.out]; exact HX2.out, HST.out⟩, by simp [intOf]; omega⟩
    · obtain rfl : k = 4 := by omega
      have e4 : (qs 4 S).take 4 ++ (List.replicate 4 0).drop 4 = qs 4 S := by rw [List.take_of_length_le (by rw [qs_len]; omega)]; simp
      rw [e4] at HXk
      have gD := on_blk_mul HXk.out
      have gR := on_blk_mul HXk.out.right
      have gA := on_blk_mul HXk.out.right.right
      have HB := hide (all_below HXk.out.right.right.right HSk.out)
      have hzz : Z4.size = 4 := by rw [← HZ.out, q4_size]
      by_cases hlo : a < O6
      · have hbr : br a O6 4 = 1 := by rw [Hend.out, if_pos hlo]
        have HR := hide (show redO a = a by unfold redO; rw [if_pos hlo])
        rw [hbr]
        have hone := lvs_one (qs 4 a)
        have hzA : Z4.size = A4.size := by rw [hzz, ← HA.out, q4_size]
        rw [show lvs (qs 4 a) = A4 from HA.out] at hone
        clear hlo hbr e4 hzz
        go_wp2_with (first
          | (refine wpList_store_row rfl _ _ _ rfl (w.heap.size + 1) A4 rfl rfl _ _ gR HsA.out hzA hone ?_)
          | (refine wpList_load_row rfl _ _ rfl w.heap.size rfl _ A4 _ _ gA hu rfl HsA.out ?_))
        refine bodyPost_ret (v := .agg A4) (results_cell_row Tryd.results72 _ _ (w.heap.size + 1) _ A4 (0, 0) _ rfl (setRow_heap_same _ _ _ _ _ _ gR) hu rfl HsA.out) rfl ⟨by rw [HR.out, HA.out], below_setRow HB.out (by omega) _⟩
      · have hbr : br a O6 4 = 0 := by rw [Hend.out, if_neg hlo]
        have HR := hide (show redO a = a - O6 by unfold redO; rw [if_neg hlo])
        rw [hbr]
        have hone := lvs_one (qs 4 S)
        have hSD : lvs (qs 4 S) = q4 (a - O6) := by rw [HS.out]; show lvs _ = lvs _; rw [Hq4.out (by omega)]
        rw [HR.out] at HsR
        rw [hSD] at gD hone
        have hzA : Z4.size = (q4 (a - O6)).size := by rw [hzz, q4_size]
        generalize hD4 : q4 (a - O6) = D4 at *
        have HD4 := hide hD4
        clear hlo hbr e4 hzz hSD hD4 HXk
        go_wp2_with (first
          | (refine wpList_store_row rfl _ _ _ rfl (w.heap.size + 1) D4 rfl rfl _ _ gR HsR.out hzA hone ?_)
          | (refine wpList_load_row rfl _ _ rfl (w.heap.size + 1 + 1) rfl _ D4 _ _ gD hu rfl HsR.out ?_))
        refine bodyPost_ret (v := .agg D4) (results_cell_row Tryd.results72 _ _ (w.heap.size + 1) _ D4 (0, 0) _ rfl (setRow_heap_same _ _ _ _ _ _ gR) hu rfl HsR.out) rfl ⟨by rw [HR.out, HD4.out], below_setRow HB.out (by omega) _⟩
end Go.Proofs.YtgkofpfjbjnhfaaDoor
