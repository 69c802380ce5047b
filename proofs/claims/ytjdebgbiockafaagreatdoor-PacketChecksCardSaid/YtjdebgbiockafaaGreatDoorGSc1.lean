/- A part. -/
import Derived.Test.YtjdebgbiockafaaGreatDoorGBase
import Derived.Laws.Externs
import Derived.Laws.CopyRow
set_option linter.unusedVariables false
set_option linter.unusedSimpArgs false
set_option maxRecDepth 100000
set_option maxHeartbeats 8000000
namespace Go.Proofs.YtjdebgbiockafaaGreatDoor
open Go.ChangeShapes Go.WideShapes Go.ChangeAt Go.RowKit
abbrev lv (x : Nat) : Value := .int .u64 (x : Int)
def limb (n i : Nat) : Nat := n / 18446744073709551616 ^ i % 18446744073709551616
theorem limb_lt (n i : Nat) : limb n i < 18446744073709551616 := Nat.mod_lt _ (by decide)
def qs (m n : Nat) : List Nat := (List.range m).map (limb n)
theorem qs_len (m n : Nat) : (qs m n).length = m := by simp [qs]
theorem qs_get (m n k : Nat) (h : k < m) : (qs m n)[k]? = some (limb n k) := by simp [qs, h]
def lvs (l : List Nat) : Array Value := (l.map lv).toArray
theorem lvs_size (l : List Nat) : (lvs l).size = l.length := by simp [lvs]
theorem lvs_one (l : List Nat) : (lvs l).all (·.oneCell') = true := by
 rw [Array.all_eq_true_iff_forall_mem]
 intro x hx
 simp only [lvs, List.mem_toArray, List.mem_map] at hx
 obtain ⟨y, _, rfl⟩ := hx
 rfl
theorem lvs_get (l : List Nat) (k x : Nat) (h : l[k]? = some x) : (lvs l)[k]? = some (lv x) := by simp [lvs, h]
theorem lvs_set (l : List Nat) (k x : Nat) : (lvs l).setIfInBounds k (lv x) = lvs (l.set k x) := by
 unfold lvs
 rw [List.setIfInBounds_toArray, ← List.map_set]
abbrev q4 (n : Nat) : Array Value := lvs (qs 4 n)
theorem q4_size (n : Nat) : (q4 n).size = 4 := by rw [lvs_size, qs_len]
theorem set_takeN {α : Type} (s z : List α) (k : Nat) (x : α) (hx : s[k]? = some x) (hz : k < z.length) : (s.take k ++ z.drop k).set k x = s.take (k + 1) ++ z.drop (k + 1) := by
 obtain ⟨hs, rfl⟩ := List.getElem?_eq_some_iff.1 hx
 have hl : (s.take k).length = k := by rw [List.length_take]; omega
 rw [List.set_append_right _ _ (by omega), hl, Nat.sub_self, List.drop_eq_getElem_cons hz, List.set_cons_zero, List.take_succ_eq_append_getElem hs, List.append_assoc]
 rfl
def br (a o k : Nat) : Nat := if a % 18446744073709551616 ^ k < o % 18446744073709551616 ^ k then 1 else 0
theorem br_le (a o k : Nat) : br a o k ≤ 1 := by unfold br; split <;> omega
theorem lt_split (M r s x y : Nat) (hr : r < M) (hs : s < M) : r + M * x < s + M * y ↔ x < y + (if r < s then 1 else 0) := by
 rcases Nat.lt_trichotomy x y with h | h | h
 ·have h1 : M * (x + 1) ≤ M * y := Nat.mul_le_mul_left _ h
  rw [Nat.mul_add, Nat.mul_one] at h1
  constructor
  ·intro _; omega
  intro _; omega
 ·subst h
  split <;> omega
 have h1 : M * (y + 1) ≤ M * x := Nat.mul_le_mul_left _ h
 rw [Nat.mul_add, Nat.mul_one] at h1
 constructor
 ·intro _; omega
 ·intro h2; split at h2 <;> omega
theorem br_step (a o k : Nat) : br a o (k + 1) = if limb a k < limb o k + br a o k then 1 else 0 := by
 unfold br limb
 rw [Nat.mod_pow_succ, Nat.mod_pow_succ]
 have hM : 0 < 18446744073709551616 ^ k := Nat.pow_pos (by decide)
 have := lt_split (18446744073709551616 ^ k) (a % 18446744073709551616 ^ k) (o % 18446744073709551616 ^ k) (a / 18446744073709551616 ^ k % 18446744073709551616) (o / 18446744073709551616 ^ k % 18446744073709551616) (Nat.mod_lt _ hM) (Nat.mod_lt _ hM)
 simp only [this]
theorem sub_limb (a o : Nat) (ha : a < 18446744073709551616 ^ 4) (ho : o < 18446744073709551616 ^ 4) (k : Nat) (hk : k < 4) : limb (a + 18446744073709551616 ^ 4 - o) k = (limb a k + 18446744073709551616 - limb o k - br a o k) % 18446744073709551616 := by
 have h0 : limb (a + 18446744073709551616 ^ 4 - o) 0 = (limb a 0 + 18446744073709551616 - limb o 0 - br a o 0) % 18446744073709551616 := by
  unfold limb br; simp only [Nat.reducePow]; simp only [Nat.reducePow] at ha ho; split <;> omega
 have h1 : limb (a + 18446744073709551616 ^ 4 - o) 1 = (limb a 1 + 18446744073709551616 - limb o 1 - br a o 1) % 18446744073709551616 := by
  unfold limb br; simp only [Nat.reducePow]; simp only [Nat.reducePow] at ha ho; split <;> omega
 have h2 : limb (a + 18446744073709551616 ^ 4 - o) 2 = (limb a 2 + 18446744073709551616 - limb o 2 - br a o 2) % 18446744073709551616 := by
  unfold limb br; simp only [Nat.reducePow]; simp only [Nat.reducePow] at ha ho; split <;> omega
 have h3 : limb (a + 18446744073709551616 ^ 4 - o) 3 = (limb a 3 + 18446744073709551616 - limb o 3 - br a o 3) % 18446744073709551616 := by
  unfold limb br; simp only [Nat.reducePow]; simp only [Nat.reducePow] at ha ho; split <;> omega
 match k, hk with
 | 0, _ => exact h0
 | 1, _ => exact h1
 | 2, _ => exact h2
 | 3, _ => exact h3
theorem br_end (a o : Nat) (ha : a < 18446744073709551616 ^ 4) (ho : o < 18446744073709551616 ^ 4) : br a o 4 = if a < o then 1 else 0 := by
 unfold br
 rw [Nat.mod_eq_of_lt ha, Nat.mod_eq_of_lt ho]
theorem q4_sub (a o : Nat) (ha : a < 18446744073709551616 ^ 4) (ho : o ≤ a) : qs 4 (a + 18446744073709551616 ^ 4 - o) = qs 4 (a - o) := by
 unfold qs
 apply List.map_congr_left
 intro i hi
 have hi : i < 4 := List.mem_range.1 hi
 unfold limb
 match i, hi with
 | 0, _ => simp only [Nat.reducePow]; simp only [Nat.reducePow] at ha; omega
 | 1, _ => simp only [Nat.reducePow]; simp only [Nat.reducePow] at ha; omega
 | 2, _ => simp only [Nat.reducePow]; simp only [Nat.reducePow] at ha; omega
 | 3, _ => simp only [Nat.reducePow]; simp only [Nat.reducePow] at ha; omega
theorem sub64_run (x y b : Nat) (hb : b ≤ 1) (w : World) :
  (callFunc 104 #[.int .u64 x, .int .u64 y, .int .u64 b]).run Tryz.prog w =
   .ok (.value (.tuple #[.int .u64 (((x + 18446744073709551616 - y - b) % 18446744073709551616 : Nat) : Int), .int .u64 ((if x < y + b then 1 else 0 : Nat) : Int)])) w := by
 rw [run_callFunc_extern Tryz.func104 (by kernel_rfl) (by kernel_rfl) (by kernel_rfl) (e := (Extern.MathBitsCarry.rows[1]'(by decide)).2) (by kernel_rfl)]
 have : b = 0 ∨ b = 1 := by omega
 rcases this with rfl | rfl <;> rfl
theorem add64_run (x y c : Nat) (hc : c ≤ 1) (w : World) :
  (callFunc 120 #[.int .u64 x, .int .u64 y, .int .u64 c]).run Tryz.prog w =
   .ok (.value (.tuple #[.int .u64 (((x + y + c) % 18446744073709551616 : Nat) : Int), .int .u64 (((x + y + c) / 18446744073709551616 : Nat) : Int)])) w := by
 rw [run_callFunc_extern Tryz.func120 (by kernel_rfl) (by kernel_rfl) (by kernel_rfl) (e := (Extern.MathBitsCarry.rows[0]'(by decide)).2) (by kernel_rfl)]
 have : c = 0 ∨ c = 1 := by omega
 rcases this with rfl | rfl <;> rfl
def O6 : Nat := 7237005577332262213973186563042994240857116359379907606001950938285454250989
def TabO (w : World) : Prop := ∀ i, i < 4 → w.cell? ⟨4, i, .none⟩ = some (lv (limb O6 i))
theorem TabO.below {w X : World} (h : TabO w) (hb : Below w.heap.size w X) : TabO X := fun i hi => (hb.cell (World.block_lt_of_cell? _ _ (h i hi))).trans (h i hi)
def redO (a : Nat) : Nat := if a < O6 then a else a - O6
theorem qz : qs 4 0 = [0, 0, 0, 0] := by decide
theorem qz4 : q4 0 = #[.int .u64 0, .int .u64 0, .int .u64 0, .int .u64 0] := by rw [show q4 0 = lvs (qs 4 0) from rfl, qz]; rfl
theorem part_len (s : List Nat) (hs : s.length = 4) (k : Nat) (hk : k ≤ 4) : (s.take k ++ (List.replicate 4 0).drop k).length = 4 := by
 rw [List.length_append, List.length_take, List.length_drop, List.length_replicate, hs]; omega
theorem OpOk.store_one {P : Program} {o : Oper} {ev : Operand → Value} {W : World} {R : Value → World → Prop} {F : SP} (ty : TypeId) (x y : Operand) (ho : o.op = .store ty x y)
  (g off : Nat) (v : Value) (hx : ev x = .pointer (some ⟨g, off, .none⟩)) (hy : ev y = v) (hv : v.cells = #[v]) (t : TypeId) (old : Array Value) (H : (blk g (.cells old t (0, 0)) * F).on W) (hi : (P.info? ty).map (·.size) = some 1)
  (hl : off < old.size) (h1 : v.oneCell' = true) (new : Array Value) (hn : old.setIfInBounds off v = new)
  (h : (blk g (.cells new t (0, 0)) * F).on (W.setRow g new) → R undef (W.setRow g new)) : OpOk P o ev W R := by
 have hs := run_storeCells_at (P := P) g off t [v] 0 old W (on_blk_mul H) (by simp; omega) (by intro u hu; simp at hu; rw [hu]; exact h1)
 have e : old.toList.take off ++ [v] ++ old.toList.drop (off + [v].length) = new.toList := by
  rw [← hn, Array.toList_setIfInBounds, List.set_eq_take_append_cons_drop, if_pos (by simpa using hl)]
  simp
 simp only [Nat.add_zero, e, Array.toArray_toList] at hs
 have hsv : (storeVar ty ⟨g, off, .none⟩ v).run P W = .ok () (W.setRow g new) := by
  cases hq : P.info? ty with
  | none => simp [hq] at hi
  | some i =>
   have hz : i.size = 1 := by simpa [hq] using hi
   simp [storeVar, sizeOf, typeInfo, hq, hv, hz, hs]
 unfold OpOk execOp
 simp only [ho, hx, hy, Instr.storeAt, Instr.sureAddr, Sem.run_bind, Sem.run_pure, Result.andThen_ok, hsv]
 exact h (H.setRow new)
theorem vList_free {L : List (Value → World → Prop)} (h : ∀ P ∈ L, ∀ v w w', P v w → P v w') (i : Nat) (v : Value) (w w' : World) (hv : vList L i v w) : vList L i v w' := by
 unfold vList at hv ⊢
 cases hq : L[i]? with
 | none => rw [hq] at hv; exact hv
 | some P => rw [hq] at hv; exact h P (List.mem_of_getElem? hq) v w w' hv
theorem reduced_any (a : Nat) (ha : a < 18446744073709551616 ^ 4) (w : World) (hO : TabO w) :
  Calls Tryz.prog 88 #[.agg (q4 a)] w fun e w' => e = .returned (.agg (q4 (redO a))) ∧ Below w.heap.size w w' := by
 have hu := Tryz.underlying131
 have hz : ∀ w, (zeroValue 131).run Tryz.prog w = .ok (.agg (q4 0)) w := fun w => by rw [qz4]; kernel_rfl
 have hs : (Tryz.prog.info? 131).map (·.size) = some 4 := by kernel_rfl
 have Hs : ∀ n, (Tryz.prog.info? 131).map (·.size) = some (q4 n).size := fun n => by rw [q4_size]; exact hs
 have HsR := hide (Hs (redO a))
 have HsA := hide (Hs a)
 have h0 := (((on_all w).alloc (.cells (q4 a) 131)).alloc (.cells (q4 0) 131)).alloc (.cells (q4 0) 131)
 have hs0 := (((Str.refl w).alloc (.cells (q4 a) 131)).alloc (.cells (q4 0) 131)).alloc (.cells (q4 0) 131)
 have e1 : (w.alloc (.cells (q4 a) 131)).heap.size = w.heap.size + 1 := by simp
 have e2 : ((w.alloc (.cells (q4 a) 131)).alloc (.cells (q4 0) 131)).heap.size = w.heap.size + 1 + 1 := by simp
 rw [e2, e1] at h0
 have hO6 : O6 < 18446744073709551616 ^ 4 := by decide
 obtain ⟨S, hS⟩ : ∃ S, S = a + 18446744073709551616 ^ 4 - O6 := ⟨_, rfl⟩
 have HSub := hide (fun k hk => sub_limb a O6 ha hO6 k hk)
 rw [← hS] at HSub
 have HS := hide hS
 have H0 := hide h0
 have HS0 := hide hs0
 have HO := hide hO
 have Hend := hide (br_end a O6 ha hO6)
 have Hq4 := hide (q4_sub a O6 ha)
 have Ha := hide ha
 clear h0 hs0 hO hO6 hS e1 e2 ha
 generalize hA : q4 a = A4 at *
 generalize hZ : q4 0 = Z4 at *
 have HA := hide hA
 have HZ := hide hZ
 clear hA hZ hs Hs
 go_enter Tryz.func88, Tryz.ntmps88
 go_wp2_with fail
 generalize ((w.alloc (.cells A4 131)).alloc (.cells Z4 131)).alloc (.cells Z4 131) = w1 at *
 go_loopw [4, 6] (fun bv i wr => ∃ k : Nat, k ≤ 4 ∧ i = .int .i64 k ∧ bv = lv (br a O6 k) ∧ (blk (w.heap.size + 1 + 1) (.cells (lvs ((qs 4 S).take k ++ (List.replicate 4 0).drop k)) 131 (0, 0)) * (blk (w.heap.size + 1) (.cells Z4 131 (0, 0)) * (blk w.heap.size (.cells A4 131 (0, 0)) * all w))).on wr ∧ Str w wr) (fun _ i _ => 4 - (intOf i).toNat)
 case atStart =>
  refine ⟨0, by omega, rfl, ?_, ?_, HS0.out⟩
  ·simp [br, Nat.mod_one]
  have := H0.out
  rw [← HZ.out] at this ⊢
  rw [show (qs 4 S).take 0 ++ (List.replicate 4 0).drop 0 = qs 4 0 by rw [qz]; rfl]
  exact this
 obtain ⟨k, hk, rfl, rfl, hX, hS2⟩ := hrel
 have HXk := hide hX
 have HSk := hide hS2
 have HTk := hide (HO.out.below (all_below HXk.out.right.right.right HSk.out))
 clear hX hS2 H0 HS0
 by_cases hlt : k < 4
 ·have hstep := br_step a O6 k
  have hsub := HSub.out k hlt
  have Hset := hide (set_takeN (qs 4 S) (List.replicate 4 0) k (limb S k) (qs_get 4 S k hlt) (by simp; omega))
  have HcA : Hid (∀ X, (blk w.heap.size (.cells A4 131 (0, 0)) * all w).on X → X.cell? ⟨w.heap.size, k, .none⟩ = some (lv (limb a k))) := hide fun X hX => by rw [cell_of_row X w.heap.size k A4 _ _ (on_blk_mul hX), ← HA.out]; exact lvs_get _ k (limb a k) (qs_get 4 a k hlt)
  have HcO : Hid (∀ X, (all w).on X → Str w X → X.cell? ⟨4, k, .none⟩ = some (lv (limb O6 k))) := hide fun X hX hs => (HO.out.below (all_below hX hs)) k hlt
  have hcall := fun X => sub64_run (limb a k) (limb O6 k) (br a O6 k) (br_le _ _ _) X
  rw [← hsub, ← hstep] at hcall
  have Hcall := hide hcall
  have l1 := limb_lt a k
  have l2 := limb_lt O6 k
  have l3 := limb_lt S k
  have l4 := br_le a O6 k
  have l5 := br_le a O6 (k + 1)
  have hpl := part_len (qs 4 S) (qs_len 4 S) k hk
  obtain ⟨pl, hpl2⟩ : ∃ pl, pl = (qs 4 S).take k ++ (List.replicate 4 0).drop k := ⟨_, rfl⟩
  rw [← hpl2] at hpl HXk Hset
  have Hstep := hide hstep
  have Hcell : Hid (∀ X, (blk (w.heap.size + 1 + 1) (.cells (lvs pl) 131 (0, 0)) * (blk (w.heap.size + 1) (.cells Z4 131 (0, 0)) * (blk w.heap.size (.cells A4 131 (0, 0)) * all w))).on X → ∃ u, X.cell? ⟨w.heap.size + 1 + 1, k, .none⟩ = some u) := hide fun X hX => ⟨_, (cell_of_row X (w.heap.size + 1 + 1) k _ _ _ (on_blk_mul hX)).trans (lvs_get pl k pl[k] (List.getElem?_eq_getElem (by omega)))⟩
  obtain ⟨P1, hP1⟩ : ∃ P1, P1 = lvs pl := ⟨_, rfl⟩
  obtain ⟨P2, hP2⟩ : ∃ P2, P2 = lvs (pl.set k (limb S k)) := ⟨_, rfl⟩
  have Hp2 := hide (show P1.setIfInBounds k (lv (limb S k)) = P2 by rw [hP1, hP2, lvs_set])
  have HP2 := hide (show P2 = lvs ((qs 4 S).take (k + 1) ++ (List.replicate 4 0).drop (k + 1)) by rw [hP2, Hset.out])
  have Hps := hide (show k < P1.size by rw [hP1, lvs_size]; omega)
  have hs8 : (Tryz.prog.info? 50).map (·.size) = some 1 := by kernel_rfl
  rw [← hP1] at HXk Hcell
  clear hsub hcall hpl hpl2 hstep hP1 hP2 Hset
  generalize limb a k = x at *
  generalize limb O6 k = y at *
  generalize br a O6 k = bb at *
  generalize hbb2 : br a O6 (k + 1) = bb2 at *
  have Hbb2 := hide hbb2
  clear hbb2
  generalize limb S k = dk at *
  have hk4 : (k : Int) < 4 := by omega
  go_wp2_with fail
  refine AppK.wp_region_set 13 [isV (.int .i64 (k : Int)), isV (.int .i64 (k : Int)), isV (.pointer (some ⟨w.heap.size, k, .none⟩)), isV (lv x), isV (.int .i64 (k : Int)), isV (.pointer (some ⟨4, k, .none⟩)), isV (lv y), isV (lv bb), isV (.tuple #[lv dk, lv bb2]), isV (.tuple #[lv dk, lv bb2]), isV (lv dk), isV (lv bb2), isV (.pointer (some ⟨w.heap.size + 1 + 1, k, .none⟩)), (fun _ _ => True), isV (lv bb2)]
   [isV (.int .i64 (k : Int)), isV (.int .i64 (k : Int)), isV (.pointer (some ⟨w.heap.size, k, .none⟩)), isV (lv x), isV (.int .i64 (k : Int)), isV (.pointer (some ⟨4, k, .none⟩)), isV (lv y), isV (lv bb), isV (.tuple #[lv dk, lv bb2]), isV (.tuple #[lv dk, lv bb2]), isV (lv dk), isV (lv bb2), isV (.pointer (some ⟨w.heap.size + 1 + 1, k, .none⟩)), (fun _ _ => True), isV (lv bb2)] _ rfl (by kernel_rfl) (by kernel_rfl) rfl (by decide) (.inr rfl) (fun ph X => (blk (w.heap.size + 1 + 1) (.cells (if ph = true then P2 else P1) 131 (0, 0)) * (blk (w.heap.size + 1) (.cells Z4 131 (0, 0)) * (blk w.heap.size (.cells A4 131 (0, 0)) * all w))).on X ∧ Str w X) ⟨SP.on.drew HXk.out, Str.drew HSk.out⟩ (fun ph a b h st => ⟨h.1.below st, h.2.trans (Str.below st)⟩) kP kP ?store ?todo ?r119
  case store =>
   intro ev X hT hb hk hf
   have hX : (blk (w.heap.size + 1 + 1) (.cells P1 131 (0, 0)) * (blk (w.heap.size + 1) (.cells Z4 131 (0, 0)) * (blk w.heap.size (.cells A4 131 (0, 0)) * all w))).on X := hT.1
   exact OpOk.store_one _ _ _ rfl (w.heap.size + 1 + 1) k (lv dk) (fX ev 21 hf.1) (fX ev 19 hf.2.1) rfl _ P1 hX hs8 Hps.out rfl P2 Hp2.out (fun h3 => ⟨⟨h3, hT.2.setRow _ _⟩, trivial, fun i _ hv => vList_free fR i _ _ _ hv⟩)
  case todo =>
   refine ⟨?_, ?_, ?_, ?_, ?_, ?_, ?_, ?_, ?_, ?_, ?_, ?_, ?_, ?_, ?_, trivial⟩
   ·refine pK fun ev X hT hb hk hf => ?_
    exact OpOk.m rfl (fV ev 5 (.int .i64 (k : Int)) hk.1)
   ·refine pK fun ev X hT hb hk hf => ?_
    exact OpOk.m rfl (fV ev 5 (.int .i64 (k : Int)) hk.1)
   ·refine pK fun ev X hT hb hk hf => ?_
    exact OpOk.r (by simp [execOp, fV ev 1 (.pointer (some ⟨w.heap.size, 0, .none⟩)) hk.1, fX ev 11 hf.1, hb.1, hb.2.1, hb.2.2, hk4, go_sem]; try (intro h; omega))
   ·refine pK fun ev X hT hb hk hf => ?_
    have cW := HcA.out X hT.1.right.right
    exact OpOk.sc (fX ev 12 hf.1) cW
   ·refine pK fun ev X hT hb hk hf => ?_
    exact OpOk.m rfl (fV ev 5 (.int .i64 (k : Int)) hk.1)
   ·refine pK fun ev X hT hb hk hf => ?_
    exact OpOk.r (by simp [execOp, fX ev 14 hf.1, hb.1, hb.2.1, hb.2.2, hk4, go_sem]; try (intro h; omega))
   ·refine pK fun ev X hT hb hk hf => ?_
    have cW := HcO.out X hT.1.right.right.right hT.2
    exact OpOk.sc (fX ev 15 hf.1) cW
   ·refine pK fun ev X hT hb hk hf => ?_
    have e0 : ev (.tmp 4) = lv bb := fP hk.1 (by kernel_rfl)
    exact OpOk.m rfl e0
   ·refine pK fun ev X hT hb hk hf => ?_
    exact OpOk.r (by have h9 := Hcall.out X; simp [execOp, resolve, invoke, fX ev 13 hf.1, fX ev 16 hf.2.1, fX ev 17 hf.2.2.1, hb.1, hb.2.1, h9, go_sem])
   ·refine pK fun ev X hT hb hk hf => ?_
    exact OpOk.m rfl (fX ev 18 hf.1)
   ·refine pK fun ev X hT hb hk hf => ?_
    exact OpOk.s (fX ev 9 hf.1) hb
   ·intro _ ph h1 h2
    cases ph
    all_goals
     intro ev X hT hb hk hf
     exact OpOk.s (fX ev 9 hf.1) hb
   ·refine pK fun ev X hT hb hk hf => ?_
    exact OpOk.r (by simp [execOp, fV ev 3 (.pointer (some ⟨w.heap.size + 1 + 1, 0, .none⟩)) hk.1, fX ev 10 hf.1, hb.1, hb.2.1, hb.2.2, hk4, go_sem]; try (intro h; omega))
   ·exact fun h => absurd rfl h
   intro _ ph h1 h2
   obtain rfl : ph = true := h1 (by kernel_rfl)
   intro ev X hT hb hk hf
   exact OpOk.assign rfl (fX ev 20 hf.1) ⟨rfl, Stay.refl _⟩
  intro X hT
  rintro _ - _ - _ - _ - _ - _ - _ - _ - _ - _ - _ - _ - _ - _ - _ rfl
  have hX2 : (blk (w.heap.size + 1 + 1) (.cells P2 131 (0, 0)) * (blk (w.heap.size + 1) (.cells Z4 131 (0, 0)) * (blk w.heap.size (.cells A4 131 (0, 0)) * all w))).on X := hT.1
  have HX2 := hide hX2
  have HST := hide hT.2
  clear hT hX2
  go_wp2
  refine Rest.done ?_
  go_wp2
  refine ⟨⟨k + 1, by omega, by simp, by rw [Hbb2.out], by rw [← HP2.out]; exact HX2.out, HST.out⟩, by simp [intOf]; omega⟩
 obtain rfl : k = 4 := by omega
 have e4 : (qs 4 S).take 4 ++ (List.replicate 4 0).drop 4 = qs 4 S := by rw [List.take_of_length_le (by rw [qs_len]; omega)]; simp
 rw [e4] at HXk
 have gD := on_blk_mul HXk.out
 have gR := on_blk_mul HXk.out.right
 have gA := on_blk_mul HXk.out.right.right
 have HB := hide (all_below HXk.out.right.right.right HSk.out)
 have hzz : Z4.size = 4 := by rw [← HZ.out, q4_size]
 by_cases hlo : a < O6
 ·have hbr : br a O6 4 = 1 := by rw [Hend.out, if_pos hlo]
  have HR := hide (show redO a = a by unfold redO; rw [if_pos hlo])
  rw [hbr]
  have hone := lvs_one (qs 4 a)
  have hzA : Z4.size = A4.size := by rw [hzz, ← HA.out, q4_size]
  rw [show lvs (qs 4 a) = A4 from HA.out] at hone
  clear hlo hbr e4 hzz
  go_wp2_with (first
   | (refine wS gR HsA.out hzA hone ?_)
   | (refine wL gA hu HsA ?_))
  exact retE Tryz.results88 gR hu HsA.out rfl (by rw [HR.out, HA.out]) HB.out (by omega)
 have hbr : br a O6 4 = 0 := by rw [Hend.out, if_neg hlo]
 have HR := hide (show redO a = a - O6 by unfold redO; rw [if_neg hlo])
 rw [hbr]
 have hone := lvs_one (qs 4 S)
 have hSD : lvs (qs 4 S) = q4 (a - O6) := by rw [HS.out]; show lvs _ = lvs _; rw [Hq4.out (by omega)]
 rw [HR.out] at HsR
 rw [hSD] at gD hone
 have hzA : Z4.size = (q4 (a - O6)).size := by rw [hzz, q4_size]
 generalize hD4 : q4 (a - O6) = D4 at *
 have HD4 := hide hD4
 clear hlo hbr e4 hzz hSD hD4 HXk
 go_wp2_with (first
  | (refine wS gR HsR.out hzA hone ?_)
  | (refine wL gD hu HsR ?_))
 exact retE Tryz.results88 gR hu HsR.out rfl (by rw [HR.out, HD4.out]) HB.out (by omega)
def cy (n b k : Nat) : Nat := (2 * (n % 18446744073709551616 ^ k) + b) / 18446744073709551616 ^ k
theorem cy_0 (n b : Nat) : cy n b 0 = b := by simp [cy, Nat.mod_one]
theorem cy_step (n b k : Nat) (hb : b ≤ 1) (hk : k < 4) : cy n b (k + 1) = limb n k / 9223372036854775808 := by
 unfold cy limb
 match k, hk with
 | 0, _ => simp only [Nat.reducePow, Nat.reduceAdd]; omega
 | 1, _ => simp only [Nat.reducePow, Nat.reduceAdd]; omega
 | 2, _ => simp only [Nat.reducePow, Nat.reduceAdd]; omega
 | 3, _ => simp only [Nat.reducePow, Nat.reduceAdd]; omega
theorem cy_le (n b k : Nat) (hb : b ≤ 1) (hk : k ≤ 4) : cy n b k ≤ 1 := by
 unfold cy
 match k, hk with
 | 0, _ => simp only [Nat.reducePow]; omega
 | 1, _ => simp only [Nat.reducePow]; omega
 | 2, _ => simp only [Nat.reducePow]; omega
 | 3, _ => simp only [Nat.reducePow]; omega
 | 4, _ => simp only [Nat.reducePow]; omega
theorem dbl_limb (n b k : Nat) (hb : b ≤ 1) (hk : k < 4) : limb (2 * n + b) k = (2 * limb n k) % 18446744073709551616 + cy n b k := by
 unfold cy limb
 match k, hk with
 | 0, _ => simp only [Nat.reducePow]; omega
 | 1, _ => simp only [Nat.reducePow]; omega
 | 2, _ => simp only [Nat.reducePow]; omega
 | 3, _ => simp only [Nat.reducePow]; omega
theorem even_or (x c : Nat) (hc : c ≤ 1) : (2 * x) % 18446744073709551616 ||| c = (2 * x) % 18446744073709551616 + c := by
 have e : (2 * x) % 18446744073709551616 = 2 * (x % 9223372036854775808) := by omega
 rw [e]
 have : c = 0 ∨ c = 1 := by omega
 rcases this with rfl | rfl
 ·simp
 rw [show 2 * (x % 9223372036854775808) = (x % 9223372036854775808) <<< 1 by rw [Nat.shiftLeft_eq]; omega, ← Nat.shiftLeft_add_eq_or_of_lt (by decide)]
theorem twice_any (n : Nat) (b : Nat) (hb : b ≤ 1) (w : World) :
  Calls Tryz.prog 108 #[.agg (q4 n), .int .u8 (b : Nat)] w fun e w' => e = .returned (.agg (q4 (2 * n + b))) ∧ Below w.heap.size w w' := by
 have hu := Tryz.underlying131
 have hu6 := Tryz.underlying50
 have hz : ∀ w, (zeroValue 131).run Tryz.prog w = .ok (.agg (q4 0)) w := fun w => by rw [qz4]; kernel_rfl
 have hs : (Tryz.prog.info? 131).map (·.size) = some 4 := by kernel_rfl
 have Hs : ∀ n, (Tryz.prog.info? 131).map (·.size) = some (q4 n).size := fun n => by rw [q4_size]; exact hs
 have HsR := hide (Hs (2 * n + b))
 have HsA := hide (Hs n)
 have h0 := ((on_all w).alloc (.cells (q4 n) 131)).alloc (.cells (q4 0) 131)
 have hs0 := ((Str.refl w).alloc (.cells (q4 n) 131)).alloc (.cells (q4 0) 131)
 rw [World.size_alloc] at h0
 have gA0 := on_blk_mul h0.right
 have Hidx : Hid (∀ (X : World) (k : Nat), k < 4 → (Instr.index 131 (.agg (q4 n)) (.int .i64 (k : Int))).run Tryz.prog X = .ok (lv (limb n k)) X) := hide fun X k hk => run_index_one X 131 50 4 (q4 n) k (lv (limb n k)) .u64 hu hu6 (by kernel_rfl) hk (lvs_get _ k _ (qs_get 4 n k hk))
 have H0 := hide h0
 have HS0 := hide hs0
 clear h0 hs0 hs Hs
 generalize hA : q4 n = A4 at *
 generalize hZ : q4 0 = Z4 at *
 have HA := hide hA
 have HZ := hide hZ
 clear hA hZ
 go_enter Tryz.func108, Tryz.ntmps108
 go_wp2_with (refine wL gA0 hu HsA ?_)
 generalize (w.alloc (.cells A4 131)).alloc (.cells Z4 131) = w1 at *
 go_loopw [5, 11] (fun cv i wr => ∃ k : Nat, k ≤ 4 ∧ i = .int .i64 k ∧ cv = lv (cy n b k) ∧ (blk w.heap.size (.cells (lvs ((qs 4 (2 * n + b)).take k ++ (qs 4 n).drop k)) 131 (0, 0)) * (blk (w.heap.size + 1) (.cells Z4 131 (0, 0)) * all w)).on wr ∧ Str w wr) (fun _ i _ => 4 - (intOf i).toNat)
 case atStart =>
  refine ⟨0, by omega, rfl, by rw [cy_0], ?_, HS0.out⟩
  have := H0.out
  rw [SP.mul_left_comm, ← HA.out] at this
  exact this
 obtain ⟨k, hk, rfl, rfl, hX, hS2⟩ := hrel
 have HXk := hide hX
 have HSk := hide hS2
 clear hX hS2 H0 HS0 gA0
 by_cases hlt : k < 4
 ·have hi := Hidx.out wr k hlt
  have Hset := hide (set_takeN (qs 4 (2 * n + b)) (qs 4 n) k (limb (2 * n + b) k) (qs_get 4 _ k hlt) (by rw [qs_len]; exact hlt))
  have hst := cy_step n b k hb hlt
  have hdl := dbl_limb n b k hb hlt
  have hcl := cy_le n b k hb hk
  have hcl2 := cy_le n b (k + 1) hb (by omega)
  have l1 := limb_lt n k
  have l2 := limb_lt (2 * n + b) k
  have hor := even_or (limb n k) (cy n b k) hcl
  rw [← hdl] at hor
  have hpl : ((qs 4 (2 * n + b)).take k ++ (qs 4 n).drop k).length = 4 := by rw [List.length_append, List.length_take, List.length_drop, qs_len, qs_len]; omega
  obtain ⟨pl, hpl2⟩ : ∃ pl, pl = (qs 4 (2 * n + b)).take k ++ (qs 4 n).drop k := ⟨_, rfl⟩
  rw [← hpl2] at hpl HXk Hset
  obtain ⟨old, hold⟩ : ∃ v, wr.cell? ⟨w.heap.size, k, .none⟩ = some v := ⟨_, (cell_of_row wr w.heap.size k _ _ _ (on_blk_mul HXk.out)).trans (lvs_get pl k pl[k] (List.getElem?_eq_getElem (by omega)))⟩
  have hfr := frozen_of_row wr w.heap.size k _ _ (on_blk_mul HXk.out)
  have hk4 : (k : Int) < 4 := by omega
  have Hst := hide hst
  have q1 : bits .or .u64 ((2 * limb n k % 18446744073709551616 : Nat) : Int) ((cy n b k : Nat) : Int) = ((limb (2 * n + b) k : Nat) : Int) := (u64_or_nat _ _ (by omega) (by omega)).trans (congrArg Int.ofNat hor)
  clear hpl2 hpl hor hdl hst
  generalize limb n k = x at *
  generalize cy n b k = c at *
  generalize hc2 : cy n b (k + 1) = c2 at *
  generalize limb (2 * n + b) k = T at *
  have Hc2 := hide hc2
  clear hc2
  have q2 : bits .or .u64 (IntKind.u64.wrap ((x : Int) * 2)) (c : Int) = (T : Int) := by
   rw [← q1]
   congr 1
   rw [show IntKind.u64.wrap ((x : Int) * 2) = ((x : Int) * 2) % 18446744073709551616 from IntKind.wrap_u64 _]
   omega
  have Q2 := hide q2
  clear q1 q2
  go_wp2_with fail
  rw [Q2.out]
  refine ⟨⟨k + 1, by omega, by simp, ?_, ?_, HSk.out.setCell _ _⟩, by simp [intOf]; omega⟩
  ·rw [Hc2.out]
   exact congrArg (Value.int IntKind.u64) (by have := Hst.out; omega)
  have h3 := SP.on.setCell (i := k) HXk.out (lv T)
  rw [lvs_set, Hset.out] at h3
  exact h3
 obtain rfl : k = 4 := by omega
 have e4 : (qs 4 (2 * n + b)).take 4 ++ (qs 4 n).drop 4 = qs 4 (2 * n + b) := by rw [List.take_of_length_le (by rw [qs_len]; omega), List.drop_of_length_le (by rw [qs_len]; omega), List.append_nil]
 rw [e4] at HXk
 have gA := on_blk_mul HXk.out
 have gR := on_blk_mul HXk.out.right
 have HB := hide (all_below HXk.out.right.right HSk.out)
 have hone := lvs_one (qs 4 (2 * n + b))
 have hzA : Z4.size = (q4 (2 * n + b)).size := by rw [← HZ.out, q4_size, q4_size]
 obtain ⟨R4, hR4⟩ : ∃ R4, R4 = q4 (2 * n + b) := ⟨_, rfl⟩
 have HR4 := hide hR4
 have HsR2 : Hid ((Tryz.prog.info? 131).map (·.size) = some R4.size) := hide (by rw [hR4]; exact HsR.out)
 rw [show lvs (qs 4 (2 * n + b)) = R4 from hR4.symm] at gA hone
 rw [← hR4] at hzA
 clear e4 hR4 HXk
 go_wp2_with (first
  | (refine wS gR HsR2.out hzA hone ?_)
  | (refine wL gA hu HsR2 ?_))
 exact retE Tryz.results108 gR hu HsR2.out rfl (by rw [HR4.out]) HB.out (by omega)
def leN : List UInt8 → Nat
 | [] => 0
 | x :: l => x.toNat + 256 * leN l
theorem redO_two (a b : Nat) (ha : a < O6) (hb : b ≤ 1) : redO (2 * a + b) = (2 * a + b) % O6 := by
 unfold redO O6 at *
 split <;> omega
def bitAcc (acc c j : Nat) : Nat := (acc * 2 ^ j + c / 2 ^ (8 - j)) % O6
theorem bitAcc_lt (acc c j : Nat) : bitAcc acc c j < O6 := Nat.mod_lt _ (by decide)
theorem bitAcc_0 (acc c : Nat) (ha : acc < O6) (hc : c < 256) : bitAcc acc c 0 = acc := by
 unfold bitAcc
 simp only [Nat.pow_zero, Nat.mul_one, Nat.sub_zero, Nat.reducePow]
 rw [show c / 256 = 0 by omega, Nat.add_zero, Nat.mod_eq_of_lt ha]
theorem two_mod (y b : Nat) : (2 * (y % O6) + b) % O6 = (2 * y + b) % O6 := by unfold O6; omega
theorem bitAcc_step (acc c j : Nat) (hc : c < 256) (hj : j < 8) : bitAcc acc c (j + 1) = redO (2 * bitAcc acc c j + c / 2 ^ (7 - j) % 2) := by
 rw [redO_two _ _ (bitAcc_lt _ _ _) (by omega)]
 unfold bitAcc
 rw [two_mod]
 congr 1
 match j, hj with
 | 0, _ => simp only [Nat.reducePow, Nat.reduceSub, Nat.reduceAdd]; omega
 | 1, _ => simp only [Nat.reducePow, Nat.reduceSub, Nat.reduceAdd]; omega
 | 2, _ => simp only [Nat.reducePow, Nat.reduceSub, Nat.reduceAdd]; omega
 | 3, _ => simp only [Nat.reducePow, Nat.reduceSub, Nat.reduceAdd]; omega
 | 4, _ => simp only [Nat.reducePow, Nat.reduceSub, Nat.reduceAdd]; omega
 | 5, _ => simp only [Nat.reducePow, Nat.reduceSub, Nat.reduceAdd]; omega
 | 6, _ => simp only [Nat.reducePow, Nat.reduceSub, Nat.reduceAdd]; omega
 | 7, _ => simp only [Nat.reducePow, Nat.reduceSub, Nat.reduceAdd]; omega
theorem bitAcc_8 (l : List UInt8) (x : UInt8) : bitAcc (leN l % O6) x.toNat 8 = leN (x :: l) % O6 := by
 unfold bitAcc
 simp only [Nat.reducePow, Nat.reduceSub, Nat.div_one, leN]
 unfold O6
 omega
theorem O6_small {a : Nat} (h : a < O6) : 2 * a + 1 < 18446744073709551616 ^ 4 := by
 unfold O6 at h; simp only [Nat.reducePow]; omega
theorem drop_byte (b : List UInt8) (k : Nat) (h : k < b.length) : b.drop (b.length - (k + 1)) = b[b.length - 1 - k] :: b.drop (b.length - k) := by
 rw [List.drop_eq_getElem_cons (by omega)]
 congr 1
 ·congr 1; omega
 congr 1; omega
theorem and_one (d : Nat) (h : d < 256) : bits .and .u8 (d : Int) 1 = ((d % 2 : Nat) : Int) :=
 (by decide +kernel : ∀ d : Fin 256, bits .and .u8 ((d.val : Nat) : Int) 1 = ((d.val % 2 : Nat) : Int)) ⟨d, h⟩
theorem reduce_any (v : Value) (b : List UInt8) (w : World) (h : IsBytes w v b) (hO : TabO w) (hlen : b.length ≤ 1000000) :
  Calls Tryz.prog 90 #[v] w fun e w' => e = .returned (.agg (q4 (leN b % O6))) ∧ Below w.heap.size w w' := by
 have hu := Tryz.underlying131
 have hz : ∀ w, (zeroValue 131).run Tryz.prog w = .ok (.agg (q4 0)) w := fun w => by rw [qz4]; kernel_rfl
 have Hs : Hid (∀ n, (Tryz.prog.info? 131).map (·.size) = some (q4 n).size) := hide fun n => by rw [q4_size]; kernel_rfl
 have Hb := hide h
 obtain ⟨a, c, rfl, hc, hm, _, _⟩ := h
 unfold maxLen at hm
 have h0 := ((on_all w).alloc (.cells (q4 0) 131)).alloc (.cells (q4 0) 131)
 have hs0 := ((Str.refl w).alloc (.cells (q4 0) 131)).alloc (.cells (q4 0) 131)
 rw [World.size_alloc] at h0
 have H0 := hide h0
 have HS0 := hide hs0
 have HO := hide hO
 clear h0 hs0 hO
 generalize hZ : q4 0 = Z4 at *
 have HZ := hide hZ
 clear hZ
 go_enter Tryz.func90, Tryz.ntmps90
 go_wp2_with fail
 generalize (w.alloc (.cells Z4 131)).alloc (.cells Z4 131) = w1 at *
 go_loopw [9] (fun i wr => ∃ k : Nat, k ≤ b.length ∧ i = .int .i64 k ∧ (blk (w.heap.size + 1) (.cells (q4 (leN (b.drop (b.length - k)) % O6)) 131 (0, 0)) * (blk w.heap.size (.cells Z4 131 (0, 0)) * all w)).on wr ∧ Str w wr) (fun i _ => b.length - (intOf i).toNat)
 case atStart =>
  refine ⟨0, by omega, rfl, ?_, HS0.out⟩
  rw [Nat.sub_zero, List.drop_length, show leN [] % O6 = 0 by decide, HZ.out]
  exact H0.out
 obtain ⟨k, hk, rfl, hX, hS2⟩ := hrel
 have HXk := hide hX
 have HSk := hide hS2
 clear hX hS2 H0 HS0
 by_cases hlt : k < b.length
 ·have hdb := drop_byte b k hlt
  have hidx : b.length - 1 - k < b.length := by omega
  obtain ⟨bg, bo, rfl⟩ : ∃ bg bo, a = some ⟨bg, bo, .none⟩ := by
   obtain ⟨_, _, e, _, _, h3, _⟩ := Hb.out
   simp only [Value.slice.injEq] at e
   obtain ⟨rfl, _, rfl⟩ := e
   exact Lay.isAddr h3 0 (by simp; omega)
  have hbx := Hb.out.below (all_below HXk.out.right.right HSk.out)
  have cx : wr.cell? ⟨bg, bo + (b.length - 1 - k), .none⟩ = some (vb b[b.length - 1 - k]) := by
   obtain ⟨_, _, e, _, _, h3, _⟩ := hbx
   simp only [Value.slice.injEq] at e
   obtain ⟨rfl, _, rfl⟩ := e
   exact Lay.cell h3 _ (vbs_get b _ hidx)
  have Hdb := hide (show leN (b.drop (b.length - (k + 1))) = leN (b[b.length - 1 - k] :: b.drop (b.length - k)) by rw [hdb])
  have hacc : leN (b.drop (b.length - k)) % O6 < O6 := Nat.mod_lt _ (by decide)
  have Hnext := hide (bitAcc_8 (b.drop (b.length - k)) b[b.length - 1 - k])
  rw [← Hdb.out] at Hnext
  have hx8 := UInt8.toNat_lt b[b.length - 1 - k]
  clear hbx hdb Hdb
  generalize leN (b.drop (b.length - k)) % O6 = acc at *
  generalize b[b.length - 1 - k] = x at *
  have s1 : IntKind.i64.wrap ((b.length : Int) - 1) = (b.length : Int) - 1 := IntWalk.i64_in _ (by omega)
  have s2 : IntKind.i64.wrap ((b.length : Int) - 1 - (k : Int)) = ((b.length - 1 - k : Nat) : Int) := by rw [IntWalk.i64_in _ (by omega)]; omega
  have hmm : ((b.length - 1 - k : Nat) : Int) < (b.length : Int) := by omega
  go_wp2_with fail
  go_loopw [20] (fun i wr => ∃ j : Nat, j ≤ 8 ∧ i = .int .i64 j ∧ (blk (w.heap.size + 1) (.cells (q4 (bitAcc acc x.toNat j)) 131 (0, 0)) * (blk w.heap.size (.cells Z4 131 (0, 0)) * all w)).on wr ∧ Str w wr) (fun i _ => 8 - (intOf i).toNat)
  case atStart =>
   refine ⟨0, by omega, rfl, ?_, HSk.out⟩
   rw [bitAcc_0 _ _ hacc hx8]
   exact HXk.out
  obtain ⟨j, hj, rfl, hX, hS2⟩ := hrel
  have HXj := hide hX
  have HSj := hide hS2
  clear hX hS2 HXk HSk cx
  by_cases hltj : j < 8
  ·have j8 : (j : Int) < 8 := by omega
   have Hst := hide (bitAcc_step acc x.toNat j hx8 hltj)
   have hA := bitAcc_lt acc x.toNat j
   have Hb1 := hide (show x.toNat / 2 ^ (7 - j) % 2 ≤ 1 by omega)
   have GX := hide (on_blk_mul HXj.out)
   have HOj := hide (HO.out.below (all_below HXj.out.right.right HSj.out))
   have s7 : IntKind.i64.wrap (7 - (j : Int)) = ((7 - j : Nat) : Int) := by rw [IntWalk.i64_in _ (by omega)]; omega
   generalize bitAcc acc x.toNat j = A at *
   go_wp2_with fail
   have hdlt : x.toNat / 2 ^ (7 - j) < 256 := Nat.lt_of_le_of_lt (Nat.div_le_self _ _) hx8
   generalize hd1 : x.toNat / 2 ^ (7 - j) = d1 at *
   have Hd1 := hide hd1
   clear hd1
   have s8 : (x.toNat : Int) / 2 ^ (7 - j) = (d1 : Int) := by rw [← Hd1.out, Int.natCast_ediv, Int.natCast_pow]; rfl
   generalize hbb : d1 % 2 = bb at *
   have Hbb := hide hbb
   clear hbb
   have s9 : bits .and .u8 (d1 : Int) 1 = (bb : Int) := (and_one d1 hdlt).trans (by rw [Hbb.out])
   have HL := hide (show 2 * A + bb < 18446744073709551616 ^ 4 from Nat.lt_of_le_of_lt (by have := Hb1.out; omega) (O6_small hA))
   generalize hA2 : redO (2 * A + bb) = A2 at *
   have HA2 := hide hA2
   clear hA2
   have lX := hide (Array.getElem?_eq_some_iff.1 GX.out).1
   refine wp_tail 8 (iv [.agg (q4 A), vb x, .int .i64 (j : Nat), .int .i64 ((7 - j : Nat) : Int), .int .u8 (d1 : Nat), .int .u8 (bb : Nat), .agg (q4 (2 * A + bb)), .agg (q4 A2)]) ?t105 ?r120
   case' t105 => refine ⟨?_, ?_, ?_, ?_, ?_, ?_, ?_, ?_, trivial⟩ <;> intro ev X hT hb hk hf
   ·exact OpOk.load_row _ _ rfl _ (fV ev 3 (.pointer (some ⟨w.heap.size + 1, 0, .none⟩)) hk.1) _ (q4 A) (0, 0) _ ((hT.block _ lX.out).trans GX.out) hu rfl (Hs.out _) ⟨rfl, Stay.refl _⟩
   ·exact OpOk.m rfl hk.1
   ·exact OpOk.m rfl hk.1
   ·exact OpOk.r (by simp [execOp, fX ev 25 hf.1, hb.1, s7, go_sem])
   ·exact OpOk.r (by simp [execOp, fX ev 24 hf.1, fX ev 26 hf.2.1, vb, s8, go_sem])
   ·exact OpOk.r (by simp [execOp, fX ev 27 hf.1, hb.1, s9, go_sem])
   ·exact OpOk.c2 (fX ev 23 hf.1) (fX ev 28 hf.2.1) hb (twice_any A bb Hb1.out X)
   ·refine OpOk.enters (by simp [execOp, resolve, invoke, fX ev 29 hf.1, hb.1, hb.2.1, go_sem]) ((reduced_any (2 * A + bb) HL.out X (HOj.out.below hT)).mono ?_)
    rintro e _ ⟨rfl, hB⟩
    exact ⟨_, rfl, congrArg (fun n => Value.agg (q4 n)) HA2.out, hB⟩
   intro X hT
   iterate 8 rintro _ rfl
   have hx2 := HXj.out.below hT
   have gX2 := on_blk_mul hx2
   have hst2 := SP.on.setRow hx2 (q4 A2)
   have HX2 := hide hst2
   have HS2 := hide ((HSj.out.trans (Str.below hT)).setRow (w.heap.size + 1) (q4 A2))
   have hza : (q4 A).size = (q4 A2).size := by rw [q4_size, q4_size]
   have hone : (q4 A2).all (·.oneCell') = true := lvs_one _
   have HsR : Hid ((Tryz.prog.info? 131).map (·.size) = some (q4 A2).size) := hide (Hs.out _)
   clear hT hx2 hst2 HXj HSj GX lX HOj
   generalize hR4 : q4 A2 = R4 at *
   have HR4 := hide hR4
   clear hR4
   generalize q4 A = Q4 at *
   go_wp2
   refine Rest.done ?_
   go_wp2_with (refine wS gX2 HsR.out hza hone ?_)
   refine ⟨⟨j + 1, by omega, by simp, ?_, HS2.out⟩, by simp [intOf]; omega⟩
   rw [Hst.out, HR4.out]
   exact HX2.out
  obtain rfl : j = 8 := by omega
  rw [Hnext.out] at HXj
  go_wp2
  exact ⟨⟨k + 1, by omega, by simp, HXj.out, HSj.out⟩, by simp [intOf]; omega⟩
 obtain rfl : k = b.length := by omega
 rw [Nat.sub_self, List.drop_zero] at HXk
 have gA := on_blk_mul HXk.out
 have gR := on_blk_mul HXk.out.right
 have HB := hide (all_below HXk.out.right.right HSk.out)
 have hone : (q4 (leN b % O6)).all (·.oneCell') = true := lvs_one _
 have HsR : Hid ((Tryz.prog.info? 131).map (·.size) = some (q4 (leN b % O6)).size) := hide (Hs.out _)
 have hza : Z4.size = (q4 (leN b % O6)).size := by rw [← HZ.out, q4_size, q4_size]
 clear HXk
 generalize hR4 : q4 (leN b % O6) = R4 at *
 have HR4 := hide hR4
 clear hR4
 go_wp2_with (first
  | (refine wS gR HsR.out hza hone ?_)
  | (refine wL gA hu HsR ?_))
 exact retE Tryz.results90 gR hu HsR.out rfl (by rw [HR4.out]) HB.out (by omega)
end Go.Proofs.YtjdebgbiockafaaGreatDoor
