/- transfer: a keeper remembers. -/
import Derived.Test.YtjmgnfpcieofkaaGTr
import Derived.Test.YtjmgnfpcieofkaaGBase2
namespace Go.Proofs.Ytjmgnfpcieofkaa
open Go.ChangeShapes Go.WideShapes Go.ChangeAt Go.RowKit
set_option linter.unusedVariables false
set_option linter.unusedSimpArgs false

abbrev tupR (R : RecS) (er : Nat) (iv : Value) : Value := .tuple #[.agg (recCells R iv), .int .i64 (er : Nat)]
abbrev optB (b c : Bool) (v : Value) (R : RecS) (iv : Value) : SP := if b = true then Multi2.bv v (.cells (if c = true then recCells R iv else recCells zeroS nilV) 35 (0, 0)) else emp
/-- what lies there while a record is saved, in whatever order -/
def RemI (B0 B1 : SP) (R : RecS) (er : Nat) (w : World) (f6 f7 f8 f10 f11 : Bool) (v6 v7 v8 v10 : Value) (X : World) : Prop :=
  (if f6 = true then ∃ iv, v6 = tupR R er iv ∧ (optB f10 f11 v10 R iv * (ownR iv R.init * B1)).on X else (optB f10 false v10 R nilV * B0).on X) ∧ Str w X ∧
  (f6 = true → f7 = true → v7 = v6 ∧ ∃ iv, v6 = tupR R er iv) ∧ (f6 = true → f8 = true → ∃ iv, v6 = tupR R er iv ∧ v8 = .agg (recCells R iv)) ∧ (f7 = true → f6 = true) ∧ (f8 = true → f6 = true)
theorem RemI.stay {B0 B1 : SP} {R : RecS} {er : Nat} {w : World} {f6 f7 f8 f10 f11 : Bool} {v6 v7 v8 v10 : Value} {X Y : World} (h : RemI B0 B1 R er w f6 f7 f8 f10 f11 v6 v7 v8 v10 X) (k : Stay X Y) : RemI B0 B1 R er w f6 f7 f8 f10 f11 v6 v7 v8 v10 Y := by
  obtain ⟨h1, h2, h3⟩ := h
  refine ⟨?_, h2.trans (Str.below k), h3⟩
  split
  · rename_i hf
    rw [if_pos hf] at h1
    obtain ⟨iv, e, h1⟩ := h1
    exact ⟨iv, e, h1.below k⟩
  · rename_i hf
    rw [if_neg hf] at h1
    exact h1.below k
theorem RemI.start {B0 B1 : SP} {R : RecS} {er : Nat} {w X : World} (h : B0.on X) (s : Str w X) (v6 v7 v8 v10 : Value) : RemI B0 B1 R er w false false false false false v6 v7 v8 v10 X :=
  ⟨by rw [if_neg (by decide)]; exact on_emp_mul.2 h, s, fun h => (nomatch h), fun h => (nomatch h), fun h => (nomatch h), fun h => (nomatch h)⟩
theorem RemI.depend {B0 B1 : SP} {R : RecS} {er : Nat} {w : World} {f6 f7 f8 f10 f11 : Bool} {v6 v7 v8 v10 u6 u7 u8 u10 : Value} {X : World} (h : RemI B0 B1 R er w f6 f7 f8 f10 f11 v6 v7 v8 v10 X)
    (i6 : f6 = true → v6 = u6) (i7 : f7 = true → v7 = u7) (i8 : f8 = true → v8 = u8) (i10 : f10 = true → v10 = u10) : RemI B0 B1 R er w f6 f7 f8 f10 f11 u6 u7 u8 u10 X := by
  obtain ⟨h1, h2, h3, h4, h5, h6⟩ := h
  have e10 : ∀ c iv, optB f10 c v10 R iv = optB f10 c u10 R iv := by
    intro c iv
    cases f10 with
    | true => rw [i10 rfl]
    | false => rfl
  refine ⟨?_, h2, ?_, ?_, h5, h6⟩
  · split
    · rename_i hf
      rw [if_pos hf] at h1
      obtain ⟨iv, e, h1⟩ := h1
      exact ⟨iv, by rw [← i6 hf]; exact e, by rw [← e10]; exact h1⟩
    · rename_i hf
      rw [if_neg hf] at h1
      rw [← e10]; exact h1
  · intro a b
    rw [← i6 a, ← i7 b]; exact h3 a b
  · intro a b
    rw [← i6 a, ← i8 b]; exact h4 a b
theorem RemI.alloc {B0 B1 : SP} {R : RecS} {er : Nat} {w : World} {f6 f7 f8 : Bool} {v6 v7 v8 v10 : Value} {X : World} (h : RemI B0 B1 R er w f6 f7 f8 false false v6 v7 v8 v10 X) :
    RemI B0 B1 R er w f6 f7 f8 true false v6 v7 v8 (.pointer (some ⟨X.heap.size, 0, Option.none⟩)) (X.alloc (.cells (recCells zeroS nilV) 35)) := by
  obtain ⟨h1, h2, h3⟩ := h
  refine ⟨?_, h2.alloc _, h3⟩
  cases f6 with
  | true =>
    rw [if_pos rfl] at h1 ⊢
    obtain ⟨iv, e, h1⟩ := h1
    refine ⟨iv, e, ?_⟩
    have h9 := (on_emp_mul.1 h1).alloc (.cells (recCells zeroS nilV) 35)
    exact Multi2.blk_bv h9
  | false =>
    rw [if_neg (by decide)] at h1 ⊢
    have h9 := (on_emp_mul.1 h1).alloc (.cells (recCells zeroS nilV) 35)
    exact Multi2.blk_bv h9
theorem RemI.called {B0 B1 : SP} {R : RecS} {er : Nat} {w : World} {f10 : Bool} {v6 v7 v8 v10 iv : Value} {X Y : World} (h : RemI B0 B1 R er w false false false f10 false v6 v7 v8 v10 X) (hs : Str X Y)
    (hY : (ownR iv R.init * (optB f10 false v10 R nilV * B1)).on Y) : RemI B0 B1 R er w true false false f10 false (tupR R er iv) v7 v8 v10 Y := by
  obtain ⟨h1, h2, h3⟩ := h
  refine ⟨?_, h2.trans hs, fun _ h => (nomatch h), fun _ h => (nomatch h), fun h => (nomatch h), fun h => (nomatch h)⟩
  rw [if_pos rfl]
  refine ⟨iv, rfl, ?_⟩
  rw [SP.mul_left_comm] at hY
  exact hY
theorem RemI.tup {B0 B1 : SP} {R : RecS} {er : Nat} {w : World} {f7 f8 f10 f11 : Bool} {v6 v7 v8 v10 : Value} {X : World} (h : RemI B0 B1 R er w true f7 f8 f10 f11 v6 v7 v8 v10 X) : ∃ iv, v6 = tupR R er iv := by
  have h1 := h.1
  rw [if_pos rfl] at h1
  obtain ⟨iv, e, _⟩ := h1
  exact ⟨iv, e⟩
theorem RemI.moved {B0 B1 : SP} {R : RecS} {er : Nat} {w : World} {f8 f10 f11 : Bool} {v6 v7 v8 v10 : Value} {X : World} (h : RemI B0 B1 R er w true false f8 f10 f11 v6 v7 v8 v10 X) : RemI B0 B1 R er w true true f8 f10 f11 v6 v6 v8 v10 X :=
  ⟨h.1, h.2.1, fun _ _ => ⟨rfl, h.tup⟩, h.2.2.2.1, fun _ => rfl, h.2.2.2.2.2⟩
theorem RemI.picked {B0 B1 : SP} {R : RecS} {er : Nat} {w : World} {f6 f10 f11 : Bool} {v6 v7 v8 v10 : Value} {X : World} (h : RemI B0 B1 R er w f6 true false f10 f11 v6 v7 v8 v10 X) :
    ∃ iv, v7 = tupR R er iv ∧ RemI B0 B1 R er w f6 true true f10 f11 v6 v7 (.agg (recCells R iv)) v10 X := by
  have h6 := h.2.2.2.2.1 rfl
  obtain ⟨e, iv, e2⟩ := h.2.2.1 h6 rfl
  exact ⟨iv, by rw [e, e2], h.1, h.2.1, h.2.2.1, fun _ _ => ⟨iv, e2, rfl⟩, h.2.2.2.2.1, fun _ => h6⟩
theorem RemI.stored {B0 B1 : SP} {R : RecS} {er : Nat} {w : World} {v6 v7 v8 v10 : Value} {X : World} (h : RemI B0 B1 R er w true true true true false v6 v7 v8 v10 X) :
    ∃ g iv, v10 = .pointer (some ⟨g, 0, Option.none⟩) ∧ v8 = .agg (recCells R iv) ∧ (∃ a n c, iv = .slice a n c) ∧ (blk g (.cells (recCells zeroS nilV) 35 (0, 0)) * (ownR iv R.init * B1)).on X ∧
      ∀ Y, Str X Y → (blk g (.cells (recCells R iv) 35 (0, 0)) * (ownR iv R.init * B1)).on Y → RemI B0 B1 R er w true true true true true v6 v7 v8 v10 Y := by
  have h1 := h.1
  rw [if_pos rfl] at h1
  obtain ⟨iv, e, h1⟩ := h1
  obtain ⟨iv2, e2, e3⟩ := h.2.2.2.1 rfl rfl
  obtain rfl : iv2 = iv := by
    rw [e] at e2
    simp only [tupR, recCells, Value.tuple.injEq, Array.mk.injEq, List.cons.injEq, Value.agg.injEq, and_true, true_and] at e2
    exact e2.symm
  obtain ⟨g, hg, h2⟩ := Multi2.bv_blk h1
  refine ⟨g, iv2, hg, e3, own_slice h2.right, h2, fun Y hs hY => ⟨?_, h.2.1.trans hs, h.2.2⟩⟩
  rw [if_pos rfl]
  refine ⟨iv2, e, ?_⟩
  rw [hg]
  exact Multi2.blk_bv hY
theorem RemI.final {B0 B1 : SP} {R : RecS} {er : Nat} {w : World} {v6 v7 v8 v10 : Value} {X : World} (h : RemI B0 B1 R er w true true true true true v6 v7 v8 v10 X) :
    ∃ g iv, v10 = .pointer (some ⟨g, 0, Option.none⟩) ∧ (∃ a n c, iv = .slice a n c) ∧ (blk g (.cells (recCells R iv) 35 (0, 0)) * (ownR iv R.init * B1)).on X ∧ Str w X := by
  have h1 := h.1
  rw [if_pos rfl] at h1
  obtain ⟨iv, e, h1⟩ := h1
  obtain ⟨g, hg, h2⟩ := Multi2.bv_blk h1
  exact ⟨g, iv, hg, own_slice h2.right, h2, h.2.1⟩
theorem wpList_store_part {P : Program} {ops : Array Oper} {rest : List Oper} {o : Oper} {a : Act} {w : World} {Q : Exit → Act → World → Prop} {F : SP} (hgd : o.guard = Option.none) (ty : TypeId) (x y : Operand) (ho : o.op = .store ty x y)
    (g off : Nat) (cells : List Value) (hx : a.eval x = .pointer (some ⟨g, off, Option.none⟩)) (hy : (a.eval y).cells = cells.toArray) (t : TypeId) (old : Array Value) (H : (blk g (.cells old t (0, 0)) * F).on w) (hi : (P.info? ty).map (·.size) = some cells.length)
    (hl : off + cells.length ≤ old.size) (h1 : ∀ v ∈ cells, v.oneCell' = true) (new : Array Value) (hn : old.toList.take off ++ cells ++ old.toList.drop (off + cells.length) = new.toList)
    (h : ∀ w', (blk g (.cells new t (0, 0)) * F).on w' → Str w w' → wpList P ops Q rest (a.put o.dst undef) w') : wpList P ops Q (o :: rest) a w :=
  wpList_plain hgd fun _ hK => by
    have hs := run_storeCells_at (P := P) g off t cells 0 old w (on_blk_mul H) (by simpa using hl) h1
    simp only [Nat.add_zero, hn, Array.toArray_toList] at hs
    have hv : (storeVar ty ⟨g, off, Option.none⟩ (a.eval y)).run P w = .ok () (w.setRow g new) := by
      cases hq : P.info? ty with
      | none => simp [hq] at hi
      | some i =>
        have hz : cells.length = i.size := by simp [hq] at hi; omega
        simp [storeVar, sizeOf, typeInfo, hq, hy, hz, hs]
    unfold Oper.wp execOp
    simp only [ho, hx, Instr.storeAt, Instr.sureAddr, Sem.run_bind, Sem.run_pure, Result.andThen_ok, hv]
    exact hK _ _ (h _ (H.setRow new) ((Str.refl w).setRow g new))
/-- what a keeper's record becomes -/
def RecS.put (R : RecS) (phase : UInt8) (done : Nat) (init : List UInt8) : RecS := { R with phase := phase, done := done, init := init }
def KRem (q p : Nat) (R : RecS) (iv : Value) (X : FlS × RecS × Nat) (F : SP) (w : World) (e : Ending) (w' : World) : Prop :=
  e = .returned (.int .i64 (X.2.2 : Nat)) ∧ (∃ iv', (blk q (.cells (kpCells p (if X.2.2 = 0 then X.2.1 else R) iv') 115 (0, 0)) * (ownR iv' (if X.2.2 = 0 then X.2.1 else R).init * (Flash p X.1 * F))).on w') ∧ Str w w'

set_option maxRecDepth 100000 in
set_option maxHeartbeats 32000000 in
theorem remember_any (q p : Nat) (R : RecS) (iv : Value) (s : FlS) (F : SP) (n : Nat) (fit : s.Fit n) (hn : n ≤ 1099500000000) (hR : R.Ok) (phase : UInt8) (done : Nat) (hd : done < 4294967296) (vi : Value) (init : List UInt8) (hi : init.length ≤ 1000000)
    (hrd : ∀ W, (ownR iv R.init * F).on W → IsBytes W vi init) (w : World) (h : (blk q (.cells (kpCells p R iv) 115 (0, 0)) * (ownR iv R.init * (Flash p s * F))).on w) :
    Calls Try.prog 57 #[.pointer (some ⟨q, 0, Option.none⟩), vb phase, .int .i64 (done : Nat), vi] w (KRem q p R iv (s.save (R.put phase done init)) F w) := by
  have hur := Try.underlying35
  have huk := Try.underlying115
  have hub := Try.underlying113
  have hu32 := Try.underlying32
  have hui := Try.underlying3
  have hz := rc_hz
  obtain ⟨ai, ci, rfl, _, _, _, _⟩ := own_value h.right
  have hvi := hrd w (by have h9 := h.right; rw [SP.mul_left_comm] at h9; exact h9.right)
  obtain ⟨av, cv, rfl, _, _, _, _⟩ := hvi
  have h1 := h.alloc (.cells (recCells zeroS nilV) 35)
  have gN := on_blk_mul h1
  have h2 := h1.setRow (recCells R (.slice ai R.init.length ci))
  have H2 := hide h2
  have S2 := hide (((Str.refl w).alloc (.cells (recCells zeroS nilV) 35)).setRow w.heap.size (recCells R (.slice ai R.init.length ci)))
  have HsR := hide (rc_info R (.slice ai R.init.length ci))
  have HoR := hide (rc_one (s := R) (iv := .slice ai R.init.length ci) ⟨_, _, _, rfl⟩)
  have hpart := kp_part p R (.slice ai R.init.length ci) w q _ (on_blk_mul h)
  have hpart2 := kp_part p R (.slice ai R.init.length ci) (w.alloc (.cells (recCells zeroS nilV) 35)) q _ (on_blk_mul h1.right)
  have Hrd := hide hrd
  have Hfit := hide fit
  have HR := hide hR
  clear h h1 h2 hrd fit hR
  obtain ⟨r2, hr2⟩ : ∃ x : RecS, x = R.put phase done init := ⟨_, rfl⟩
  rw [← hr2]
  have Hr2 := hide hr2
  clear hr2
  obtain ⟨⟨s1, R1, er⟩, hsv⟩ : ∃ x, x = s.save r2 := ⟨_, rfl⟩
  rw [← hsv]
  have Hsv := hide hsv
  clear hsv
  have hstop : ∀ p : Prop, Hid p → p := fun _ h => h.out
  go_enter Try.func57, Try.ntmps57
  go_wp2_with (first
    | (refine wpList_load_part rfl _ _ rfl q 2 rfl (recCells R (.slice ai R.init.length ci)) _ hpart hur rfl HsR.out ?_)
    | (refine wpList_load_part rfl _ _ rfl q 2 rfl (recCells R (.slice ai R.init.length ci)) _ hpart2 hur rfl HsR.out ?_)
    | (refine wpList_store_row rfl _ _ _ rfl w.heap.size (recCells R (.slice ai R.init.length ci)) rfl rfl _ _ gN HsR.out rfl HoR.out ?_; refine hstop _ ?_))
  refine hide ?_
  clear hpart hpart2 gN
  generalize (w.alloc (.cells (recCells zeroS nilV) 35)).setRow w.heap.size (recCells R (.slice ai R.init.length ci)) = w2 at *
  generalize hgr : w.heap.size = gr at *
  have q4 := cell_of_row w2 gr 4 _ _ _ (on_blk_mul H2.out)
  have q5 := cell_of_row w2 gr 5 _ _ _ (on_blk_mul H2.out)
  have q6 := cell_of_row w2 gr 6 _ _ _ (on_blk_mul H2.out)
  have fr := fun j => frozen_of_row w2 gr j _ _ (on_blk_mul H2.out)
  have hlt := block_lt_of_cell q4
  have hd9 : (done : Int) % 4294967296 = (done : Int) := by omega
  have Hd9 := hide hd9
  clear hstop
  go_wp2_with fail
  have hso := hd9
  have h3 := ((H2.out.setCell (i := 4) (vb phase)).setCell (i := 5) (u32v done)).setCell (i := 6) (.slice av init.length cv)
  rw [show ((((recCells R (.slice ai R.init.length ci)).setIfInBounds 4 (vb phase)).setIfInBounds 5 (u32v done)).setIfInBounds 6 (.slice av init.length cv)) = recCells r2 (.slice av init.length cv) by rw [Hr2.out]; rfl] at h3
  have ok2 : r2.Ok := by rw [Hr2.out]; exact ⟨HR.out.seq, HR.out.floor, HR.out.bytes, HR.out.sum, hd, hi⟩
  have hin2 : r2.init = init := by rw [Hr2.out]; rfl
  have H3 := hide h3
  have S3 := hide (((S2.out.setCell ⟨gr, 4, Option.none⟩ (vb phase)).setCell ⟨gr, 5, Option.none⟩ (u32v done)).setCell ⟨gr, 6, Option.none⟩ (.slice av init.length cv))
  change Hid ((_ : SP).on (((w2.setCell ⟨gr, 4, Option.none⟩ (.int .u8 ((phase.toNat : Nat) : Int))).setCell ⟨gr, 5, Option.none⟩ (.int .u32 (done : Int))).setCell ⟨gr, 6, Option.none⟩ (.slice av init.length cv))) at H3
  change Hid (Str _ (((w2.setCell ⟨gr, 4, Option.none⟩ (.int .u8 ((phase.toNat : Nat) : Int))).setCell ⟨gr, 5, Option.none⟩ (.int .u32 (done : Int))).setCell ⟨gr, 6, Option.none⟩ (.slice av init.length cv))) at S3
  clear h3 q4 q5 q6 fr hlt H2 S2 hd9 Hd9 hso
  generalize ((w2.setCell ⟨gr, 4, Option.none⟩ (.int .u8 ((phase.toNat : Nat) : Int))).setCell ⟨gr, 5, Option.none⟩ (.int .u32 (done : Int))).setCell ⟨gr, 6, Option.none⟩ (.slice av init.length cv) = w3 at *
  have HsR2 := hide (rc_info r2 (.slice av init.length cv))
  have hS := fun F' (hF : ∀ W, F'.on W → IsBytes W (.slice av init.length cv) r2.init) X hX => save_any p s F' n Hfit.out hn r2 (.slice av init.length cv) ok2 hF X hX
  rw [← Hsv.out] at hS
  have HS := hide hS
  have Hin2 := hide hin2
  clear hS hin2 ok2 Hsv
  refine Multi2.wp_region_multi [6, 7, 8, 10, 11] [6, 7, 8, 10] [11] [isV (.pointer (some ⟨q, 0, Option.none⟩)), isV (.pointer (some ⟨q, 0, Option.none⟩)), isV (.pointer (some ⟨q, 0, Option.none⟩)), isV (.pointer (some ⟨q, 0, Option.none⟩)), isV (fptr p), isV (.agg (recCells r2 (.slice av init.length cv))), (fun _ _ => True), (fun _ _ => True), (fun _ _ => True), isV (.int .i64 (er : Nat)), (fun _ _ => True), (fun _ _ => True), isV (.int .i64 (er : Nat))]
    (by kernel_rfl) (by kernel_rfl) (by kernel_rfl) ⟨rfl, trivial⟩ (fun f sv X => RemI (blk gr (.cells (recCells r2 (.slice av init.length cv)) 35 (0, 0)) * (blk q (.cells (kpCells p R (.slice ai R.init.length ci)) 115 (0, 0)) * (ownR (.slice ai R.init.length ci) R.init * (Flash p s * F)))) (blk gr (.cells (recCells r2 (.slice av init.length cv)) 35 (0, 0)) * (blk q (.cells (kpCells p R (.slice ai R.init.length ci)) 115 (0, 0)) * (ownR (.slice ai R.init.length ci) R.init * (Flash p s1 * F)))) R1 er w (f 6) (f 7) (f 8) (f 10) (f 11) (sv 6) (sv 7) (sv 8) (sv 10) X) (fun _ => RemI.start (SP.on.drew H3.out) (Str.drew S3.out) _ _ _ _) (fun f s a b h st => RemI.stay h st) (fun f g s t X h h9 hI => by
      have e6 := h 6 rfl
      have e7 := h 7 rfl
      have e8 := h 8 rfl
      have e10 := h 10 rfl
      have e11 := h 11 rfl
      have i6 := h9 6 rfl
      have i7 := h9 7 rfl
      have i8 := h9 8 rfl
      have i10 := h9 10 rfl
      show RemI _ _ _ _ _ (g 6) (g 7) (g 8) (g 10) (g 11) (t 6) (t 7) (t 8) (t 10) X
      rw [← e6, ← e7, ← e8, ← e10, ← e11]
      exact RemI.depend hI i6 i7 i8 i10) ?keep ?todo ?rest (by decide) (by decide)
  case keep => exact ⟨Keep.isV _, Keep.isV _, Keep.isV _, Keep.isV _, Keep.isV _, Keep.isV _, fun _ _ _ h _ => h, fun _ _ _ h _ => h, fun _ _ _ h _ => h, Keep.isV _, fun _ _ _ h _ => h, fun _ _ _ h _ => h, Keep.isV _, trivial⟩
  case todo =>
    refine ⟨?_, ?_, ?_, ?_, ?_, ?_, ?_, ?_, ?_, ?_, ?_, ?_, ?_, trivial⟩
    · intro f hf0 hw hn ev X hT hb hk hf
      have e0 : ev (.tmp 0) = .pointer (some ⟨q, 0, Option.none⟩) := by have h9 := hk.1; rw [if_pos (by kernel_rfl)] at h9; exact h9
      exact OpOk.move rfl e0 (Multi2.ended_stay rfl rfl (Stay.refl _))
    · intro f hf0 hw hn ev X hT hb hk hf
      have e0 : ev (.tmp 24) = .pointer (some ⟨q, 0, Option.none⟩) := hf.1
      exact OpOk.run (v := .pointer (some ⟨q, 0, Option.none⟩)) (W' := X) (by simp [execOp, e0, hb.1, go_sem]) (Multi2.ended_stay rfl rfl (Stay.refl _))
    · intro f hf0 hw hn ev X hT hb hk hf
      have e0 : ev (.tmp 25) = .pointer (some ⟨q, 0, Option.none⟩) := hf.1
      exact OpOk.run (v := .pointer (some ⟨q, 0, Option.none⟩)) (W' := X) (by simp [execOp, e0, huk, go_sem]) (Multi2.ended_stay rfl rfl (Stay.refl _))
    · intro f hf0 hw hn ev X hT hb hk hf
      have e0 : ev (.tmp 26) = .pointer (some ⟨q, 0, Option.none⟩) := hf.1
      exact OpOk.run (v := .pointer (some ⟨q, 0, Option.none⟩)) (W' := X) (by simp [execOp, e0, hub, go_sem]) (Multi2.ended_stay rfl rfl (Stay.refl _))
    · intro f hf0 hw hn ev X hT hb hk hf
      have e0 : ev (.tmp 27) = .pointer (some ⟨q, 0, Option.none⟩) := hf.1
      have h6 := hn 6 (by kernel_rfl)
      have hI : RemI (blk gr (.cells (recCells r2 (.slice av init.length cv)) 35 (0, 0)) * (blk q (.cells (kpCells p R (.slice ai R.init.length ci)) 115 (0, 0)) * (ownR (.slice ai R.init.length ci) R.init * (Flash p s * F)))) (blk gr (.cells (recCells r2 (.slice av init.length cv)) 35 (0, 0)) * (blk q (.cells (kpCells p R (.slice ai R.init.length ci)) 115 (0, 0)) * (ownR (.slice ai R.init.length ci) R.init * (Flash p s1 * F)))) R1 er w (f 6) (f 7) (f 8) (f 10) (f 11) _ _ _ _ X := hT
      rw [h6] at hI
      have hX := hI.1
      rw [if_neg (by decide)] at hX
      have cW : X.cell? ⟨q, 0, Option.none⟩ = some (fptr p) := cell_of_row X q 0 _ _ _ (on_blk_mul hX.right.right)
      exact OpOk.run (v := fptr p) (W' := X) (by simp [execOp, e0, cW, go_sem]) (Multi2.ended_stay rfl rfl (Stay.refl _))
    · intro f hf0 hw hn ev X hT hb hk hf
      have e0 : ev (.tmp 9) = .pointer (some ⟨gr, 0, Option.none⟩) := by have h9 := hk.1; rw [if_pos (by kernel_rfl)] at h9; exact h9
      have h6 := hn 6 (by kernel_rfl)
      have hI : RemI (blk gr (.cells (recCells r2 (.slice av init.length cv)) 35 (0, 0)) * (blk q (.cells (kpCells p R (.slice ai R.init.length ci)) 115 (0, 0)) * (ownR (.slice ai R.init.length ci) R.init * (Flash p s * F)))) (blk gr (.cells (recCells r2 (.slice av init.length cv)) 35 (0, 0)) * (blk q (.cells (kpCells p R (.slice ai R.init.length ci)) 115 (0, 0)) * (ownR (.slice ai R.init.length ci) R.init * (Flash p s1 * F)))) R1 er w (f 6) (f 7) (f 8) (f 10) (f 11) _ _ _ _ X := hT
      rw [h6] at hI
      have hX := hI.1
      rw [if_neg (by decide)] at hX
      exact OpOk.load_row _ _ rfl _ e0 _ (recCells r2 (.slice av init.length cv)) (0, 0) _ (on_blk_mul hX.right) hur rfl HsR2.out (Multi2.ended_stay rfl rfl (Stay.refl _))
    · intro f hf0 hw hn ev X hT hb hk hf
      have e0 : ev (.tmp 28) = fptr p := hf.1
      have e1 : ev (.tmp 29) = .agg (recCells r2 (.slice av init.length cv)) := hf.2.1
      have h7 := hn 7 (by kernel_rfl)
      have h8 := hn 8 (by kernel_rfl)
      have h11 := hn 11 (by kernel_rfl)
      have hI : RemI (blk gr (.cells (recCells r2 (.slice av init.length cv)) 35 (0, 0)) * (blk q (.cells (kpCells p R (.slice ai R.init.length ci)) 115 (0, 0)) * (ownR (.slice ai R.init.length ci) R.init * (Flash p s * F)))) (blk gr (.cells (recCells r2 (.slice av init.length cv)) 35 (0, 0)) * (blk q (.cells (kpCells p R (.slice ai R.init.length ci)) 115 (0, 0)) * (ownR (.slice ai R.init.length ci) R.init * (Flash p s1 * F)))) R1 er w (f 6) (f 7) (f 8) (f 10) (f 11) _ _ _ _ X := hT
      rw [hf0, h7, h8, h11] at hI
      have hX := hI.1
      rw [if_neg (by decide)] at hX
      have hX2 := (show ∀ O G K I Fl F : SP, (O * (G * (K * (I * (Fl * F))))).on X → (Fl * (I * (F * (O * (G * K))))).on X from fun O G K I Fl F h => by
        rw [show Fl * (I * (F * (O * (G * K)))) = O * (G * (K * (I * (Fl * F)))) by ac_rfl]; exact h) _ _ _ _ _ _ hX
      refine OpOk.enters (f := 15) (args := #[fptr p, .agg (recCells r2 (.slice av init.length cv))]) (W' := X) (by simp [execOp, resolve, invoke, e0, e1, hb.1, hb.2.1, go_sem]) ((HS.out _ (fun W hW => by rw [Hin2.out]; exact Hrd.out W (by rw [← SP.mul_assoc] at hW; exact hW.left)) X hX2).mono ?_)
      rintro e Y ⟨iv2, rfl, h1, h2⟩
      have h9 := (show ∀ N O G K I Fl F : SP, (N * (Fl * (I * (F * (O * (G * K)))))).on Y → (N * (O * (G * (K * (I * (Fl * F)))))).on Y from fun N O G K I Fl F h => by
        rw [show N * (O * (G * (K * (I * (Fl * F))))) = N * (Fl * (I * (F * (O * (G * K))))) by ac_rfl]; exact h) _ _ _ _ _ _ _ h1
      exact ⟨_, rfl, (Multi2.ended_turn rfl trivial (by
        show RemI _ _ _ _ _ true (f 7) (f 8) (f 10) (f 11) _ _ _ _ _
        rw [h7, h8, h11]
        exact RemI.called hI h2 h9) (Multi2.free_keep (by
        intro P hP
        simp only [List.mem_cons, List.not_mem_nil, or_false] at hP
        rcases hP with rfl | rfl | rfl | rfl | rfl | rfl | rfl | rfl | rfl | rfl | rfl | rfl | rfl <;> exact fun _ _ _ h => h) _ _))⟩
    · intro f hf0 hw hn ev X hT hb hk hf
      have e0 := hf.1
      have h6 := hw 6 (by kernel_rfl)
      have hI : RemI (blk gr (.cells (recCells r2 (.slice av init.length cv)) 35 (0, 0)) * (blk q (.cells (kpCells p R (.slice ai R.init.length ci)) 115 (0, 0)) * (ownR (.slice ai R.init.length ci) R.init * (Flash p s * F)))) (blk gr (.cells (recCells r2 (.slice av init.length cv)) 35 (0, 0)) * (blk q (.cells (kpCells p R (.slice ai R.init.length ci)) 115 (0, 0)) * (ownR (.slice ai R.init.length ci) R.init * (Flash p s1 * F)))) R1 er w (f 6) (f 7) (f 8) (f 10) (f 11) _ _ _ _ X := hT
      rw [h6, hf0] at hI
      exact OpOk.move rfl rfl (Multi2.ended_turn rfl trivial (by
        show RemI _ _ _ _ _ (f 6) true (f 8) (f 10) (f 11) _ _ _ _ _
        rw [h6]
        exact hI.moved) (Multi2.free_keep (by
        intro P hP
        simp only [List.mem_cons, List.not_mem_nil, or_false] at hP
        rcases hP with rfl | rfl | rfl | rfl | rfl | rfl | rfl | rfl | rfl | rfl | rfl | rfl | rfl <;> exact fun _ _ _ h => h) _ _))
    · intro f hf0 hw hn ev X hT hb hk hf
      have e0 := hf.1
      have h7 := hw 7 (by kernel_rfl)
      have hI : RemI (blk gr (.cells (recCells r2 (.slice av init.length cv)) 35 (0, 0)) * (blk q (.cells (kpCells p R (.slice ai R.init.length ci)) 115 (0, 0)) * (ownR (.slice ai R.init.length ci) R.init * (Flash p s * F)))) (blk gr (.cells (recCells r2 (.slice av init.length cv)) 35 (0, 0)) * (blk q (.cells (kpCells p R (.slice ai R.init.length ci)) 115 (0, 0)) * (ownR (.slice ai R.init.length ci) R.init * (Flash p s1 * F)))) R1 er w (f 6) (f 7) (f 8) (f 10) (f 11) _ _ _ _ X := hT
      rw [h7, hf0] at hI
      obtain ⟨iv2, e7, hI2⟩ := hI.picked
      have e0 : ev (.tmp 23) = tupR R1 er iv2 := e7
      exact OpOk.run (v := .agg (recCells R1 iv2)) (W' := X) (by simp [execOp, e0, hb.1, go_sem]) (Multi2.ended_turn rfl trivial (by
        show RemI _ _ _ _ _ (f 6) (f 7) true (f 10) (f 11) _ _ _ _ _
        rw [h7]
        exact hI2) (Multi2.free_keep (by
        intro P hP
        simp only [List.mem_cons, List.not_mem_nil, or_false] at hP
        rcases hP with rfl | rfl | rfl | rfl | rfl | rfl | rfl | rfl | rfl | rfl | rfl | rfl | rfl <;> exact fun _ _ _ h => h) _ _))
    · intro f hf0 hw hn ev X hT hb hk hf
      have e0 := hf.1
      have h7 := hw 7 (by kernel_rfl)
      have hI : RemI (blk gr (.cells (recCells r2 (.slice av init.length cv)) 35 (0, 0)) * (blk q (.cells (kpCells p R (.slice ai R.init.length ci)) 115 (0, 0)) * (ownR (.slice ai R.init.length ci) R.init * (Flash p s * F)))) (blk gr (.cells (recCells r2 (.slice av init.length cv)) 35 (0, 0)) * (blk q (.cells (kpCells p R (.slice ai R.init.length ci)) 115 (0, 0)) * (ownR (.slice ai R.init.length ci) R.init * (Flash p s1 * F)))) R1 er w (f 6) (f 7) (f 8) (f 10) (f 11) _ _ _ _ X := hT
      rw [h7] at hI
      have h6 := hI.2.2.2.2.1 rfl
      obtain ⟨e67, iv2, e6⟩ := hI.2.2.1 h6 rfl
      have e0 : ev (.tmp 23) = tupR R1 er iv2 := e67.trans e6
      exact OpOk.run (v := .int .i64 (er : Nat)) (W' := X) (by simp [execOp, e0, hb.1, go_sem]) (Multi2.ended_stay rfl rfl (Stay.refl _))
    · intro f hf0 hw hn ev X hT hb hk hf
      have h11 := hn 11 (by kernel_rfl)
      have hI : RemI (blk gr (.cells (recCells r2 (.slice av init.length cv)) 35 (0, 0)) * (blk q (.cells (kpCells p R (.slice ai R.init.length ci)) 115 (0, 0)) * (ownR (.slice ai R.init.length ci) R.init * (Flash p s * F)))) (blk gr (.cells (recCells r2 (.slice av init.length cv)) 35 (0, 0)) * (blk q (.cells (kpCells p R (.slice ai R.init.length ci)) 115 (0, 0)) * (ownR (.slice ai R.init.length ci) R.init * (Flash p s1 * F)))) R1 er w (f 6) (f 7) (f 8) (f 10) (f 11) _ _ _ _ X := hT
      rw [hf0, h11] at hI
      exact OpOk.run (v := .pointer (some ⟨X.heap.size, 0, Option.none⟩)) (W' := X.alloc (.cells (recCells zeroS nilV) 35)) (by simp [execOp, hz, go_sem]) (Multi2.ended_turn rfl trivial (by
        show RemI _ _ _ _ _ (f 6) (f 7) (f 8) true (f 11) _ _ _ _ _
        rw [h11]
        exact hI.alloc) (Multi2.free_keep (by
        intro P hP
        simp only [List.mem_cons, List.not_mem_nil, or_false] at hP
        rcases hP with rfl | rfl | rfl | rfl | rfl | rfl | rfl | rfl | rfl | rfl | rfl | rfl | rfl <;> exact fun _ _ _ h => h) _ _))
    · intro f hf0 hw hn ev X hT hb hk hf
      have e0 := hf.1
      have e1 := hf.2.1
      have h6 := hw 6 (by kernel_rfl)
      have h7 := hw 7 (by kernel_rfl)
      have h8 := hw 8 (by kernel_rfl)
      have h10 := hw 10 (by kernel_rfl)
      have hI : RemI (blk gr (.cells (recCells r2 (.slice av init.length cv)) 35 (0, 0)) * (blk q (.cells (kpCells p R (.slice ai R.init.length ci)) 115 (0, 0)) * (ownR (.slice ai R.init.length ci) R.init * (Flash p s * F)))) (blk gr (.cells (recCells r2 (.slice av init.length cv)) 35 (0, 0)) * (blk q (.cells (kpCells p R (.slice ai R.init.length ci)) 115 (0, 0)) * (ownR (.slice ai R.init.length ci) R.init * (Flash p s1 * F)))) R1 er w (f 6) (f 7) (f 8) (f 10) (f 11) _ _ _ _ X := hT
      rw [h6, h7, h8, h10, hf0] at hI
      obtain ⟨g, iv2, e10, e8, hsl, hX, hput⟩ := hI.stored
      exact OpOk.store_agg _ _ _ rfl g (recCells R1 iv2) e10 e8 _ (recCells zeroS nilV) hX (rc_info _ _) rfl (rc_one hsl) (fun h3 => (Multi2.ended_turn rfl trivial (by
        show RemI _ _ _ _ _ (f 6) (f 7) (f 8) (f 10) true _ _ _ _ _
        rw [h6, h7, h8, h10]
        exact hput _ ((Str.refl _).setRow _ _) h3) (Multi2.free_keep (by
        intro P hP
        simp only [List.mem_cons, List.not_mem_nil, or_false] at hP
        rcases hP with rfl | rfl | rfl | rfl | rfl | rfl | rfl | rfl | rfl | rfl | rfl | rfl | rfl <;> exact fun _ _ _ h => h) _ _)))
    · intro f hf0 hw hn ev X hT hb hk hf
      have e0 : ev (.tmp 32) = .int .i64 (er : Nat) := hf.1
      exact OpOk.assign rfl e0 (Multi2.ended_stay rfl rfl (Stay.refl _))
  case rest =>
    intro X sv hI
    rintro _ ⟨-, -⟩ _ ⟨-, -⟩ _ ⟨-, -⟩ _ ⟨-, -⟩ _ ⟨-, -⟩ _ ⟨-, -⟩ v6 ⟨-, -⟩ v7 ⟨-, -⟩ v8 ⟨-, -⟩ _ ⟨-, rfl⟩ v10 ⟨k10, -⟩ _ - _ ⟨-, rfl⟩
    have hF : RemI (blk gr (.cells (recCells r2 (.slice av init.length cv)) 35 (0, 0)) * (blk q (.cells (kpCells p R (.slice ai R.init.length ci)) 115 (0, 0)) * (ownR (.slice ai R.init.length ci) R.init * (Flash p s * F)))) (blk gr (.cells (recCells r2 (.slice av init.length cv)) 35 (0, 0)) * (blk q (.cells (kpCells p R (.slice ai R.init.length ci)) 115 (0, 0)) * (ownR (.slice ai R.init.length ci) R.init * (Flash p s1 * F)))) R1 er w true true true true true (sv 6) (sv 7) (sv 8) (sv 10) X := hI
    obtain ⟨g, iv2, e10, hsl, hX, hSX⟩ := hF.final
    have k11 := k10 rfl
    obtain rfl : v10 = .pointer (some ⟨g, 0, Option.none⟩) := k11.trans e10
    have HX := hide hX
    have SX := hide hSX
    have Hsl := hide hsl
    obtain ⟨a2, n2, c2, rfl⟩ := hsl
    clear hI hF k10 k11 e10 hX hSX HS H3 S3
    try clear sv
    go_wp2
    refine Rest.done ?_
    by_cases h0 : er = 0
    · subst h0
      rw [show ((0 : Nat) : Int) = 0 from rfl]
      have gX := on_blk_mul HX.out
      have hq := (show ∀ G O A K I P : SP, (G * (O * (A * (K * (I * P))))).on X → (K * (O * P)).on X from fun G O A K I P h => by
        rw [show G * (O * (A * (K * (I * P)))) = G * (A * (I * (K * (O * P)))) by ac_rfl] at h
        exact h.right.right.right) _ _ _ _ _ _ HX.out
      have Hq := hide hq
      have HsR3 := hide (rc_info R1 (.slice a2 n2 c2))
      have HiR3 : Hid ((Try.prog.info? 35).map (·.size) = some (recCells R1 (.slice a2 n2 c2)).toList.length) := hide (rc_info R1 (.slice a2 n2 c2))
      have HoR3 : Hid (∀ v ∈ (recCells R1 (.slice a2 n2 c2)).toList, v.oneCell' = true) := hide (fun v hv => by
        have h9 := rc_one (s := R1) Hsl.out
        exact (Array.all_eq_true_iff_forall_mem.1 h9) v (by simpa using hv))
      have HnK : Hid ((kpCells p R (.slice ai R.init.length ci)).toList.take 2 ++ (recCells R1 (.slice a2 n2 c2)).toList ++ (kpCells p R (.slice ai R.init.length ci)).toList.drop (2 + (recCells R1 (.slice a2 n2 c2)).toList.length) = (kpCells p R1 (.slice a2 n2 c2)).toList) := hide rfl
      clear hq
      go_wp2_with (first
        | (refine wpList_load_row rfl _ _ rfl g rfl _ (recCells R1 (.slice a2 n2 c2)) _ _ gX hur rfl HsR3.out ?_)
        | (refine wpList_store_part rfl _ _ _ rfl q 2 (recCells R1 (.slice a2 n2 c2)).toList rfl rfl _ (kpCells p R (.slice ai R.init.length ci)) Hq.out HiR3.out (by show 2 + 7 ≤ 9; decide) HoR3.out (kpCells p R1 (.slice a2 n2 c2)) HnK.out ?_; intro Y hY hsY; have HY := hide hY; have SY := hide (SX.out.trans hsY); clear hY hsY gX))
      go_ret
      refine ⟨rfl, ⟨.slice a2 n2 c2, ?_⟩, SY.out⟩
      rw [if_pos rfl]
      exact HY.out
    · have e1 : (((er : Nat) : Int) != 0) = true := by simp only [bne_iff_ne, ne_eq]; omega
      have h00 := hide h0
      clear h0
      go_wp2_with fail
      go_ret
      refine ⟨rfl, ⟨.slice ai R.init.length ci, ?_⟩, SX.out⟩
      rw [if_neg h00.out]
      exact (show ∀ G O A K I P : SP, (G * (O * (A * (K * (I * P))))).on X → (K * (I * P)).on X from fun G O A K I P h => by
        rw [show G * (O * (A * (K * (I * P)))) = G * (O * (A * (K * (I * P)))) from rfl] at h
        exact h.right.right.right) _ _ _ _ _ _ HX.out
end Go.Proofs.Ytjmgnfpcieofkaa
