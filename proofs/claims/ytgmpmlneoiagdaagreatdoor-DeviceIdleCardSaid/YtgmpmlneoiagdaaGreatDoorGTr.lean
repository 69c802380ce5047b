/- LAID TOGETHER: Tr4, Tr5, Tr6. -/
import Derived.Test.YtgmpmlneoiagdaaGreatDoorTr3
import Derived.Test.YtgmpmlneoiagdaaGreatDoorGBase2
/- transfer: a keeper remembers. -/
namespace Go.Proofs.YtgmpmlneoiagdaaGreatDoor
open Go.ChangeShapes Go.WideShapes Go.ChangeAt Go.RowKit
set_option linter.unusedVariables false
set_option linter.unusedSimpArgs false

abbrev tupR (R : RecS) (er : Nat) (iv : Value) : Value := .tuple #[.agg (recCells R iv), .int .i64 (er : Nat)]
abbrev optB (b c : Bool) (v : Value) (R : RecS) (iv : Value) : SP := if b = true then Multi2.bv v (.cells (if c = true then recCells R iv else recCells zeroS nilV) 31 (0, 0)) else emp
/-- what lies there while a record is saved, in whatever order -/
def RemI (B0 B1 : SP) (R : RecS) (er : Nat) (w : World) (f6 f7 f8 f10 f11 : Bool) (v6 v7 v8 v10 : Value) (X : World) : Prop :=
  (if f6 = true then ∃ iv, v6 = tupR R er iv ∧ (optB f10 f11 v10 R iv * (ownR iv R.init * B1)).on X else (optB f10 false v10 R nilV * B0).on X) ∧ Str w X ∧
  (f6 = true → f7 = true → v7 = v6 ∧ ∃ iv, v6 = tupR R er iv) ∧ (f6 = true → f8 = true → ∃ iv, v6 = tupR R er iv ∧ v8 = .agg (recCells R iv)) ∧ (f7 = true → f6 = true) ∧ (f8 = true → f6 = true)
theorem RemI.stay {B0 B1 : SP} {R : RecS} {er : Nat} {w : World} {f6 f7 f8 f10 f11 : Bool} {v6 v7 v8 v10 : Value} {X Y : World} (h : RemI B0 B1 R er w f6 f7 f8 f10 f11 v6 v7 v8 v10 X) (k : Stay X Y) : RemI B0 B1 R er w f6 f7 f8 f10 f11 v6 v7 v8 v10 Y := by
  obtain ⟨h1, h2, h3⟩ := h
  refine ⟨?_, h2.trans (Str.below k), h3⟩
  split
  · rename_i hf
    rw [if_pos hf] at h1
    obtain ⟨iv, e, h1⟩ := h1
    exact ⟨iv, e, h1.below k⟩
  · rename_i hf
    rw [if_neg hf] at h1
    exact h1.below k
theorem RemI.start {B0 B1 : SP} {R : RecS} {er : Nat} {w X : World} (h : B0.on X) (s : Str w X) (v6 v7 v8 v10 : Value) : RemI B0 B1 R er w false false false false false v6 v7 v8 v10 X :=
  ⟨by rw [if_neg (by decide)]; exact on_emp_mul.2 h, s, fun h => (nomatch h), fun h => (nomatch h), fun h => (nomatch h), fun h => (nomatch h)⟩
theorem RemI.depend {B0 B1 : SP} {R : RecS} {er : Nat} {w : World} {f6 f7 f8 f10 f11 : Bool} {v6 v7 v8 v10 u6 u7 u8 u10 : Value} {X : World} (h : RemI B0 B1 R er w f6 f7 f8 f10 f11 v6 v7 v8 v10 X)
    (i6 : f6 = true → v6 = u6) (i7 : f7 = true → v7 = u7) (i8 : f8 = true → v8 = u8) (i10 : f10 = true → v10 = u10) : RemI B0 B1 R er w f6 f7 f8 f10 f11 u6 u7 u8 u10 X := by
  obtain ⟨h1, h2, h3, h4, h5, h6⟩ := h
  have e10 : ∀ c iv, optB f10 c v10 R iv = optB f10 c u10 R iv := by
    intro c iv
    cases f10 with
    | true => rw [i10 rfl]
    | false => rfl
  refine ⟨?_, h2, ?_, ?_, h5, h6⟩
  · split
    · rename_i hf
      rw [if_pos hf] at h1
      obtain ⟨iv, e, h1⟩ := h1
      exact ⟨iv, by rw [← i6 hf]; exact e, by rw [← e10]; exact h1⟩
    · rename_i hf
      rw [if_neg hf] at h1
      rw [← e10]; exact h1
  · intro a b
    rw [← i6 a, ← i7 b]; exact h3 a b
  · intro a b
    rw [← i6 a, ← i8 b]; exact h4 a b
theorem RemI.alloc {B0 B1 : SP} {R : RecS} {er : Nat} {w : World} {f6 f7 f8 : Bool} {v6 v7 v8 v10 : Value} {X : World} (h : RemI B0 B1 R er w f6 f7 f8 false false v6 v7 v8 v10 X) :
    RemI B0 B1 R er w f6 f7 f8 true false v6 v7 v8 (.pointer (some ⟨X.heap.size, 0, Option.none⟩)) (X.alloc (.cells (recCells zeroS nilV) 31)) := by
  obtain ⟨h1, h2, h3⟩ := h
  refine ⟨?_, h2.alloc _, h3⟩
  cases f6 with
  | true =>
    rw [if_pos rfl] at h1 ⊢
    obtain ⟨iv, e, h1⟩ := h1
    refine ⟨iv, e, ?_⟩
    have h9 := (on_emp_mul.1 h1).alloc (.cells (recCells zeroS nilV) 31)
    exact Multi2.blk_bv h9
  | false =>
    rw [if_neg (by decide)] at h1 ⊢
    have h9 := (on_emp_mul.1 h1).alloc (.cells (recCells zeroS nilV) 31)
    exact Multi2.blk_bv h9
theorem RemI.called {B0 B1 : SP} {R : RecS} {er : Nat} {w : World} {f10 : Bool} {v6 v7 v8 v10 iv : Value} {X Y : World} (h : RemI B0 B1 R er w false false false f10 false v6 v7 v8 v10 X) (hs : Str X Y)
    (hY : (ownR iv R.init * (optB f10 false v10 R nilV * B1)).on Y) : RemI B0 B1 R er w true false false f10 false (tupR R er iv) v7 v8 v10 Y := by
  obtain ⟨h1, h2, h3⟩ := h
  refine ⟨?_, h2.trans hs, fun _ h => (nomatch h), fun _ h => (nomatch h), fun h => (nomatch h), fun h => (nomatch h)⟩
  rw [if_pos rfl]
  refine ⟨iv, rfl, ?_⟩
  rw [SP.mul_left_comm] at hY
  exact hY
theorem RemI.stored {B0 B1 : SP} {R : RecS} {er : Nat} {w : World} {v6 v7 v8 v10 : Value} {X : World} (h : RemI B0 B1 R er w true true true true false v6 v7 v8 v10 X) :
    ∃ g iv, v10 = .pointer (some ⟨g, 0, Option.none⟩) ∧ v8 = .agg (recCells R iv) ∧ (∃ a n c, iv = .slice a n c) ∧ (blk g (.cells (recCells zeroS nilV) 31 (0, 0)) * (ownR iv R.init * B1)).on X ∧
      ∀ Y, Str X Y → (blk g (.cells (recCells R iv) 31 (0, 0)) * (ownR iv R.init * B1)).on Y → RemI B0 B1 R er w true true true true true v6 v7 v8 v10 Y := by
  have h1 := h.1
  rw [if_pos rfl] at h1
  obtain ⟨iv, e, h1⟩ := h1
  obtain ⟨iv2, e2, e3⟩ := h.2.2.2.1 rfl rfl
  obtain rfl : iv2 = iv := by
    rw [e] at e2
    simp only [tupR, recCells, Value.tuple.injEq, Array.mk.injEq, List.cons.injEq, Value.agg.injEq, and_true, true_and] at e2
    exact e2.symm
  obtain ⟨g, hg, h2⟩ := Multi2.bv_blk h1
  refine ⟨g, iv2, hg, e3, own_slice h2.right, h2, fun Y hs hY => ⟨?_, h.2.1.trans hs, h.2.2⟩⟩
  rw [if_pos rfl]
  refine ⟨iv2, e, ?_⟩
  rw [hg]
  exact Multi2.blk_bv hY
theorem wpList_store_part {P : Program} {ops : Array Oper} {rest : List Oper} {o : Oper} {a : Act} {w : World} {Q : Exit → Act → World → Prop} {F : SP} (hgd : o.guard = Option.none) (ty : TypeId) (x y : Operand) (ho : o.op = .store ty x y)
    (g off : Nat) (cells : List Value) (hx : a.eval x = .pointer (some ⟨g, off, Option.none⟩)) (hy : (a.eval y).cells = cells.toArray) (t : TypeId) (old : Array Value) (H : (blk g (.cells old t (0, 0)) * F).on w) (hi : (P.info? ty).map (·.size) = some cells.length)
    (hl : off + cells.length ≤ old.size) (h1 : ∀ v ∈ cells, v.oneCell' = true) (new : Array Value) (hn : old.toList.take off ++ cells ++ old.toList.drop (off + cells.length) = new.toList)
    (h : ∀ w', (blk g (.cells new t (0, 0)) * F).on w' → Str w w' → wpList P ops Q rest (a.put o.dst undef) w') : wpList P ops Q (o :: rest) a w :=
  wpList_plain hgd fun _ hK => by
    have hs := run_storeCells_at (P := P) g off t cells 0 old w (on_blk_mul H) (by simpa using hl) h1
    simp only [Nat.add_zero, hn, Array.toArray_toList] at hs
    have hv : (storeVar ty ⟨g, off, Option.none⟩ (a.eval y)).run P w = .ok () (w.setRow g new) := by
      cases hq : P.info? ty with
      | none => simp [hq] at hi
      | some i =>
        have hz : cells.length = i.size := by simp [hq] at hi; omega
        simp [storeVar, sizeOf, typeInfo, hq, hy, hz, hs]
    unfold Oper.wp execOp
    simp only [ho, hx, Instr.storeAt, Instr.sureAddr, Sem.run_bind, Sem.run_pure, Result.andThen_ok, hv]
    exact hK _ _ (h _ (H.setRow new) ((Str.refl w).setRow g new))
/-- what a keeper's record becomes -/
def RecS.put (R : RecS) (phase : UInt8) (done : Nat) (init : List UInt8) : RecS := { R with phase := phase, done := done, init := init }
end Go.Proofs.YtgmpmlneoiagdaaGreatDoor

/- transfer: Start. -/
namespace Go.Proofs.YtgmpmlneoiagdaaGreatDoor
open Go.ChangeShapes Go.WideShapes Go.ChangeAt Go.RowKit
set_option linter.unusedVariables false
set_option linter.unusedSimpArgs false

/-- a keeper remembers: the flash, its record, and the error -/
def kRem (s : FlS) (R : RecS) (phase : UInt8) (done : Nat) (init : List UInt8) : FlS × RecS × Nat :=
  ((s.save (R.put phase done init)).1, (if (s.save (R.put phase done init)).2.2 = 0 then (s.save (R.put phase done init)).2.1 else R), (s.save (R.put phase done init)).2.2)
theorem put_ok {R : RecS} (h : R.Ok) (phase : UInt8) (done : Nat) (hd : done < 4294967296) (init : List UInt8) (hi : init.length ≤ 1000000) : (R.put phase done init).Ok := ⟨h.seq, h.floor, h.bytes, h.sum, hd, hi⟩
/-- a transfer begins: the flash, the record, and the error -/
def kStart (s : FlS) (R : RecS) (init : List UInt8) : FlS × RecS × Nat :=
  if (kRem s R 0 0 []).2.2 ≠ 0 then kRem s R 0 0 []
  else if ((kRem s R 0 0 []).1.clr 18 0 16).2 ≠ 0 then (((kRem s R 0 0 []).1.clr 18 0 16).1, (kRem s R 0 0 []).2.1, ((kRem s R 0 0 []).1.clr 18 0 16).2)
  else kRem ((kRem s R 0 0 []).1.clr 18 0 16).1 (kRem s R 0 0 []).2.1 1 0 init
end Go.Proofs.YtgmpmlneoiagdaaGreatDoor

/- transfer: Put. -/
namespace Go.Proofs.YtgmpmlneoiagdaaGreatDoor
open Go.ChangeShapes Go.WideShapes Go.ChangeAt Go.RowKit
set_option linter.unusedVariables false
set_option linter.unusedSimpArgs false

/-- a piece is kept: the flash, the record, and the error -/
def kPut (s : FlS) (R : RecS) (b : List UInt8) : FlS × RecS × Nat :=
  if R.phase ≠ 1 then (s, R, 16)
  else if R.done % 256 ≠ 0 ∨ 4096 < R.done + b.length then (s, R, 12)
  else if (s.clr 18 (R.done / 256) ((R.done + b.length + 255) / 256 - R.done / 256)).2 ≠ 0 then ((s.clr 18 (R.done / 256) ((R.done + b.length + 255) / 256 - R.done / 256)).1, R, (s.clr 18 (R.done / 256) ((R.done + b.length + 255) / 256 - R.done / 256)).2)
  else if ((s.clr 18 (R.done / 256) ((R.done + b.length + 255) / 256 - R.done / 256)).1.prog (4608 + R.done) (padW b)).2 ≠ 0 then (((s.clr 18 (R.done / 256) ((R.done + b.length + 255) / 256 - R.done / 256)).1.prog (4608 + R.done) (padW b)).1, R, ((s.clr 18 (R.done / 256) ((R.done + b.length + 255) / 256 - R.done / 256)).1.prog (4608 + R.done) (padW b)).2)
  else kRem ((s.clr 18 (R.done / 256) ((R.done + b.length + 255) / 256 - R.done / 256)).1.prog (4608 + R.done) (padW b)).1 R 1 (R.done + b.length) R.init
theorem padW_len (b : List UInt8) : (padW b).length = b.length + (4 - b.length % 4) % 4 := by simp [padW]

end Go.Proofs.YtgmpmlneoiagdaaGreatDoor
