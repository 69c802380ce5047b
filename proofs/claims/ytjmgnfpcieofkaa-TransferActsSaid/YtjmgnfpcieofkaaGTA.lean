/- LAID TOGETHER: TA1, TA2, TA3. -/
import Derived.Test.YtjmgnfpcieofkaaGRSet
import Derived.Test.YtjmgnfpcieofkaaGRfl
import Derived.Test.YtjmgnfpcieofkaaTr6
import Derived.Test.YtjmgnfpcieofkaaGBase2
import Derived.Test.YtjmgnfpcieofkaaRowsOpen
import Derived.Test.YtjmgnfpcieofkaaGKeep
/- The law TransferActs: the document's Model: what is remembered, and pages that are cleared. -/
namespace Go.Proofs.Ytjmgnfpcieofkaa
open Go.ChangeShapes Go.WideShapes Go.ChangeAt Go.RowKit
set_option linter.unusedVariables false
set_option linter.unusedSimpArgs false

def mdCells (q : Nat) (s : RecS) (iv : Value) : Array Value := #[fptr q, u32v s.seq, u32v s.floor, u32v s.bytes, u32v s.sum, u32v s.done, vb s.phase, iv]
theorem md_part (q : Nat) (s : RecS) (iv : Value) (X : World) (g : Nat) (t : TypeId) (hX : X.heap[g]? = some (.cells (mdCells q s iv) t (0, 0))) : ∀ j v, (refCells s iv)[j]? = some v → X.cell? ⟨g, 1 + j, Option.none⟩ = some v := by
  intro j v hv
  rw [cell_of_row _ _ _ _ _ _ hX]
  unfold mdCells
  match j, hv with
  | 0, hv => exact hv
  | 1, hv => exact hv
  | 2, hv => exact hv
  | 3, hv => exact hv
  | 4, hv => exact hv
  | 5, hv => exact hv
  | 6, hv => exact hv
  | n + 7, hv => simp at hv
/-- the document's Model in memory -/
def Md (g q : Nat) (s : RecS) : SP := ex fun iv : Value => blk g (.cells (mdCells q s iv) 62 (0, 0)) * ownR iv s.init
theorem Md.open {g q : Nat} {s : RecS} {F : SP} {w : World} (h : (Md g q s * F).on w) : ∃ iv, (blk g (.cells (mdCells q s iv) 62 (0, 0)) * (ownR iv s.init * F)).on w := by
  obtain ⟨iv, h⟩ := on_ex_mul.1 h
  exact ⟨iv, by rw [← SP.mul_assoc]; exact h⟩
theorem Md.shut {g q : Nat} {s : RecS} {F : SP} {w : World} {iv : Value} (h : (blk g (.cells (mdCells q s iv) 62 (0, 0)) * (ownR iv s.init * F)).on w) : (Md g q s * F).on w :=
  on_ex_mul.2 ⟨iv, by rw [SP.mul_assoc]; exact h⟩
theorem save_init {s : FlS} {r : RecS} (h : (s.save r).2.2 = 0) : (s.save r).2.1.init = r.init := by
  revert h
  unfold FlS.save
  split
  · intro h
    rename_i h1
    exact absurd h h1.1
  · split
    · intro h; cases h
    · split
      · intro h; cases h
      · split
        · rename_i h1
          intro h
          exact absurd h h1
        · intro _; rfl
theorem save_done_le {s : FlS} {r : RecS} (h : (s.save r).2.2 = 0) : (s.save r).2.1.done = r.done := by
  revert h
  unfold FlS.save
  split
  · intro h
    rename_i h1
    exact absurd h h1.1
  · split
    · intro h; cases h
    · split
      · intro h; cases h
      · split
        · rename_i h1
          intro h
          exact absurd h h1
        · intro _; rfl
/-- what lies there while the document saves a record, in whatever order -/
def MRI (r q : Nat) (r2 R1 : RecS) (vi v1 : Value) (s s1 : FlS) (G : SP) (w : World) (f5 f9 : Bool) (X : World) : Prop :=
  (blk r (.cells (if f9 = true then refCells R1 v1 else refCells r2 vi) 60 (0, 0)) * ((if f5 = true then RFlash q s1 else RFlash q s) * G)).on X ∧ Str w X
theorem MRI.stay {r q : Nat} {r2 R1 : RecS} {vi v1 : Value} {s s1 : FlS} {G : SP} {w : World} {f5 f9 : Bool} {X Y : World} (h : MRI r q r2 R1 vi v1 s s1 G w f5 f9 X) (k : Stay X Y) : MRI r q r2 R1 vi v1 s s1 G w f5 f9 Y := ⟨h.1.below k, h.2.trans (Str.below k)⟩
def MRem (g q : Nat) (R : RecS) (X : FlS × RecS × Nat) (iv vi : Value) (F : SP) (w : World) (e : Ending) (w' : World) : Prop :=
  e = .returned (.int .i64 (X.2.2 : Nat)) ∧ (blk g (.cells (mdCells q (if X.2.2 = 0 then X.2.1 else R) (if X.2.2 = 0 then vi else iv)) 62 (0, 0)) * (RFlash q X.1 * F)).on w' ∧ Str w w'

set_option maxRecDepth 100000 in
set_option maxHeartbeats 32000000 in
theorem mremember_any (g q : Nat) (R : RecS) (iv : Value) (s : FlS) (F : SP) (n : Nat) (fit : s.Fit n) (hn : n ≤ 1099500000000) (hR : R.Ok) (phase : UInt8) (done : Nat) (hd : done < 4294967296) (vi : Value) (init : List UInt8) (hi : init.length ≤ 1000000)
    (hrd : ∀ W, F.on W → IsBytes W vi init) (hiv : ∃ a n c, iv = .slice a n c) (w : World) (h : (blk g (.cells (mdCells q R iv) 62 (0, 0)) * (RFlash q s * F)).on w) :
    Calls Try.prog 59 #[.pointer (some ⟨g, 0, Option.none⟩), vb phase, u32v done, vi] w (MRem g q R (s.save (R.put phase done init)) iv vi F w) := by
  have hur := Try.underlying60
  have hum := Try.underlying62
  have hu32 := Try.underlying32
  have hz := rr_hz
  obtain ⟨ia, inn, ic, rfl⟩ := hiv
  obtain ⟨av, cv, rfl, _, _, _, _⟩ := hrd w h.right.right
  have h1 := h.alloc (.cells (refCells zeroS nilV) 60)
  have gN := on_blk_mul h1
  have h2 := h1.setRow (refCells R (.slice ia inn ic))
  have H2 := hide h2
  have S2 := hide (((Str.refl w).alloc (.cells (refCells zeroS nilV) 60)).setRow w.heap.size (refCells R (.slice ia inn ic)))
  have HsR := hide (rr_info R (.slice ia inn ic))
  have HoR := hide (rr_one (s := R) (iv := .slice ia inn ic) ⟨_, _, _, rfl⟩)
  have hpart := md_part q R (.slice ia inn ic) w g _ (on_blk_mul h)
  have hpart2 := md_part q R (.slice ia inn ic) (w.alloc (.cells (refCells zeroS nilV) 60)) g _ (on_blk_mul h1.right)
  have Hrd := hide hrd
  have Hfit := hide fit
  have HR := hide hR
  clear h h1 h2 hrd fit hR
  obtain ⟨r2, hr2⟩ : ∃ x : RecS, x = R.put phase done init := ⟨_, rfl⟩
  rw [← hr2]
  have Hr2 := hide hr2
  clear hr2
  obtain ⟨⟨s1, R1, er⟩, hsv⟩ : ∃ x, x = s.save r2 := ⟨_, rfl⟩
  rw [← hsv]
  have Hsv := hide hsv
  clear hsv
  have hstop : ∀ p : Prop, Hid p → p := fun _ h => h.out
  go_enter Try.func59, Try.ntmps59
  go_wp2_with (first
    | (refine wpList_load_part rfl _ _ rfl g 1 rfl (refCells R (.slice ia inn ic)) _ hpart hur rfl HsR.out ?_)
    | (refine wpList_load_part rfl _ _ rfl g 1 rfl (refCells R (.slice ia inn ic)) _ hpart2 hur rfl HsR.out ?_)
    | (refine wpList_store_row rfl _ _ _ rfl w.heap.size (refCells R (.slice ia inn ic)) rfl rfl _ _ gN HsR.out rfl HoR.out ?_; refine hstop _ ?_))
  refine hide ?_
  clear hpart hpart2 gN
  generalize (w.alloc (.cells (refCells zeroS nilV) 60)).setRow w.heap.size (refCells R (.slice ia inn ic)) = w2 at *
  have q4 := cell_of_row w2 w.heap.size 4 _ _ _ (on_blk_mul H2.out)
  have q5 := cell_of_row w2 w.heap.size 5 _ _ _ (on_blk_mul H2.out)
  have q6 := cell_of_row w2 w.heap.size 6 _ _ _ (on_blk_mul H2.out)
  have fr := fun j => frozen_of_row w2 w.heap.size j _ _ (on_blk_mul H2.out)
  have hlt := block_lt_of_cell q4
  clear hstop
  go_wp2_with fail
  have h3 := ((H2.out.setCell (i := 5) (vb phase)).setCell (i := 4) (u32v done)).setCell (i := 6) (.slice av init.length cv)
  rw [show ((((refCells R (.slice ia inn ic)).setIfInBounds 5 (vb phase)).setIfInBounds 4 (u32v done)).setIfInBounds 6 (.slice av init.length cv)) = refCells r2 (.slice av init.length cv) by rw [Hr2.out]; rfl] at h3
  have ok2 : r2.Ok := by rw [Hr2.out]; exact ⟨HR.out.seq, HR.out.floor, HR.out.bytes, HR.out.sum, hd, hi⟩
  have hin2 : r2.init = init := by rw [Hr2.out]; rfl
  have H3 := hide h3
  have S3 := hide (((S2.out.setCell ⟨w.heap.size, 5, Option.none⟩ (vb phase)).setCell ⟨w.heap.size, 4, Option.none⟩ (u32v done)).setCell ⟨w.heap.size, 6, Option.none⟩ (.slice av init.length cv))
  change Hid ((_ : SP).on (((w2.setCell ⟨w.heap.size, 5, Option.none⟩ (.int .u8 ((phase.toNat : Nat) : Int))).setCell ⟨w.heap.size, 4, Option.none⟩ (.int .u32 (done : Int))).setCell ⟨w.heap.size, 6, Option.none⟩ (.slice av init.length cv))) at H3
  change Hid (Str _ (((w2.setCell ⟨w.heap.size, 5, Option.none⟩ (.int .u8 ((phase.toNat : Nat) : Int))).setCell ⟨w.heap.size, 4, Option.none⟩ (.int .u32 (done : Int))).setCell ⟨w.heap.size, 6, Option.none⟩ (.slice av init.length cv))) at S3
  clear h3 q4 q5 q6 fr hlt H2 S2
  generalize ((w2.setCell ⟨w.heap.size, 5, Option.none⟩ (.int .u8 ((phase.toNat : Nat) : Int))).setCell ⟨w.heap.size, 4, Option.none⟩ (.int .u32 (done : Int))).setCell ⟨w.heap.size, 6, Option.none⟩ (.slice av init.length cv) = w3 at *
  have Hsl : Hid (∃ a n c, Value.slice av init.length cv = Value.slice a n c) := hide ⟨_, _, _, rfl⟩
  generalize Value.slice av init.length cv = vi at *
  generalize Value.slice ia inn ic = iv at *
  have HsR2 := hide (rr_info r2 vi)
  have hS := fun F' (hF : ∀ W, F'.on W → IsBytes W vi r2.init) X hX => rsave_iv q s F' n Hfit.out hn r2 vi ok2 hF X hX
  rw [← Hsv.out] at hS
  have HS := hide hS
  have Hin2 := hide hin2
  clear hS hin2 ok2 Hsv
  obtain ⟨v1, hv1⟩ : ∃ x, x = (if er = 0 then vi else nilV) := ⟨_, rfl⟩
  have Hv1 := hide hv1
  have Hsl1 : Hid (∃ a n c, v1 = Value.slice a n c) := hide (by rw [hv1]; split; exact Hsl.out; exact ⟨_, _, _, rfl⟩)
  clear hv1
  have HoR1 := hide (rr_one (s := R1) (iv := v1) Hsl1.out)
  refine Multi2.wp_region_multi [5, 9] [] [9] [isV (.pointer (some ⟨g, 0, Option.none⟩)), isV (.pointer (some ⟨g, 0, Option.none⟩)), isV (.pointer (some ⟨g, 0, Option.none⟩)), isV (fptr q), isV (.agg (refCells r2 vi)), isV (.tuple #[.agg (refCells R1 v1), .int .i64 (er : Nat)]), isV (.tuple #[.agg (refCells R1 v1), .int .i64 (er : Nat)]), isV (.agg (refCells R1 v1)), isV (.int .i64 (er : Nat)), (fun _ _ => True), isV (.int .i64 (er : Nat))]
    (by kernel_rfl) (by kernel_rfl) (by kernel_rfl) ⟨rfl, trivial⟩ (fun f sv X => MRI w.heap.size q r2 R1 vi v1 s s1 (blk g (.cells (mdCells q R iv) 62 (0, 0)) * F) w (f 5) (f 9) X) (fun _ => ⟨SP.on.drew (show (blk w.heap.size (.cells (refCells r2 vi) 60 (0, 0)) * (RFlash q s * (blk g (.cells (mdCells q R iv) 62 (0, 0)) * F))).on w3 from by rw [SP.mul_left_comm (RFlash q s)]; exact H3.out), Str.drew S3.out⟩) (fun f s a b h st => MRI.stay h st) (fun f g s2 t X h h9 hI => by
      have e5 := h 5 rfl
      have e9 := h 9 rfl
      show MRI _ _ _ _ _ _ _ _ _ _ (g 5) (g 9) X
      rw [← e5, ← e9]
      exact hI) ?keep ?todo ?rest (by decide) (by decide)
  case keep => exact ⟨Keep.isV _, Keep.isV _, Keep.isV _, Keep.isV _, Keep.isV _, Keep.isV _, Keep.isV _, Keep.isV _, Keep.isV _, fun _ _ _ h _ => h, Keep.isV _, trivial⟩
  case todo =>
    refine ⟨?_, ?_, ?_, ?_, ?_, ?_, ?_, ?_, ?_, ?_, ?_, trivial⟩
    · intro f hf0 hw hn ev X hT hb hk hf
      have e0 : ev (.tmp 0) = .pointer (some ⟨g, 0, Option.none⟩) := by have h9 := hk.1; rw [if_pos (by kernel_rfl)] at h9; exact h9
      exact OpOk.move rfl e0 (Multi2.ended_stay rfl rfl (Stay.refl _))
    · intro f hf0 hw hn ev X hT hb hk hf
      have e0 : ev (.tmp 22) = .pointer (some ⟨g, 0, Option.none⟩) := hf.1
      exact OpOk.run (v := .pointer (some ⟨g, 0, Option.none⟩)) (W' := X) (by simp [execOp, e0, hb.1, go_sem]) (Multi2.ended_stay rfl rfl (Stay.refl _))
    · intro f hf0 hw hn ev X hT hb hk hf
      have e0 : ev (.tmp 23) = .pointer (some ⟨g, 0, Option.none⟩) := hf.1
      exact OpOk.run (v := .pointer (some ⟨g, 0, Option.none⟩)) (W' := X) (by simp [execOp, e0, hum, go_sem]) (Multi2.ended_stay rfl rfl (Stay.refl _))
    · intro f hf0 hw hn ev X hT hb hk hf
      have e0 : ev (.tmp 24) = .pointer (some ⟨g, 0, Option.none⟩) := hf.1
      have hI : MRI w.heap.size q r2 R1 vi v1 s s1 (blk g (.cells (mdCells q R iv) 62 (0, 0)) * F) w (f 5) (f 9) X := hT
      have cW : X.cell? ⟨g, 0, Option.none⟩ = some (fptr q) := cell_of_row X g 0 _ _ _ (on_blk_mul hI.1.right.right)
      exact OpOk.run (v := fptr q) (W' := X) (by simp [execOp, e0, cW, go_sem]) (Multi2.ended_stay rfl rfl (Stay.refl _))
    · intro f hf0 hw hn ev X hT hb hk hf
      have e0 : ev (.tmp 9) = .pointer (some ⟨w.heap.size, 0, Option.none⟩) := by have h9 := hk.1; rw [if_pos (by kernel_rfl)] at h9; exact h9
      have h9 := hn 9 (by kernel_rfl)
      have hI : MRI w.heap.size q r2 R1 vi v1 s s1 (blk g (.cells (mdCells q R iv) 62 (0, 0)) * F) w (f 5) (f 9) X := hT
      rw [h9] at hI
      exact OpOk.load_row _ _ rfl _ e0 _ (refCells r2 vi) (0, 0) _ (on_blk_mul hI.1) hur rfl HsR2.out (Multi2.ended_stay rfl rfl (Stay.refl _))
    · intro f hf0 hw hn ev X hT hb hk hf
      have e0 : ev (.tmp 25) = fptr q := hf.1
      have e1 : ev (.tmp 26) = .agg (refCells r2 vi) := hf.2.1
      have h9 := hn 9 (by kernel_rfl)
      have hI : MRI w.heap.size q r2 R1 vi v1 s s1 (blk g (.cells (mdCells q R iv) 62 (0, 0)) * F) w (f 5) (f 9) X := hT
      rw [hf0, h9] at hI
      have hX := hI.1
      rw [if_neg (by decide), if_neg (by decide), SP.mul_left_comm] at hX
      refine OpOk.enters (f := 45) (args := #[fptr q, .agg (refCells r2 vi)]) (W' := X) (by simp [execOp, resolve, invoke, e0, e1, hb.1, hb.2.1, go_sem]) ((HS.out _ (fun W hW => by rw [Hin2.out]; exact Hrd.out W hW.right.right) X hX).mono ?_)
      rintro e Y ⟨iv2, rfl, rfl, h0, h1, h2⟩
      refine ⟨_, rfl, (Multi2.ended_turn rfl (by rw [Hv1.out]; rfl) (by
        show MRI _ _ _ _ _ _ _ _ _ _ true (f 9) _
        rw [h9]
        refine ⟨?_, hI.2.trans h2⟩
        rw [if_neg (by decide), if_pos rfl, SP.mul_left_comm]
        exact h1) (Multi2.free_keep (by
      intro P hP
      simp only [List.mem_cons, List.not_mem_nil, or_false] at hP
      rcases hP with rfl | rfl | rfl | rfl | rfl | rfl | rfl | rfl | rfl | rfl | rfl <;> exact fun _ _ _ h => h) _ _))⟩
    · intro f hf0 hw hn ev X hT hb hk hf
      have e0 : ev (.tmp 27) = .tuple #[.agg (refCells R1 v1), .int .i64 (er : Nat)] := hf.1
      exact OpOk.move rfl e0 (Multi2.ended_stay rfl rfl (Stay.refl _))
    · intro f hf0 hw hn ev X hT hb hk hf
      have e0 : ev (.tmp 21) = .tuple #[.agg (refCells R1 v1), .int .i64 (er : Nat)] := hf.1
      exact OpOk.run (v := .agg (refCells R1 v1)) (W' := X) (by simp [execOp, e0, hb.1, go_sem]) (Multi2.ended_stay rfl rfl (Stay.refl _))
    · intro f hf0 hw hn ev X hT hb hk hf
      have e0 : ev (.tmp 21) = .tuple #[.agg (refCells R1 v1), .int .i64 (er : Nat)] := hf.1
      exact OpOk.run (v := .int .i64 (er : Nat)) (W' := X) (by simp [execOp, e0, hb.1, go_sem]) (Multi2.ended_stay rfl rfl (Stay.refl _))
    · intro f hf0 hw hn ev X hT hb hk hf
      have e0 : ev (.tmp 28) = .agg (refCells R1 v1) := hf.1
      have e1 : ev (.tmp 9) = .pointer (some ⟨w.heap.size, 0, Option.none⟩) := by have h9 := hk.1; rw [if_pos (by kernel_rfl)] at h9; exact h9
      have hI : MRI w.heap.size q r2 R1 vi v1 s s1 (blk g (.cells (mdCells q R iv) 62 (0, 0)) * F) w (f 5) (f 9) X := hT
      rw [hf0] at hI
      exact OpOk.store_agg _ _ _ rfl w.heap.size (refCells R1 v1) e1 e0 _ (refCells r2 vi) hI.1 (rr_info _ _) rfl HoR1.out (fun h3 => (Multi2.ended_turn rfl trivial (by
        show MRI _ _ _ _ _ _ _ _ _ _ (f 5) true _
        exact ⟨h3, hI.2.setRow _ _⟩) (Multi2.free_keep (by
      intro P hP
      simp only [List.mem_cons, List.not_mem_nil, or_false] at hP
      rcases hP with rfl | rfl | rfl | rfl | rfl | rfl | rfl | rfl | rfl | rfl | rfl <;> exact fun _ _ _ h => h) _ _)))
    · intro f hf0 hw hn ev X hT hb hk hf
      have e0 : ev (.tmp 29) = .int .i64 (er : Nat) := hf.1
      exact OpOk.assign rfl e0 (Multi2.ended_stay rfl rfl (Stay.refl _))
  case rest =>
    intro X sv hI
    rintro _ ⟨-, rfl⟩ _ ⟨-, rfl⟩ _ ⟨-, rfl⟩ _ ⟨-, rfl⟩ _ ⟨-, rfl⟩ _ ⟨-, rfl⟩ _ ⟨-, rfl⟩ _ ⟨-, rfl⟩ _ ⟨-, rfl⟩ _ - _ ⟨-, rfl⟩
    have hF : MRI w.heap.size q r2 R1 vi v1 s s1 (blk g (.cells (mdCells q R iv) 62 (0, 0)) * F) w true true X := hI
    obtain ⟨hX, hSX⟩ := hF
    rw [if_pos rfl, if_pos rfl] at hX
    have HX := hide hX
    have SX := hide hSX
    clear hI hX hSX HS H3 S3
    try clear sv
    go_wp2
    refine Rest.done ?_
    by_cases h0 : er = 0
    · subst h0
      rw [show ((0 : Nat) : Int) = 0 from rfl]
      have gX := on_blk_mul HX.out
      have Hq := hide (show (blk g (.cells (mdCells q R iv) 62 (0, 0)) * (RFlash q s1 * F)).on X from by
        have h9 := HX.out.right
        rw [SP.mul_left_comm] at h9
        exact h9)
      obtain rfl : v1 = vi := Hv1.out
      have HsR3 := hide (rr_info R1 v1)
      have HiR3 : Hid ((Try.prog.info? 60).map (·.size) = some (refCells R1 v1).toList.length) := hide (rr_info R1 v1)
      have HoR3 : Hid (∀ v ∈ (refCells R1 v1).toList, v.oneCell' = true) := hide (fun v hv => by
        exact (Array.all_eq_true_iff_forall_mem.1 HoR1.out) v (by simpa using hv))
      have HnK : Hid ((mdCells q R iv).toList.take 1 ++ (refCells R1 v1).toList ++ (mdCells q R iv).toList.drop (1 + (refCells R1 v1).toList.length) = (mdCells q R1 v1).toList) := hide rfl
      go_wp2_with (first
        | (refine wpList_load_row rfl _ _ rfl w.heap.size rfl _ (refCells R1 v1) _ _ gX hur rfl HsR3.out ?_)
        | (refine wpList_store_part rfl _ _ _ rfl g 1 (refCells R1 v1).toList rfl rfl _ (mdCells q R iv) Hq.out HiR3.out (by show 1 + 7 ≤ 8; decide) HoR3.out (mdCells q R1 v1) HnK.out ?_; intro Y hY hsY; have HY := hide hY; have SY := hide (SX.out.trans hsY); clear hY hsY gX))
      go_ret
      refine ⟨rfl, ?_, SY.out⟩
      rw [if_pos rfl, if_pos rfl]
      exact HY.out
    · have e1 : (((er : Nat) : Int) == 0) = false := by simp only [beq_eq_false_iff_ne, ne_eq]; omega
      have h00 := hide h0
      clear h0
      go_wp2_with fail
      go_ret
      refine ⟨rfl, ?_, SX.out⟩
      rw [if_neg h00.out, if_neg h00.out]
      have h9 := HX.out.right
      rw [SP.mul_left_comm] at h9
      exact h9
/-- how a call ends that turns the Model, and its flash -/
def MTurn (g q : Nat) (X : FlS × RecS × Nat) (F : SP) (w : World) (e : Ending) (w' : World) : Prop := e = .returned (.int .i64 (X.2.2 : Nat)) ∧ (Md g q X.2.1 * (RFlash q X.1 * F)).on w' ∧ Str w w'
theorem sp_md1 (A B C D E : SP) : A * (B * (C * (D * E))) = A * (C * (B * (D * E))) := by ac_rfl
/-- with bytes of another's -/
theorem mrem_any (g q : Nat) (R : RecS) (s : FlS) (F : SP) (n : Nat) (fit : s.Fit n) (hn : n ≤ 1099500000000) (hR : R.Ok) (phase : UInt8) (done : Nat) (hd : done < 4294967296) (vi : Value) (init : List UInt8) (hi : init.length ≤ 1000000)
    (w : World) (h : (Md g q R * (RFlash q s * (ownR vi init * F))).on w) :
    Calls Try.prog 59 #[.pointer (some ⟨g, 0, Option.none⟩), vb phase, u32v done, vi] w (MTurn g q (kRem s R phase done init) F w) := by
  obtain ⟨iv, h⟩ := Md.open h
  have hsl := own_slice h.right
  rw [SP.mul_left_comm (ownR iv R.init)] at h
  refine (mremember_any g q R iv s (ownR iv R.init * (ownR vi init * F)) n fit hn hR phase done hd vi init hi (fun W hW => own_bytes hW.right) hsl w h).mono ?_
  rintro e w' ⟨h1, h2, h3⟩
  refine ⟨h1, ?_, h3⟩
  unfold kRem
  simp only
  by_cases h0 : (s.save (R.put phase done init)).2.2 = 0
  · rw [if_pos h0, if_pos h0] at h2
    rw [if_pos h0]
    have hin : (s.save (R.put phase done init)).2.1.init = init := save_init h0
    refine Md.shut (iv := vi) ?_
    rw [hin]
    rw [sp_md1, SP.mul_left_comm (RFlash q _) (ownR vi init)] at h2
    exact SP.le.on (SP.le.mul (SP.le.refl _) (SP.le_right _ _)) h2
  · rw [if_neg h0, if_neg h0] at h2
    rw [if_neg h0]
    refine Md.shut (iv := iv) ?_
    rw [sp_md1] at h2
    exact SP.le.on (SP.le.mul (SP.le.refl _) (SP.le.mul (SP.le.refl _) (SP.le.mul (SP.le.refl _) (SP.le_right _ _)))) h2
/-- with its own bytes -/
theorem mrem_own (g q : Nat) (R : RecS) (iv : Value) (s : FlS) (F : SP) (n : Nat) (fit : s.Fit n) (hn : n ≤ 1099500000000) (hR : R.Ok) (phase : UInt8) (done : Nat) (hd : done < 4294967296)
    (w : World) (h : (blk g (.cells (mdCells q R iv) 62 (0, 0)) * (ownR iv R.init * (RFlash q s * F))).on w) :
    Calls Try.prog 59 #[.pointer (some ⟨g, 0, Option.none⟩), vb phase, u32v done, iv] w (MTurn g q (kRem s R phase done R.init) F w) := by
  have hsl := own_slice h.right
  rw [SP.mul_left_comm (ownR iv R.init)] at h
  refine (mremember_any g q R iv s (ownR iv R.init * F) n fit hn hR phase done hd iv R.init hR.init (fun W hW => own_bytes hW) hsl w h).mono ?_
  rintro e w' ⟨h1, h2, h3⟩
  refine ⟨h1, ?_, h3⟩
  unfold kRem
  simp only
  by_cases h0 : (s.save (R.put phase done R.init)).2.2 = 0
  · rw [if_pos h0, if_pos h0] at h2
    rw [if_pos h0]
    have hin : (s.save (R.put phase done R.init)).2.1.init = R.init := save_init h0
    refine Md.shut (iv := iv) ?_
    rw [hin, SP.mul_left_comm (ownR iv R.init)]
    exact h2
  · rw [if_neg h0, if_neg h0] at h2
    rw [if_neg h0]
    refine Md.shut (iv := iv) ?_
    rw [SP.mul_left_comm (ownR iv R.init)]
    exact h2

set_option maxRecDepth 100000 in
set_option maxHeartbeats 8000000 in
theorem mclear_any (g q : Nat) (R : RecS) (s : FlS) (F : SP) (w : World) (h : (Md g q R * (RFlash q s * F)).on w) (n : Nat) (fit : s.Fit n) (hn : n ≤ 1099500000000) (a b : Nat) (hf : 34 ≤ s.worn.length) (hab : a ≤ b) (hb : b ≤ 16) :
    Calls Try.prog 60 #[.pointer (some ⟨g, 0, Option.none⟩), .int .i64 a, .int .i64 b] w fun e w' => e = .returned (.int .i64 ((s.clr 18 a (b - a)).2 : Int)) ∧ (Md g q R * (RFlash q (s.clr 18 a (b - a)).1 * F)).on w' ∧ Str w w' := by
  have hum := Try.underlying62
  have H1 := hide h
  have S1 := hide (Str.refl w)
  have Hfit := hide fit
  clear h fit
  go_enter Try.func60, Try.ntmps60
  go_wp2_with fail
  go_loopw [7] (fun i wr => ∃ (k m : Nat) (st : FlS), a + k ≤ b ∧ i = .int .i64 ((a + k : Nat) : Int) ∧ st.Fit (n + k) ∧ st.worn.length = s.worn.length ∧ s.clr 18 a (b - a) = st.clr 18 (a + k) (b - (a + k)) ∧ (Md g q R * (RFlash q st * F)).on wr ∧ Str w wr) (fun i _ => b - (intOf i).toNat)
  case atStart => exact ⟨0, 0, s, by omega, rfl, Hfit.out, rfl, rfl, H1.out, S1.out⟩
  case round =>
    obtain ⟨k, _, st, hk, rfl, hft, hwn, heq, hw, hstr⟩ := hrel
    obtain ⟨iv, hopen⟩ := Md.open hw
    have Hw := hide hw
    have Hstr := hide hstr
    have Heq := hide heq
    have Hft := hide hft
    have Hwn := hide hwn
    have c0 : wr.cell? ⟨g, 0, Option.none⟩ = some (fptr q) := cell_of_row wr g 0 _ _ _ (on_blk_mul hopen)
    have hE := rera_any q st _ wr (show (RFlash q st * (Md g q R * F)).on wr from by rw [SP.mul_left_comm]; exact hw) (n + k) hft (by omega) (18 + (a + k)) (by omega)
    have hcast : ((18 + (a + k) : Nat) : Int) = (18 : Int) + ((a : Int) + (k : Int)) := by omega
    have hck : ((a + k : Nat) : Int) = (a : Int) + (k : Int) := by omega
    rw [hcast] at hE
    have HE := hide hE
    clear hw hstr heq hft hwn hE hcast hopen
    by_cases hlt : a + k < b
    · have hstep : st.clr 18 (a + k) (b - (a + k)) = if (st.era (18 + (a + k))).2 = 0 then (st.era (18 + (a + k))).1.clr 18 (a + (k + 1)) (b - (a + (k + 1))) else st.era (18 + (a + k)) := by
        obtain ⟨m, hm2⟩ : ∃ m, b - (a + k) = m + 1 := ⟨b - (a + k) - 1, by omega⟩
        rw [hm2, show b - (a + (k + 1)) = m by omega]
        rfl
      have Hf2 := hide (Hft.out.era (18 + (a + k)))
      have Hw2 := hide (FlS.era_wornlen st (18 + (a + k)))
      have hlI : (a : Int) + (k : Int) < (b : Int) := by omega
      obtain ⟨⟨st2, er⟩, hX⟩ : ∃ x, x = st.era (18 + (a + k)) := ⟨_, rfl⟩
      rw [← hX] at HE hstep Hf2 Hw2
      clear hX
      rw [hck]
      by_cases h0 : er = 0
      · rw [if_pos h0] at hstep
        have Hstep := hide hstep
        clear hstep
        subst h0
        go_wp2_with fail
        refine HE.out.mono ?_
        clear HE
        rintro e w2 ⟨rfl, h1, h2⟩
        have H2 := hide (show (Md g q R * (RFlash q st2 * F)).on w2 from by rw [SP.mul_left_comm]; exact h1)
        have S2 := hide (Hstr.out.trans h2)
        clear h1 h2 c0
        go_wp2_with fail
        refine ⟨⟨k + 1, 0, st2, by omega, congrArg (Value.int _) (by omega), Hf2.out.mono (by omega), by rw [Hw2.out]; exact Hwn.out, by rw [Heq.out, Hstep.out], H2.out, S2.out⟩, by simp [intOf]; omega⟩
      · rw [if_neg h0] at hstep
        have Hstep := hide hstep
        have e1 : (((er : Nat) : Int) != 0) = true := by simp only [bne_iff_ne, ne_eq]; omega
        clear hstep h0
        go_wp2_with fail
        refine HE.out.mono ?_
        clear HE
        rintro e w2 ⟨rfl, h1, h2⟩
        have H2 := hide (show (Md g q R * (RFlash q st2 * F)).on w2 from by rw [SP.mul_left_comm] at h1; exact h1)
        have S2 := hide (Hstr.out.trans h2)
        clear h1 h2 c0
        go_wp2_with fail
        go_ret
        exact ⟨by rw [Heq.out, Hstep.out]; rfl, by rw [Heq.out, Hstep.out]; exact H2.out, S2.out⟩
    · have hz : b - (a + k) = 0 := by omega
      have hEnd : s.clr 18 a (b - a) = (st, 0) := by rw [Heq.out, hz]; rfl
      have HEnd := hide hEnd
      have hlI : ¬ ((a : Int) + (k : Int) < (b : Int)) := by omega
      rw [hck]
      clear HE hz hEnd
      go_wp2_with fail
      go_ret
      exact ⟨by rw [HEnd.out]; rfl, by rw [HEnd.out]; exact Hw.out, Hstr.out⟩
end Go.Proofs.Ytjmgnfpcieofkaa

/- The law TransferActs: some bytes; the document's start and put. -/
namespace Go.Proofs.Ytjmgnfpcieofkaa
open Go.ChangeShapes Go.WideShapes Go.ChangeAt Go.RowKit
set_option linter.unusedVariables false
set_option linter.unusedSimpArgs false

set_option maxRecDepth 100000 in
set_option maxHeartbeats 4000000 in
theorem bytes18_any (n : Nat) (hn : n ≤ 1000000) (tear : Nat) (ht : tear < 4294967296) (w : World) :
    Calls Try.prog 22 #[.int .i64 n, u32v tear] w fun e w' => ∃ v : Value, e = .returned v ∧ ∃ l : List UInt8, l.length = n ∧ (ownR v l * all w).on w' ∧ Str w w' := by
  have hu := Try.underlying33
  go_enter Try.func22, Try.ntmps22
  go_wp2_with fail
  go_loopw [1, 5, 7] (fun t av i wr => ∃ (k : Nat) (l : List UInt8) (t' : Int), k ≤ n ∧ t = .int .u32 t' ∧ 0 ≤ t' ∧ t' < 4294967296 ∧ i = .int .i64 k ∧ l.length = k ∧ (ownR av l * all w).on wr ∧ Str w wr) (fun _ _ i _ => n - (intOf i).toNat)
  case atStart => exact ⟨0, [], _, by omega, rfl, by omega, by omega, rfl, rfl, own_nil _ 1 (on_all w), Str.refl _⟩
  case round =>
    obtain ⟨k, l, t, hk, rfl, ht0, ht1, rfl, hlk, how, hstr⟩ := hrel
    obtain ⟨oa, oc, rfl, _, _, _, _⟩ := own_value how
    have Hlk := hide hlk
    have How := hide how
    have Hstr := hide hstr
    clear hlk how hstr
    by_cases hkn : k < n
    · obtain ⟨c, hc⟩ : ∃ c : UInt8, (t * 1664525 + 1013904223) % 4294967296 / 16777216 = ((c.toNat : Nat) : Int) := ⟨UInt8.ofNat ((t * 1664525 + 1013904223) % 4294967296 / 16777216).toNat, by rw [UInt8.toNat_ofNat']; omega⟩
      have hkI : (k : Int) < (n : Int) := by omega
      have hln : l.length ≤ 1000000 := by have := Hlk.out; omega
      go_wp2_with (at_builtin; refine wpList_append_bytes (F := all w) rfl _ _ 33 rfl 5 hu infoByte _ l [c] rfl (How.out.alloc' _) _ rfl (IsBytes.new _ [c] (by simp [maxLen]) 5) (by simp; omega) ?_; intro v2 w2 ho2 hs2)
      exact ⟨⟨k + 1, l ++ [c], _, by omega, rfl, by omega, by omega, by simp, by simp; exact Hlk.out, ho2, (Hstr.out.alloc _).trans hs2⟩, by simp [intOf]; omega⟩
    · have hkI : ¬ (k : Int) < (n : Int) := by omega
      go_wp2_with fail
      go_ret
      exact ⟨_, rfl, l, by have := Hlk.out; omega, How.out, Hstr.out⟩

theorem sp_ms1 (A B C D E : SP) : A * (B * (C * (D * E))) = C * (A * (B * (D * E))) := by ac_rfl
set_option maxRecDepth 100000 in
set_option maxHeartbeats 16000000 in
theorem mstart_any (g q : Nat) (R : RecS) (s : FlS) (F : SP) (n : Nat) (fit : s.Fit n) (hn : n ≤ 1099400000000) (hw34 : 34 ≤ s.worn.length) (hR : R.Ok) (vi : Value) (init : List UInt8) (hi : init.length ≤ 1000000)
    (w : World) (h : (Md g q R * (RFlash q s * (ownR vi init * F))).on w) :
    Calls Try.prog 24 #[.pointer (some ⟨g, 0, Option.none⟩), vi] w (MTurn g q (kStart s R init) F w) := by
  have h0 : (Md g q R * (RFlash q s * (ownR nilV [] * (ownR vi init * F)))).on w := by
    have h9 : (ownR nilV [] * (Md g q R * (RFlash q s * (ownR vi init * F)))).on w := own_nil 5 1 h
    rw [show ownR nilV [] * (Md g q R * (RFlash q s * (ownR vi init * F))) = Md g q R * (RFlash q s * (ownR nilV [] * (ownR vi init * F))) by ac_rfl] at h9
    exact h9
  have hA := mrem_any g q R s (ownR vi init * F) n fit (by omega) hR 0 0 (by decide) nilV [] (by decide) w h0
  have fit1 := kRem_fit fit R 0 0 []
  have worn1 := kRem_worn s R 0 0 []
  have ok1 := kRem_ok s hR 0 0 (by decide) [] (by decide)
  have hst : kStart s R init = if (kRem s R 0 0 []).2.2 ≠ 0 then kRem s R 0 0 [] else if ((kRem s R 0 0 []).1.clr 18 0 16).2 ≠ 0 then (((kRem s R 0 0 []).1.clr 18 0 16).1, (kRem s R 0 0 []).2.1, ((kRem s R 0 0 []).1.clr 18 0 16).2) else kRem ((kRem s R 0 0 []).1.clr 18 0 16).1 (kRem s R 0 0 []).2.1 1 0 init := rfl
  obtain ⟨av, cv, rfl, _, _, _, _⟩ := own_value h.right.right
  generalize kStart s R init = ST at *
  obtain ⟨⟨s1, R1, e1⟩, hX⟩ : ∃ x, x = kRem s R 0 0 [] := ⟨_, rfl⟩
  rw [← hX] at hA fit1 worn1 ok1 hst
  clear hX h h0 fit hR
  simp only at fit1 worn1 ok1 hst
  have HA := hide (show Calls Try.prog 59 #[.pointer (some ⟨g, 0, Option.none⟩), .int .u8 0, .int .u32 0, .slice Option.none 0 0] w (MTurn g q (s1, R1, e1) (ownR (.slice av init.length cv) init * F) w) from hA)
  have Hfit1 := hide fit1
  have Hok1 := hide ok1
  have h34 : 34 ≤ s1.worn.length := by omega
  clear hA fit1 ok1 worn1 hw34
  by_cases h1 : e1 = 0
  · rw [if_neg (by simp [h1])] at hst
    have Hst := hide hst
    clear hst
    subst h1
    go_enter Try.func24, Try.ntmps24
    go_wp2_with fail
    refine HA.out.mono ?_
    clear HA
    rintro e w1 ⟨rfl, hk, hs⟩
    have Hs := hide hs
    have hC := mclear_any g q R1 s1 _ w1 hk (n + 252) Hfit1.out (by omega) 0 16 h34 (by omega) (by omega)
    have fit2 := clr_fit (first := 18) 16 0 _ _ Hfit1.out
    obtain ⟨⟨s2, e2⟩, hY⟩ : ∃ x, x = s1.clr 18 0 16 := ⟨_, rfl⟩
    rw [show 16 - 0 = 16 from rfl, ← hY] at hC
    have hst2 := Hst.out
    rw [← hY] at hst2 fit2
    simp only at hst2 fit2
    have HC := hide (show Calls Try.prog 60 #[.pointer (some ⟨g, 0, Option.none⟩), .int .i64 0, .int .i64 16] w1 _ from hC)
    have Hfit2 := hide fit2
    rw [show ((0 : Nat) : Int) = 0 from rfl]
    clear hk hs hC hY fit2 Hst h34
    by_cases h2 : e2 = 0
    · rw [if_neg (by simp [h2])] at hst2
      have Hst2 := hide hst2
      clear hst2
      subst h2
      go_wp2_with fail
      refine HC.out.mono ?_
      clear HC
      rintro e w2 ⟨rfl, hk, hs⟩
      have hB := mrem_any g q R1 s2 F _ Hfit2.out (by omega) Hok1.out 1 0 (by decide) (.slice av init.length cv) init hi w2 hk
      have HB := hide (show Calls Try.prog 59 #[.pointer (some ⟨g, 0, Option.none⟩), .int .u8 1, .int .u32 0, .slice av init.length cv] w2 _ from hB)
      have Hs2 := hide (Hs.out.trans hs)
      rw [show ((0 : Nat) : Int) = 0 from rfl]
      clear hk hs hB
      go_wp2_with fail
      refine HB.out.mono ?_
      clear HB
      rintro e w3 ⟨rfl, hk, hs⟩
      have Hk3 := hide hk
      have Hs3 := hide (Hs2.out.trans hs)
      clear hk hs
      go_wp2_with fail
      go_ret
      unfold MTurn
      rw [Hst2.out]
      exact ⟨rfl, Hk3.out, Hs3.out⟩
    · rw [if_pos (by simpa using h2)] at hst2
      have Hst2 := hide hst2
      have en : (((e2 : Nat) : Int) != 0) = true := by simp only [bne_iff_ne, ne_eq]; omega
      clear hst2 h2
      go_wp2_with fail
      refine HC.out.mono ?_
      clear HC
      rintro e w2 ⟨rfl, hk, hs⟩
      have Hk2 := hide hk
      have Hs2 := hide (Hs.out.trans hs)
      clear hk hs
      go_wp2_with fail
      go_ret
      unfold MTurn
      rw [Hst2.out]
      exact ⟨rfl, SP.le.on (SP.le.mul (SP.le.refl _) (SP.le.mul (SP.le.refl _) (SP.le_right _ _))) Hk2.out, Hs2.out⟩
  · rw [if_pos (by simpa using h1)] at hst
    have Hst := hide hst
    have en : (((e1 : Nat) : Int) != 0) = true := by simp only [bne_iff_ne, ne_eq]; omega
    clear hst h1
    go_enter Try.func24, Try.ntmps24
    go_wp2_with fail
    refine HA.out.mono ?_
    clear HA
    rintro e w1 ⟨rfl, hk, hs⟩
    have Hk := hide hk
    have Hs := hide hs
    clear hk hs
    go_wp2_with fail
    go_ret
    unfold MTurn
    rw [Hst.out]
    exact ⟨rfl, SP.le.on (SP.le.mul (SP.le.refl _) (SP.le.mul (SP.le.refl _) (SP.le_right _ _))) Hk.out, Hs.out⟩

set_option maxRecDepth 100000 in
set_option maxHeartbeats 32000000 in
theorem mput_any (g q : Nat) (R : RecS) (s : FlS) (F : SP) (n : Nat) (fit : s.Fit n) (hn : n ≤ 1099400000000) (hw34 : 34 ≤ s.worn.length) (hR : R.Ok) (hdn : R.done ≤ 4096) (vi : Value) (b : List UInt8) (hbl : b.length ≤ 1000000)
    (hrd : ∀ W, F.on W → IsBytes W vi b) (w : World) (h : (Md g q R * (RFlash q s * F)).on w) :
    Calls Try.prog 26 #[.pointer (some ⟨g, 0, Option.none⟩), vi] w (MTurn g q (kPut s R b) F w) := by
  have hum := Try.underlying62
  have hur := Try.underlying60
  have hu := Try.underlying33
  have hu32 := Try.underlying32
  have hui := Try.underlying3
  obtain ⟨av, cv, rfl, hcv, hmv, _, _⟩ := hrd w h.right.right
  unfold maxLen at hmv
  have hpu : kPut s R b = if R.phase ≠ 1 then (s, R, 16) else if R.done % 256 ≠ 0 ∨ 4096 < R.done + b.length then (s, R, 12)
    else if (s.clr 18 (R.done / 256) ((R.done + b.length + 255) / 256 - R.done / 256)).2 ≠ 0 then ((s.clr 18 (R.done / 256) ((R.done + b.length + 255) / 256 - R.done / 256)).1, R, (s.clr 18 (R.done / 256) ((R.done + b.length + 255) / 256 - R.done / 256)).2)
    else if ((s.clr 18 (R.done / 256) ((R.done + b.length + 255) / 256 - R.done / 256)).1.prog (4608 + R.done) (padW b)).2 ≠ 0 then (((s.clr 18 (R.done / 256) ((R.done + b.length + 255) / 256 - R.done / 256)).1.prog (4608 + R.done) (padW b)).1, R, ((s.clr 18 (R.done / 256) ((R.done + b.length + 255) / 256 - R.done / 256)).1.prog (4608 + R.done) (padW b)).2)
    else kRem ((s.clr 18 (R.done / 256) ((R.done + b.length + 255) / 256 - R.done / 256)).1.prog (4608 + R.done) (padW b)).1 R 1 (R.done + b.length) R.init := rfl
  have hkp := h
  obtain ⟨iv, hopen⟩ := Md.open h
  have hq := on_blk_mul hopen
  have c6 : w.cell? ⟨g, 6, Option.none⟩ = some (vb R.phase) := cell_of_row w g 6 _ _ _ hq
  have c5 : w.cell? ⟨g, 5, Option.none⟩ = some (u32v R.done) := cell_of_row w g 5 _ _ _ hq
  generalize hPX : kPut s R b = PX at *
  have HPX := hide hPX
  have Hkp := hide hkp
  clear hPX hkp
  by_cases hph : R.phase = 1
  case neg =>
    rw [if_pos hph] at hpu
    have e1 : (((R.phase.toNat : Nat) : Int) != 1) = true := by
      have : R.phase.toNat ≠ 1 := fun h => hph (UInt8.toNat_inj.1 h)
      simp; omega
    have Hpu := hide hpu
    clear hpu h hq hrd fit hR hopen
    go_enter Try.func26, Try.ntmps26
    go_wp2_with fail
    go_ret
    unfold MTurn
    rw [Hpu.out]
    exact ⟨rfl, Hkp.out, Str.refl _⟩
  case pos =>
    rw [if_neg (by simp [hph])] at hpu
    have e1 : (((R.phase.toNat : Nat) : Int) != 1) = false := by rw [hph]; rfl
    have hmod : ((R.done : Int)).tmod 256 = ((R.done % 256 : Nat) : Int) := by rw [Int.tmod_eq_emod_of_nonneg (by omega)]; omega
    clear hph
    by_cases hm : R.done % 256 = 0
    case neg =>
      rw [if_pos (.inl hm)] at hpu
      have e2 : ((R.done : Int) % 256 != 0) = true := by simp only [bne_iff_ne, ne_eq]; omega
      clear hm hmod
      have Hpu := hide hpu
      clear hpu h hq hrd fit hR hopen
      go_enter Try.func26, Try.ntmps26
      go_wp2_with fail
      go_ret
      unfold MTurn
      rw [Hpu.out]
      exact ⟨rfl, Hkp.out, Str.refl _⟩
    case pos =>
      have e2 : ((R.done : Int) % 256 != 0) = false := by simp only [bne_eq_false_iff_eq]; omega
      clear hmod
      by_cases hl : 4096 < R.done + b.length
      case pos =>
        rw [if_pos (.inr hl)] at hpu
        have e3 : (4096 : Int) < (R.done : Int) + ((b.length : Nat) : Int) := by omega
        clear hm hl
        have Hpu := hide hpu
        clear hpu h hq hrd fit hR hopen
        go_enter Try.func26, Try.ntmps26
        go_wp2_with fail
        go_ret
        unfold MTurn
        rw [Hpu.out]
        exact ⟨rfl, Hkp.out, Str.refl _⟩
      case neg =>
        rw [if_neg (by omega)] at hpu
        have e3 : ¬ ((4096 : Int) < (R.done : Int) + ((b.length : Nat) : Int)) := by omega
        have hlb : b.length ≤ 4096 := by omega
        have ha0 : R.done / 256 ≤ (R.done + b.length + 255) / 256 := by omega
        have ha1 : (R.done + b.length + 255) / 256 ≤ 16 := by omega
        have hq1 : ((R.done : Int)).tdiv 256 = ((R.done / 256 : Nat) : Int) := by rw [Int.tdiv_eq_ediv_of_nonneg (by omega)]; omega
        have hq2 : ((R.done : Int) + ((b.length : Nat) : Int) + 255).tdiv 256 = (((R.done + b.length + 255) / 256 : Nat) : Int) := by rw [Int.tdiv_eq_ediv_of_nonneg (by omega)]; omega
        have hC := mclear_any g q R s _ w h n fit (by omega) (R.done / 256) ((R.done + b.length + 255) / 256) (by omega) ha0 ha1
        have fit2 := clr_fit (first := 18) ((R.done + b.length + 255) / 256 - R.done / 256) (R.done / 256) _ _ fit
        obtain ⟨⟨s2, e5⟩, hY⟩ : ∃ x, x = s.clr 18 (R.done / 256) ((R.done + b.length + 255) / 256 - R.done / 256) := ⟨_, rfl⟩
        rw [← hY] at hC fit2 hpu
        simp only at fit2 hpu
        have hpad := padW_len b
        rw [show ((R.done / 256 : Nat) : Int) = (R.done : Int) / 256 from by omega, show (((R.done + b.length + 255) / 256 : Nat) : Int) = ((R.done : Int) + ((b.length : Nat) : Int) + 255) / 256 from by omega] at hC
        have HC := hide hC
        have Hrd := hide hrd
        have Hm := hide hm
        have Hl := hide hl
        have HR := hide hR
        have Hfit2 := hide (fit2.mono (show n + ((R.done + b.length + 255) / 256 - R.done / 256) ≤ n + 16 by omega))
        clear hC hY fit2 h hq hrd fit hR hm hl hw34 ha0 ha1 hopen
        by_cases h5 : e5 = 0
        case neg =>
          rw [if_pos (by simpa using h5)] at hpu
          have Hpu := hide hpu
          have en : (((e5 : Nat) : Int) != 0) = true := by simp only [bne_iff_ne, ne_eq]; omega
          clear hpu h5
          go_enter Try.func26, Try.ntmps26
          go_wp2_with fail
          refine HC.out.mono ?_
          clear HC
          rintro e w2 ⟨rfl, hk, hs⟩
          have Hk2 := hide hk
          have Hs2 := hide hs
          clear hk hs
          go_wp2_with fail
          go_ret
          unfold MTurn
          rw [Hpu.out]
          exact ⟨rfl, Hk2.out, Hs2.out⟩
        case pos =>
          rw [if_neg (by simp [h5])] at hpu
          subst h5
          obtain ⟨⟨s3, e6⟩, hZ⟩ : ∃ x, x = s2.prog (4608 + R.done) (padW b) := ⟨_, rfl⟩
          rw [← hZ] at hpu
          simp only at hpu
          have HZ := hide hZ
          have Hfit3 : Hid (s3.Fit (n + 16 + (padW b).length / 4)) := hide (by have := Hfit2.out.prog (4608 + R.done) (padW b); rw [← hZ] at this; exact this)
          have hmod4 : (padW b).length % 4 = 0 := by omega
          have hpl : (padW b).length ≤ 4096 := by have := Hl.out; have := Hm.out; omega
          have Hpad := hide (show padW b = b ++ List.replicate ((4 - b.length % 4) % 4) 255 from rfl)
          have Hpu := hide hpu
          clear hZ hpu hpad
          generalize padW b = lb at *
          go_enter Try.func26, Try.ntmps26
          go_wp2_with fail
          refine HC.out.mono ?_
          clear HC
          rintro e w2 ⟨rfl, hk, hs⟩
          have Hk := hide hk
          have Hs := hide hs
          have Hbx := hide (Hrd.out _ (hk.right.right.alloc' (.cells #[] 5)))
          have Hown := hide (own_new 5 1 0 [] hk rfl (by decide))
          rw [show ((0 : Nat) : Int) = 0 from rfl]
          clear hk hs c5 c6
          go_wp2_with (at_builtin; refine wpList_append_bytes (F := (Md g q R * (RFlash q s2 * F))) rfl _ _ 33 rfl 5 hu infoByte _ [] b rfl Hown.out _ rfl Hbx.out (by simp; omega) ?_; intro v2 w3 ho2 hs2)
          rw [List.nil_append] at ho2
          have Ho2 := hide ho2
          have Hs3 := hide ((Hs.out.alloc (.cells #[] 5)).trans hs2)
          clear ho2 hs2 Hown Hbx Hs Hk
          go_wp2_with fail
          go_loopw [7] (fun av wr' => ∃ j : Nat, j ≤ (4 - b.length % 4) % 4 ∧ (ownR av (b ++ List.replicate j 255) * (Md g q R * (RFlash q s2 * F))).on wr' ∧ Str w wr') (fun av _ => b.length + (4 - b.length % 4) % 4 - sliceLenB av)
          case atStart => exact ⟨0, by omega, by simpa using Ho2.out, Hs3.out⟩
          case round =>
            clear Ho2 Hs3
            obtain ⟨j, hj, how, hstr⟩ := hrel
            obtain ⟨oa2, oc2, rfl, _, _, _, _⟩ := own_value how
            have hacl : (b ++ List.replicate j (255 : UInt8)).length = b.length + j := by simp
            have HSn := hide (show b ++ List.replicate (j + 1) (255 : UInt8) = (b ++ List.replicate j 255) ++ [255] by rw [List.replicate_succ', List.append_assoc])
            by_cases hjl : j < (4 - b.length % 4) % 4
            · have e9 : (((b ++ List.replicate j (255 : UInt8)).length : Int) % 4 != 0) = true := by rw [hacl]; simp; omega
              generalize b ++ List.replicate j (255 : UInt8) = acc at *
              have How := hide how
              have Hstr := hide hstr
              have Hacl := hide hacl
              have hal2 : acc.length ≤ 8192 := by omega
              clear how hstr hacl
              go_wp2_with (at_builtin; refine wpList_append_bytes (F := (Md g q R * (RFlash q s2 * F))) rfl _ _ 33 rfl 5 hu infoByte _ acc [255] rfl (How.out.alloc' _) _ rfl (IsBytes.new _ [255] (by simp [maxLen]) 5) (by simp; omega) ?_; intro v2 w2 ho2 hs2)
              obtain ⟨oa3, oc3, rfl, _, _, _, _⟩ := own_value ho2
              refine ⟨⟨j + 1, by omega, by rw [HSn.out]; exact ho2, (Hstr.out.alloc _).trans hs2⟩, ?_⟩
              have := Hacl.out
              simp only [sliceLenB, List.length_append, List.length_cons, List.length_nil]
              omega
            · have hjr : j = (4 - b.length % 4) % 4 := by omega
              have hacc : b ++ List.replicate j (255 : UInt8) = lb := by rw [Hpad.out, hjr]
              rw [hacc] at how hacl ⊢
              have e9 : ((lb.length : Int) % 4 != 0) = false := by simp; omega
              have h1 : (RFlash q s2 * (ownR (.slice oa2 lb.length oc2) lb * (Md g q R * F))).on wr := by
                rw [show RFlash q s2 * (ownR (.slice oa2 lb.length oc2) lb * (Md g q R * F)) = ownR (.slice oa2 lb.length oc2) lb * (Md g q R * (RFlash q s2 * F)) by ac_rfl]; exact how
              have HP := hide (rprog_anyZ q s2 _ wr h1 (n + 16) Hfit2.out (by omega) (4608 + R.done) (.slice oa2 lb.length oc2) lb (by have := Hm.out; omega) hmod4 (by omega) (by omega) (fun W hW => own_bytes hW) (4608 + (R.done : Int)) (by omega))
              rw [← HZ.out] at HP
              obtain ⟨iv2, hop⟩ := Md.open how.right
              have cg : wr.cell? ⟨g, 0, Option.none⟩ = some (fptr q) := cell_of_row wr g 0 _ _ _ (on_blk_mul hop)
              have Hstr := hide hstr
              clear how hstr HSn hacc hacl h1 hop
              go_wp2_with fail
              refine HP.out.mono ?_
              clear HP cg
              rintro e w4 ⟨rfl, h4, hs4⟩
              try simp only at h4
              have h5 : (Md g q R * (RFlash q s3 * F)).on w4 := by
                rw [show RFlash q s3 * (ownR (.slice oa2 lb.length oc2) lb * (Md g q R * F)) = ownR (.slice oa2 lb.length oc2) lb * (Md g q R * (RFlash q s3 * F)) by ac_rfl] at h4
                exact h4.right
              have Hs4 := hide (Hstr.out.trans hs4)
              by_cases h6 : e6 = 0
              case neg =>
                have hpu := Hpu.out
                rw [if_pos (by simpa using h6)] at hpu
                have Hpv := hide hpu
                have en : (((e6 : Nat) : Int) != 0) = true := by simp only [bne_iff_ne, ne_eq]; omega
                have H5 := hide h5
                clear hpu h6 h4 h5 hs4 Hpu
                try simp only
                go_wp2_with fail
                go_ret
                unfold MTurn
                rw [Hpv.out]
                exact ⟨rfl, H5.out, Hs4.out⟩
              case pos =>
                have hpu := Hpu.out
                rw [if_neg (by simp [h6])] at hpu
                have Hpv := hide hpu
                subst h6
                obtain ⟨iv3, hop⟩ := Md.open h5
                have c7 : w4.cell? ⟨g, 7, Option.none⟩ = some iv3 := cell_of_row w4 g 7 _ _ _ (on_blk_mul hop)
                have hsl := own_slice hop.right
                have hRm := mrem_own g q R iv3 s3 F _ Hfit3.out (by omega) HR.out 1 (R.done + b.length) (by omega) w4 hop
                rw [show u32v (R.done + b.length) = .int .u32 ((R.done : Int) + ((b.length : Nat) : Int)) from by unfold u32v; rw [Int.natCast_add]] at hRm
                have HRm := hide (show Calls Try.prog 59 #[.pointer (some ⟨g, 0, Option.none⟩), .int .u8 1, .int .u32 ((R.done : Int) + ((b.length : Nat) : Int)), iv3] w4 _ from hRm)
                obtain ⟨ia3, in3, ic3, rfl⟩ := hsl
                clear hpu h4 h5 hs4 Hpu hop hRm
                try simp only
                rw [show ((0 : Nat) : Int) = 0 from rfl]
                go_wp2_with fail
                refine HRm.out.mono ?_
                clear HRm
                rintro e w5 ⟨rfl, hk, hs⟩
                have Hk5 := hide hk
                have Hs5 := hide (Hs4.out.trans hs)
                clear hk hs c7
                go_wp2_with fail
                go_ret
                unfold MTurn
                rw [Hpv.out]
                exact ⟨rfl, Hk5.out, Hs5.out⟩
end Go.Proofs.Ytjmgnfpcieofkaa

/- The law TransferActs: how far a keeper's numbers go; its acts as arguments. -/
namespace Go.Proofs.Ytjmgnfpcieofkaa
open Go.ChangeShapes Go.WideShapes Go.ChangeAt Go.RowKit
set_option linter.unusedVariables false
set_option linter.unusedSimpArgs false

theorem recErr_done {l : List UInt8} (h : recErr l = 0) : (readS l).done ≤ 4096 := by
  unfold recErr at h
  split at h
  · cases h
  · split at h
    · cases h
    · split at h
      · rename_i h3
        have h4 := h3.1
        simp only [RecS.right, decide_eq_true_eq] at h4
        exact h4.2.1
      · cases h
theorem best_done (s : FlS) : ∀ k, (s.best k).1.done ≤ 4096
  | 0 => Nat.zero_le _
  | k + 1 => by
    unfold FlS.best
    split
    · rename_i h
      exact recErr_done h.1
    · exact best_done s k
theorem load_done (s : FlS) : s.load.1.done ≤ 4096 := by
  unfold FlS.load
  split
  · decide
  · split
    · decide
    · exact best_done s 2
theorem kRem_done (s : FlS) {R : RecS} (h : R.done ≤ 4096) (phase : UInt8) (done : Nat) (hd : done ≤ 4096) (init : List UInt8) : (kRem s R phase done init).2.1.done ≤ 4096 := by
  unfold kRem
  simp only
  split
  · rename_i h0
    rw [save_done_le h0]
    exact hd
  · exact h
theorem kStart_done (s : FlS) {R : RecS} (h : R.done ≤ 4096) (init : List UInt8) : (kStart s R init).2.1.done ≤ 4096 := by
  have h1 := kRem_done s h 0 0 (by decide) []
  unfold kStart
  split
  · exact h1
  · split
    · exact h1
    · exact kRem_done _ h1 _ _ (by decide) _
theorem kPut_far {s : FlS} {R : RecS} {b : List UInt8} (h : ¬ R.done + b.length ≤ 4096) : kPut s R b = (s, R, 16) ∨ kPut s R b = (s, R, 12) := by
  unfold kPut
  split
  · exact .inl rfl
  · rw [if_pos (.inr (by omega))]
    exact .inr rfl
theorem kPut_all (s : FlS) {n : Nat} (hf : s.Fit n) {R : RecS} (hR : R.Ok) (hd : R.done ≤ 4096) (b : List UInt8) : (kPut s R b).1.Fit (n + 3000) ∧ (kPut s R b).1.worn.length = s.worn.length ∧ (kPut s R b).2.1.Ok ∧ (kPut s R b).2.1.done ≤ 4096 := by
  by_cases hl : R.done + b.length ≤ 4096
  case neg =>
    rcases kPut_far (s := s) hl with e | e
    all_goals
      rw [e]
      exact ⟨hf.mono (by omega), rfl, hR, hd⟩
  case pos =>
    refine ⟨kPut_fit hf R b hl, ?_⟩
    have hw := clr_wornlen (first := 18) ((R.done + b.length + 255) / 256 - R.done / 256) (R.done / 256) s
    unfold kPut
    split
    · exact ⟨rfl, hR, hd⟩
    · split
      · exact ⟨rfl, hR, hd⟩
      · split
        · exact ⟨hw, hR, hd⟩
        · split
          · exact ⟨by show (FlS.prog _ _ _).1.worn.length = _; rw [FlS.prog_worn]; exact hw, hR, hd⟩
          · exact ⟨by rw [kRem_worn, FlS.prog_worn]; exact hw, kRem_ok _ hR _ _ (by omega) _ hR.init, kRem_done _ hd _ _ hl _⟩
theorem power_kErr (s : FlS) (ok : s.Ok) (h34 : 34 ≤ s.worn.length) : s.power.kErr = 0 ∧ (s.power.load.2.2 = 0 ∨ s.power.load.2.2 = 15) := by
  have hB : s.power.B.length = 256 * s.worn.length := ok.pages
  have ho : s.power.off = false := rfl
  have hl : s.power.load = s.power.best 2 := by
    unfold FlS.load
    rw [if_neg (by omega), ho, if_neg (by decide)]
  have he := best_err s.power 2
  rw [← hl] at he
  refine ⟨?_, he⟩
  unfold FlS.kErr
  rw [if_neg (by omega), if_neg (by omega)]

structure ActT where
  kind : UInt8
  n : Int
  tear : Nat
def atC (y : ActT) : Array Value := #[vb y.kind, .int .i64 y.n, u32v y.tear]
structure ActT.Good (y : ActT) : Prop where
  n1 : -9223372036854775808 ≤ y.n
  n2 : y.n ≤ 9223372036854775807
  tear : y.tear < 4294967296
abbrev zeroAT : ActT := ⟨0, 0, 0⟩
theorem at_hz (X : World) : (zeroValue 64).run Try.prog X = .ok (.agg (atC zeroAT)) X := by kernel_rfl
theorem at_one (y : ActT) : (atC y).all Value.oneCell' = true := by simp [atC, Value.oneCell']
theorem at_info (y : ActT) : (Try.prog.info? 64).map (·.size) = some (atC y).size := by
  show _ = some 3
  kernel_rfl
section
variable {H : Type} {enc : TypeId × Value → H} {w : World} {base : Nat} {spare : Nat → Bool} {held : Bool}
set_option maxRecDepth 100000 in
theorem each_actT (fuel : Nat) (cs : List Value) (x : DataW H × List MemPlace) (h : DataW.trod enc Try.prog w base spare held fuel 64 cs = some x) : ∃ y : ActT, cs = (atC y).toList ∧ y.Good ∧ 0 < (atC y).size := by
  have hu := Try.underlying64
  have h32 := Try.underlying32
  have h8 := Try.underlying5
  have hi := Try.underlying3
  have c32 : Try.prog.cellsOf 32 = 1 := by kernel_rfl
  have c8 : Try.prog.cellsOf 5 = 1 := by kernel_rfl
  have ci : Try.prog.cellsOf 3 = 1 := by kernel_rfl
  have c10 : Try.prog.cellsOf 64 = 3 := by kernel_rfl
  obtain ⟨xs, n, rfl, _, hl, hxl, hfs⟩ := DataW.trod_struct hu h
  rw [c10] at hl
  match xs, hxl with
  | [x0, x1, x2], _ =>
    have g0 := hfs 0 _ rfl
    have g1 := hfs 1 _ rfl
    have g2 := hfs 2 _ rfl
    obtain ⟨n0, e0⟩ := trod_b8 h8 g0
    obtain ⟨n1, b1, b1', e1⟩ := trod_i64 hi g1
    obtain ⟨n2, b2, e2⟩ := trod_u32 h32 g2
    refine ⟨⟨n0, n1, n2⟩, ?_, ⟨b1, b1', b2⟩, by show 0 < 3; omega⟩
    clear g0 g1 g2 hfs h
    match cs, hl with
    | [y0, y1, y2], _ =>
      change List.take (Try.prog.cellsOf 5) ([y0, y1, y2].drop 0) = _ at e0
      rw [c8] at e0
      change List.take (Try.prog.cellsOf 3) ([y0, y1, y2].drop 1) = _ at e1
      rw [ci] at e1
      change List.take (Try.prog.cellsOf 32) ([y0, y1, y2].drop 2) = _ at e2
      rw [c32] at e2
      simp at e0 e1 e2
      subst e0 e1 e2
      rfl
end
theorem md_build (q : Nat) (w : World) : (Instr.build 62 #[(0, fptr q)]).run Try.prog w = .ok (.agg (mdCells q zeroS nilV)) w := by kernel_rfl
theorem wpList_build_md {ops : Array Oper} {rest : List Oper} {o : Oper} {a : Act} {w : World} {Q : Exit → Act → World → Prop} (hgd : o.guard = Option.none) (x0 : Operand) (ho : o.op = .build 62 #[(0, x0)]) (q : Nat)
    (h0 : a.eval x0 = fptr q) (hk : wpList Try.prog ops Q rest (a.put o.dst (.agg (mdCells q zeroS nilV))) w) : wpList Try.prog ops Q (o :: rest) a w := by
  have hr : (execOp a.eval o).run Try.prog w = .ok (.value (.agg (mdCells q zeroS nilV))) w := by
    unfold execOp
    rw [ho]
    simp only [List.map_toArray, List.map_cons, List.map_nil, h0]
    rw [Sem.run_bind, md_build]
    rfl
  exact wpList_plain hgd fun _ hK => by
    unfold Oper.wp
    simp only [hr]
    exact hK _ _ hk
theorem rr_build (s : RecS) (a : Option Addr) (n c : Nat) (w : World) : (Instr.build 60 #[(0, u32v s.seq), (1, u32v s.floor), (2, u32v s.bytes), (3, u32v s.sum), (4, u32v s.done), (5, vb s.phase), (6, .slice a n c)]).run Try.prog w = .ok (.agg (refCells s (.slice a n c))) w := by kernel_rfl
theorem OpOk.build_rr {o : Oper} {ev : Operand → Value} {W : World} {R : Value → World → Prop} (x0 x1 x2 x3 x4 x5 x6 : Operand) (ho : o.op = .build 60 #[(0, x0), (1, x1), (2, x2), (3, x3), (4, x4), (5, x5), (6, x6)]) (s : RecS) (a : Option Addr) (n c : Nat)
    (h0 : ev x0 = u32v s.seq) (h1 : ev x1 = u32v s.floor) (h2 : ev x2 = u32v s.bytes) (h3 : ev x3 = u32v s.sum) (h4 : ev x4 = u32v s.done) (h5 : ev x5 = vb s.phase) (h6 : ev x6 = .slice a n c) (hR : R (.agg (refCells s (.slice a n c))) W) : OpOk Try.prog o ev W R := by
  have hr : (execOp ev o).run Try.prog W = .ok (.value (.agg (refCells s (.slice a n c)))) W := by
    unfold execOp
    rw [ho]
    simp only [List.map_toArray, List.map_cons, List.map_nil, h0, h1, h2, h3, h4, h5, h6]
    rw [Sem.run_bind, rr_build]
    rfl
  exact OpOk.run hr hR
end Go.Proofs.Ytjmgnfpcieofkaa
