/- opcode: a request's bytes. -/
import Derived.Test.YtgkofpfjbjnhfaaOpc6
import Derived.Test.YtgkofpfjbjnhfaaSlice2
namespace Go.Proofs.Ytgkofpfjbjnhfaa
open Go.ChangeShapes Go.WideShapes Go.ChangeAt Go.RowKit
set_option linter.unusedVariables false
set_option linter.unusedSimpArgs false

def formD (c : UInt8) : Form := (formOf c).getD ⟨0, 0, 0, 0⟩
theorem formD_small (c : UInt8) : (formD c).kind ≤ 1 ∧ (formD c).size ≤ 4 := by
  unfold formD
  cases h : formOf c with
  | none => simp
  | some f => have := formOf_small h; exact ⟨this.1, this.2.1⟩
theorem formD_look (c : UInt8) : ((findN c.toNat formsE 0).map Prod.snd).getD (.agg zf) = .agg (formCells (formD c)) := by
  rw [findN_look]
  unfold formD
  cases formOf c with
  | none => simp [formCells, iv]
  | some f => rfl
def encBytes (q : ReqS) : List UInt8 := ([q.op] ++ (if (formD q.op).kind = 0 then [] else [q.type])) ++ (wordB q.size).take (formD q.op).size ++ q.data
def encOk (q : ReqS) : Bool := decide (reqErr (encBytes q) = 0) && reqSame (reqGot (encBytes q)) q
def OEncEnd (q : ReqS) (w : World) (e : Ending) (w' : World) : Prop := ∃ out, e = .returned (.tuple #[out, .int .i64 (if encOk q then 0 else 1)]) ∧ (ownR out (if encOk q then encBytes q else []) * all w).on w' ∧ Str w w'

theorem IsWords.one (w : World) (n : Nat) (h : n < 4294967296) (t : TypeId) : IsWords (w.alloc (.cells #[u32v n] t)) (.slice (some ⟨w.heap.size, 0, Option.none⟩) 1 1) [n] :=
  ⟨_, _, rfl, Nat.le_refl _, by decide, Lay.new w [u32v n] t, fun h => (nomatch h), fun m hm => by simp at hm; omega⟩
theorem numsB_one (n : Nat) : numsB [n] = wordB n := by simp [numsB]

set_option maxRecDepth 100000 in
set_option maxHeartbeats 16000000 in
theorem oencode_any (q : ReqS) (dv : Value) (w : World) (hsz : q.size < 4294967296) (h : IsBytes w dv q.data) (hlen : q.data.length ≤ 100000) :
    Calls Try.prog 51 #[.agg (reqCells q dv)] w (OEncEnd q w) := by
  have huq := Try.underlying92
  have hsq : (Try.prog.info? 92).map (·.size) = some 4 := by kernel_rfl
  have hsf : (Try.prog.info? 102).map (·.size) = some 4 := by kernel_rfl
  have hu := Try.underlying28
  have htm := Try.underlying103
  have hk8 := Try.underlying5
  have hz : ∀ w, (zeroValue 102).run Try.prog w = .ok (.agg zf) w := fun w => by kernel_rfl
  have Hd := hide h
  obtain ⟨da, dc, rfl, hdc, hdm, _, _⟩ := h
  unfold maxLen at hdm
  have hw0 := (on_all w).alloc (.cells (reqCells q (.slice da q.data.length dc)) 92)
  have c0 : (w.alloc (.cells (reqCells q (.slice da q.data.length dc)) 92)).cell? ⟨w.heap.size, 0, Option.none⟩ = some (vb q.op) := cell_of_row _ _ 0 _ _ _ (on_blk_mul hw0)
  have C0 : Hid (∀ X, Stay (w.alloc (.cells (reqCells q (.slice da q.data.length dc)) 92)) X → X.cell? ⟨w.heap.size, 0, Option.none⟩ = some (vb q.op)) := hide fun X hT => (hT.cell (p := ⟨w.heap.size, 0, Option.none⟩) (World.block_lt_of_cell? _ _ c0)).trans c0
  have Hw0 := hide hw0
  have Hs0 := hide ((Str.refl w).alloc (.cells (reqCells q (.slice da q.data.length dc)) 92))
  have Hlk := hide (formD_look q.op)
  obtain ⟨f1, f2⟩ := formD_small q.op
  have HEB := hide (show encBytes q = ([q.op] ++ (if (formD q.op).kind = 0 then [] else [q.type])) ++ (wordB q.size).take (formD q.op).size ++ q.data from rfl)
  generalize formD q.op = fo at *
  clear hw0 c0
  go_enter Try.func51, Try.ntmps51
  go_wp2_with fail
  refine wp_region_tail 5 [fun v X => ∃ m, v = .map (some m) ∧ (mapB m formsE).on X, isV (.pointer (some ⟨w.heap.size, 0, Option.none⟩)), isV (vb q.op), isV (.agg (formCells fo)), fun v X => ∃ g, v = .pointer (some ⟨g, 0, Option.none⟩) ∧ (blk g (.cells zf 102 (0, 0)) * (blk w.heap.size (.cells (reqCells q (.slice da q.data.length dc)) 92 (0, 0)) * all w)).on X]
    (by simp only [List.take_succ_cons, List.take_zero]; rfl) (by simp only [List.drop_succ_cons, List.drop_zero]; rfl) (by kernel_rfl) (by kernel_rfl) (by kernel_rfl) (by decide) rfl ?keep ?todo ?rest
  case keep => exact ⟨fun _ _ _ ⟨m, h1, h2⟩ k => ⟨m, h1, SP.on.below h2 k⟩, Keep.isV _, Keep.isV _, Keep.isV _, fun _ _ _ ⟨g, h0, h2⟩ k => ⟨g, h0, SP.on.below h2 k⟩, trivial⟩
  case todo =>
    refine ⟨?_, ?_, ?_, ?_, ?_, trivial⟩
    · intro ev X hT hb hk hf
      refine OpOk.enters (f := 61) (args := #[]) (W' := X) (by simp [execOp, resolve, invoke, hb.2.1, go_sem]) ((forms_any X).mono ?_)
      rintro e X2 ⟨m, rfl, h3, h4⟩
      exact ⟨_, rfl, ⟨m, rfl, h3.left⟩, all_below h3.right h4⟩
    · intro ev X hT hb hk hf
      have e0 : ev (.tmp 1) = .pointer (some ⟨w.heap.size, 0, Option.none⟩) := hk.1
      exact OpOk.run (v := .pointer (some ⟨w.heap.size, 0, Option.none⟩)) (W' := X) (by simp [execOp, e0, hb.1, go_sem]) ⟨rfl, Stay.refl _⟩
    · intro ev X hT hb hk hf
      have e0 : ev (.tmp 9) = .pointer (some ⟨w.heap.size, 0, Option.none⟩) := hf.1
      have cW := C0.out X hT
      exact OpOk.run (v := vb q.op) (W' := X) (by simp [execOp, e0, cW, go_sem]) ⟨rfl, Stay.refl _⟩
    · intro ev X hT hb hk hf
      have e0 := hf.1
      have e1 : ev (.tmp 10) = vb q.op := hf.2.1
      obtain ⟨m, em0, hm⟩ := e0
      have em : ev (.tmp 8) = .map (some m) := em0
      have hl := run_lookup_sp (P := Try.prog) (w := X) _ _ _ htm hk8 (.agg zf) (hz X) m formsE hm q.op.toNat false
      rw [Hlk.out] at hl
      exact OpOk.run (v := .agg (formCells fo)) (W' := X) (by have hl2 : (Instr.lookup 103 (.map (some m)) (.int .u8 (q.op.toNat : Int)) false).run Try.prog X = .ok (.agg (formCells fo)) X := hl; simp [execOp, em, e1, hl2, go_sem]) ⟨rfl, Stay.refl _⟩
    · intro ev X hT hb hk hf
      exact OpOk.run (v := .pointer (some ⟨X.heap.size, 0, Option.none⟩)) (W' := X.alloc (.cells zf 102)) (by simp [execOp, go_sem]) ⟨⟨_, rfl, (Hw0.out.below hT).alloc _⟩, (Below.refl _ _).alloc (Nat.le_refl _) _⟩
  case rest =>
    intro X hT
    rintro v0 - _ rfl _ rfl _ rfl _ ⟨g, rfl, hg⟩
    have hgr := on_blk_mul hg
    have h3 := hg.setRow (formCells fo)
    have hs3 := (Hs0.out.trans (Str.below hT)).setRow g (formCells fo)
    clear hT hg C0
    generalize hW3 : X.setRow g (formCells fo) = w3 at *
    have HW3 := hide hW3
    obtain ⟨K, S, Lm, M⟩ := fo
    obtain ⟨k0, k1, _, _⟩ := formBox (on_blk_mul h3)
    simp only at f1 f2
    have q0 : w3.cell? ⟨w.heap.size, 0, Option.none⟩ = some (vb q.op) := cell_of_row _ _ 0 _ _ _ (on_blk_mul h3.right)
    have H3 := hide h3
    have Hs3 := hide hs3
    clear hW3 h3 hs3 htm hk8 hz
    go_wp2
    refine Rest.done ?_
    rcases (show K = 0 ∨ K = 1 by omega) with hK | hK
    all_goals subst hK
    · have hp := own_new 5 1 1 (vbs [q.op]) H3.out rfl (by decide)
      have hv1 : (vbs [q.op]).toArray = #[vb q.op] := rfl
      rw [hv1] at hp
      have hsp := Hs3.out.alloc (.cells #[vb q.op] 5)
      obtain ⟨k0a, k1a, _, _⟩ := formBox (on_blk_mul hp.right)
      have HHp := hide hp
      have HHs := hide hsp
      clear hv1 hp hsp
      go_wp2_with (refine wpList_store_row rfl _ _ _ rfl g (formCells ⟨0, S, Lm, M⟩) rfl rfl _ _ hgr hsf (zf_size _) (zf_one _) ?_; rw [HW3.out])
      generalize w3.alloc (.cells #[vb q.op] 5) = wp at *
      have hp : (ownR (.slice (some ⟨w3.heap.size, 0, Option.none⟩) 1 1) [q.op] * (blk g (.cells (formCells ⟨0, S, Lm, M⟩) 102 (0, 0)) * (blk w.heap.size (.cells (reqCells q (.slice da q.data.length dc)) 92 (0, 0)) * all w))).on wp := HHp.out
      have hsp := HHs.out
      generalize hpre : [q.op] = pre at hp
      have Hpre := hide hpre
      have hpl : pre.length ≤ 2 := by rw [← hpre]; simp
      generalize hv5 : Value.slice (some ⟨w3.heap.size, 0, Option.none⟩) 1 1 = v5 at *
      clear hpre hv5 HHp HHs k0a k1a
      obtain ⟨pa, pc, rfl, _, _, _, _⟩ := own_value hp
      have z2 : wp.cell? ⟨w.heap.size, 2, Option.none⟩ = some (u32v q.size) := cell_of_row _ _ 2 _ _ _ (on_blk_mul hp.right.right)
      obtain ⟨_, kS, _, _⟩ := formBox (on_blk_mul hp.right)
      have CZ : Hid (∀ X', Stay wp X' → X'.cell? ⟨w.heap.size, 2, Option.none⟩ = some (u32v q.size)) := hide fun X' hT => (hT.cell (p := ⟨w.heap.size, 2, Option.none⟩) (World.block_lt_of_cell? wp _ z2)).trans z2
      have CS : Hid (∀ X', Stay wp X' → X'.cell? ⟨g, 1, Option.none⟩ = some (iv S)) := hide fun X' hT => (hT.cell (p := ⟨g, 1, Option.none⟩) (World.block_lt_of_cell? wp _ kS)).trans kS
      have Hp := hide hp
      have Hsp := hide hsp
      clear z2 kS hp hsp
      refine wp_region_tail 8 [isV (.slice pa pre.length pc), isV (.pointer (some ⟨w.heap.size, 2, Option.none⟩)), isV (u32v q.size), fun v X => IsWords X v [q.size], fun v X => IsBytes X v (wordB q.size), isV (.pointer (some ⟨g, 1, Option.none⟩)), isV (iv S), fun v X => IsBytes X v ((wordB q.size).take S)]
        (by simp only [List.take_succ_cons, List.take_zero]; rfl) (by simp only [List.drop_succ_cons, List.drop_zero]; rfl) (by kernel_rfl) (by kernel_rfl) (by kernel_rfl) (by decide) rfl ?keep ?todo ?rest
      case keep => exact ⟨Keep.isV _, Keep.isV _, Keep.isV _, fun _ _ _ h k => IsWords.below h k, fun _ _ _ h k => IsBytes.below h k, Keep.isV _, Keep.isV _, fun _ _ _ h k => IsBytes.below h k, trivial⟩
      case todo =>
        refine ⟨?_, ?_, ?_, ?_, ?_, ?_, ?_, ?_, trivial⟩
        · intro ev X' hT hb hk hf
          have e0 : ev (.tmp 5) = .slice pa pre.length pc := hk.1
          exact OpOk.move rfl e0 ⟨rfl, Stay.refl _⟩
        · intro ev X' hT hb hk hf
          have e0 : ev (.tmp 1) = .pointer (some ⟨w.heap.size, 0, Option.none⟩) := hk.1
          exact OpOk.run (v := .pointer (some ⟨w.heap.size, 2, Option.none⟩)) (W' := X') (by simp [execOp, e0, hb.1, go_sem]) ⟨rfl, Stay.refl _⟩
        · intro ev X' hT hb hk hf
          have e0 : ev (.tmp 24) = .pointer (some ⟨w.heap.size, 2, Option.none⟩) := hf.1
          have cW := CZ.out X' hT
          exact OpOk.run (v := u32v q.size) (W' := X') (by simp [execOp, e0, cW, go_sem]) ⟨rfl, Stay.refl _⟩
        · intro ev X' hT hb hk hf
          have e0 : ev (.tmp 25) = u32v q.size := hf.1
          exact OpOk.run (v := .slice (some ⟨X'.heap.size, 0, Option.none⟩) 1 1) (W' := X'.alloc (.cells #[u32v q.size] 27)) (by simp [execOp, e0, go_sem]) ⟨IsWords.one X' _ hsz _, (Below.refl _ _).alloc (Nat.le_refl _) _⟩
        · intro ev X' hT hb hk hf
          have e0 := hf.1
          have e0' : IsWords X' (ev (.tmp 26)) [q.size] := e0
          refine OpOk.enters (f := 62) (args := #[ev (.tmp 26)]) (W' := X') (by simp [execOp, resolve, invoke, hb.2.1, go_sem]) ((numbers_any _ _ X' e0' (by simp)).mono ?_)
          rintro e X2 ⟨v', rfl, h4, h5⟩
          rw [numsB_one] at h4
          exact ⟨_, rfl, own_bytes h4, all_below h4.right h5⟩
        · intro ev X' hT hb hk hf
          have e0 : ev (.tmp 4) = .pointer (some ⟨g, 0, Option.none⟩) := hk.1
          exact OpOk.run (v := .pointer (some ⟨g, 1, Option.none⟩)) (W' := X') (by simp [execOp, e0, hb.1, go_sem]) ⟨rfl, Stay.refl _⟩
        · intro ev X' hT hb hk hf
          have e0 : ev (.tmp 28) = .pointer (some ⟨g, 1, Option.none⟩) := hf.1
          have cW := CS.out X' hT
          exact OpOk.run (v := iv S) (W' := X') (by simp [execOp, e0, cW, go_sem]) ⟨rfl, Stay.refl _⟩
        · intro ev X' hT hb hk hf
          have e0 := hf.1
          have e1 : ev (.tmp 29) = iv S := hf.2.1
          have e0' : IsBytes X' (ev (.tmp 27)) (wordB q.size) := e0
          obtain ⟨v', hrun, hv'⟩ := run_slice_to (P := Try.prog) e0' S (by rw [wordB_len]; omega) _ _ hu infoR
          exact OpOk.run (v := v') (W' := X') (by simp [execOp, e1, hrun]) ⟨hv' _ e0', Stay.refl _⟩
      case rest =>
        intro X5 hT
        rintro _ rfl _ rfl _ rfl v3 - v4 - _ rfl _ rfl v7 h7
        have Hp5 := hide (Hp.out.below hT)
        have Hs5 := hide (Hsp.out.trans (Str.below hT))
        have H7 := hide (show IsBytes X5 v7 ((wordB q.size).take S) from h7)
        have hl7 : ((wordB q.size).take S).length ≤ 4 := by rw [List.length_take]; omega
        clear hT h7 CZ CS
        go_wp2
        refine Rest.done ?_
        have HE2 := hide (show (pre ++ (wordB q.size).take S) ++ q.data = encBytes q by rw [HEB.out, ← Hpre.out]; simp)
        have hbl : (encBytes q).length ≤ 200000 := by rw [← HE2.out]; simp only [List.length_append]; omega
        generalize (wordB q.size).take S = tk at *
        clear HEB
        obtain ⟨p2, hp2⟩ : ∃ p2, pre ++ tk = p2 := ⟨_, rfl⟩
        have hp2l : p2.length ≤ 6 := by rw [← hp2, List.length_append]; omega
        have HE3 : Hid (p2 ++ q.data = encBytes q) := hide (by rw [← hp2]; exact HE2.out)
        have Hp2 := hide hp2
        clear hp2
        go_wp2_with (first
          | (at_builtin; refine wpList_append_bytes (F := (blk g (.cells (formCells ⟨0, S, Lm, M⟩) 102 (0, 0)) * (blk w.heap.size (.cells (reqCells q (.slice da q.data.length dc)) 92 (0, 0)) * all w))) rfl _ _ 28 rfl 5 hu infoR _ p2 q.data rfl Ho1.out _ rfl Hd9.out (by omega) ?_; intro v10 w10 ho hs; rw [HE3.out] at ho; have Ho2 := hide ho; have Hs10 := hide (Hs9.out.trans hs); have hP := oparse_any _ _ w10 (own_bytes ho) (by omega); obtain ⟨xa, xc, rfl, _, _, _, _⟩ := own_value ho; clear ho hs)
          | (at_builtin; refine wpList_append_bytes (F := (blk g (.cells (formCells ⟨0, S, Lm, M⟩) 102 (0, 0)) * (blk w.heap.size (.cells (reqCells q (.slice da q.data.length dc)) 92 (0, 0)) * all w))) rfl _ _ 28 rfl 5 hu infoR _ pre tk rfl Hp5.out _ rfl H7.out (by omega) ?_; intro v9 w9 ho hs; rw [Hp2.out] at ho; have Ho1 := hide ho; have Hs9 := hide (Hs5.out.trans hs); have c3 : w9.cell? ⟨w.heap.size, 3, Option.none⟩ = some (.slice da q.data.length dc) := cell_of_row _ _ 3 _ _ _ (on_blk_mul ho.right.right); have Hd9 := hide (Hd.out.below (all_below ho.right.right.right Hs9.out)); obtain ⟨ya, yc, rfl, _, _, _, _⟩ := own_value ho; clear ho hs))
        refine hP.mono ?_
        clear hP
        rintro e w11 ⟨dv, rfl, hdv, hs11⟩
        have h11 := on_all_to hdv Ho2.out
        obtain ⟨ea, ec, rfl, _, _, _, _⟩ := own_value hdv
        have hr11 := heap_alloc_new w11 (.cells zq 92)
        have h12 := (h11.alloc (.cells zq 92)).setRow (reqCells (reqGot (encBytes q)) (.slice ea (reqGot (encBytes q)).data.length ec))
        have hs12 := ((Hs10.out.trans hs11).alloc (.cells zq 92)).setRow w11.heap.size (reqCells (reqGot (encBytes q)) (.slice ea (reqGot (encBytes q)).data.length ec))
        clear h11 hdv hs11 Ho2 Hs10
        generalize hW12 : (w11.alloc (.cells zq 92)).setRow w11.heap.size (reqCells (reqGot (encBytes q)) (.slice ea (reqGot (encBytes q)).data.length ec)) = w12 at *
        have HW12 := hide hW12
        clear hW12
        have g6 := on_blk_mul h12
        have g1 := on_blk_mul h12.right.right.right.right
        have HB12 := hide (all_below h12.right.right.right.right.right hs12)
        have hS := osame_any (reqGot (encBytes q)) q _ _ w12 (own_bytes h12.right) (Hd.out.below HB12.out)
        have HN := hide h12.right.right
        have HO := hide (show encOk q = (decide (reqErr (encBytes q) = 0) && reqSame (reqGot (encBytes q)) q) from rfl)
        clear h12
        generalize reqErr (encBytes q) = z at *
        by_cases hz : z = 0
        · subst hz
          cases hb : reqSame (reqGot (encBytes q)) q with
          | true =>
            have HO2 := hide (show encOk q = true by rw [HO.out, hb]; rfl)
            rw [hb] at hS
            clear hb
            go_wp2_with (first
              | (refine wpList_store_row rfl _ _ _ rfl w11.heap.size (reqCells (reqGot (encBytes q)) _) rfl rfl _ _ hr11 hsq (zq_size _ _) (req_one _ _ _ _) ?_; rw [HW12.out])
              | (refine wpList_load_row_g rfl _ _ rfl w11.heap.size rfl _ (reqCells (reqGot (encBytes q)) _) _ _ g6 huq rfl hsq ?_)
              | (refine wpList_load_row_g rfl _ _ rfl w.heap.size rfl _ (reqCells q _) _ _ g1 huq rfl hsq ?_))
            refine hS.mono ?_
            clear hS
            rintro e w13 ⟨rfl, hb13⟩
            go_wp2_with fail
            go_ret2
            refine ⟨.slice xa (encBytes q).length xc, by rw [HO2.out]; rfl, ?_, hs12.trans (Str.below hb13)⟩
            rw [HO2.out]
            exact (SP.le.mul (SP.le.refl _) ((SP.le_right _ _).trans (SP.le_right _ _))).on (HN.out.below hb13)
          | false =>
            have HO2 := hide (show encOk q = false by rw [HO.out, hb]; simp)
            rw [hb] at hS
            clear hb
            go_wp2_with (first
              | (refine wpList_store_row rfl _ _ _ rfl w11.heap.size (reqCells (reqGot (encBytes q)) _) rfl rfl _ _ hr11 hsq (zq_size _ _) (req_one _ _ _ _) ?_; rw [HW12.out])
              | (refine wpList_load_row_g rfl _ _ rfl w11.heap.size rfl _ (reqCells (reqGot (encBytes q)) _) _ _ g6 huq rfl hsq ?_)
              | (refine wpList_load_row_g rfl _ _ rfl w.heap.size rfl _ (reqCells q _) _ _ g1 huq rfl hsq ?_))
            refine hS.mono ?_
            clear hS
            rintro e w13 ⟨rfl, hb13⟩
            go_wp2_with fail
            go_ret2
            refine ⟨.slice Option.none 0 0, by rw [HO2.out]; rfl, ?_, hs12.trans (Str.below hb13)⟩
            rw [HO2.out]
            exact own_nil _ _ ((on_all w).below (HB12.out.trans (hb13.mono HB12.out.size)))
        · have hzn : (((z : Nat) : Int) != 0) = true := by simp; omega
          have HO2 := hide (show encOk q = false by rw [HO.out]; simp [hz])
          clear hz hS
          go_wp2_with (refine wpList_store_row rfl _ _ _ rfl w11.heap.size (reqCells (reqGot (encBytes q)) _) rfl rfl _ _ hr11 hsq (zq_size _ _) (req_one _ _ _ _) ?_; rw [HW12.out])
          go_ret2
          refine ⟨.slice Option.none 0 0, by rw [HO2.out]; rfl, ?_, hs12⟩
          rw [HO2.out]
          exact own_nil _ _ ((on_all w).below HB12.out)
    · have hp := own_new 5 1 1 (vbs [q.op]) H3.out rfl (by decide)
      have hv1 : (vbs [q.op]).toArray = #[vb q.op] := rfl
      rw [hv1] at hp
      have hsp := Hs3.out.alloc (.cells #[vb q.op] 5)
      obtain ⟨k0a, k1a, _, _⟩ := formBox (on_blk_mul hp.right)
      have t1 : (w3.alloc (.cells #[vb q.op] 5)).cell? ⟨w.heap.size, 1, Option.none⟩ = some (vb q.type) := cell_of_row _ _ 1 _ _ _ (on_blk_mul hp.right.right)
      have hnt := IsBytes.new (w3.alloc (.cells #[vb q.op] 5)) [q.type] (by simp [maxLen]) 5
      rw [World.size_alloc] at hnt
      have Hnt : Hid (IsBytes ((w3.alloc (.cells #[vb q.op] 5)).alloc (.cells #[vb q.type] 5)) (.slice (some ⟨w3.heap.size + 1, 0, Option.none⟩) 1 1) [q.type]) := hide hnt
      clear hnt
      obtain ⟨pre, hpre⟩ : ∃ pre, [q.op] ++ [q.type] = pre := ⟨_, rfl⟩
      have hpl : pre.length ≤ 2 := by rw [← hpre]; simp
      have Hpre := hide hpre
      clear hpre
      have HHp := hide hp
      have HHs := hide hsp
      clear hv1 hp hsp
      go_wp2_with (first
        | (refine wpList_store_row rfl _ _ _ rfl g (formCells ⟨1, S, Lm, M⟩) rfl rfl _ _ hgr hsf (zf_size _) (zf_one _) ?_; rw [HW3.out])
        | (at_builtin; refine wpList_append_bytes (F := (blk g (.cells (formCells ⟨1, S, Lm, M⟩) 102 (0, 0)) * (blk w.heap.size (.cells (reqCells q (.slice da q.data.length dc)) 92 (0, 0)) * all w))) rfl _ _ 28 rfl 5 hu infoR _ [q.op] [q.type] rfl (HHp.out.alloc' _) _ rfl Hnt.out (by show 1 + 1 ≤ 140737488355328; omega) ?_; intro v5 wp ho hs; have hsp := (HHs.out.alloc _).trans hs; rw [Hpre.out] at ho; have hp : (ownR v5 pre * (blk g (.cells (formCells ⟨1, S, Lm, M⟩) 102 (0, 0)) * (blk w.heap.size (.cells (reqCells q (.slice da q.data.length dc)) 92 (0, 0)) * all w))).on wp := ho; clear ho hs HHp HHs k0a k1a t1))
      obtain ⟨pa, pc, rfl, _, _, _, _⟩ := own_value hp
      have z2 : wp.cell? ⟨w.heap.size, 2, Option.none⟩ = some (u32v q.size) := cell_of_row _ _ 2 _ _ _ (on_blk_mul hp.right.right)
      obtain ⟨_, kS, _, _⟩ := formBox (on_blk_mul hp.right)
      have CZ : Hid (∀ X', Stay wp X' → X'.cell? ⟨w.heap.size, 2, Option.none⟩ = some (u32v q.size)) := hide fun X' hT => (hT.cell (p := ⟨w.heap.size, 2, Option.none⟩) (World.block_lt_of_cell? wp _ z2)).trans z2
      have CS : Hid (∀ X', Stay wp X' → X'.cell? ⟨g, 1, Option.none⟩ = some (iv S)) := hide fun X' hT => (hT.cell (p := ⟨g, 1, Option.none⟩) (World.block_lt_of_cell? wp _ kS)).trans kS
      have Hp := hide hp
      have Hsp := hide hsp
      clear z2 kS hp hsp
      refine wp_region_tail 8 [isV (.slice pa pre.length pc), isV (.pointer (some ⟨w.heap.size, 2, Option.none⟩)), isV (u32v q.size), fun v X => IsWords X v [q.size], fun v X => IsBytes X v (wordB q.size), isV (.pointer (some ⟨g, 1, Option.none⟩)), isV (iv S), fun v X => IsBytes X v ((wordB q.size).take S)]
        (by simp only [List.take_succ_cons, List.take_zero]; rfl) (by simp only [List.drop_succ_cons, List.drop_zero]; rfl) (by kernel_rfl) (by kernel_rfl) (by kernel_rfl) (by decide) rfl ?keep ?todo ?rest
      case keep => exact ⟨Keep.isV _, Keep.isV _, Keep.isV _, fun _ _ _ h k => IsWords.below h k, fun _ _ _ h k => IsBytes.below h k, Keep.isV _, Keep.isV _, fun _ _ _ h k => IsBytes.below h k, trivial⟩
      case todo =>
        refine ⟨?_, ?_, ?_, ?_, ?_, ?_, ?_, ?_, trivial⟩
        · intro ev X' hT hb hk hf
          have e0 : ev (.tmp 5) = .slice pa pre.length pc := hk.1
          exact OpOk.move rfl e0 ⟨rfl, Stay.refl _⟩
        · intro ev X' hT hb hk hf
          have e0 : ev (.tmp 1) = .pointer (some ⟨w.heap.size, 0, Option.none⟩) := hk.1
          exact OpOk.run (v := .pointer (some ⟨w.heap.size, 2, Option.none⟩)) (W' := X') (by simp [execOp, e0, hb.1, go_sem]) ⟨rfl, Stay.refl _⟩
        · intro ev X' hT hb hk hf
          have e0 : ev (.tmp 24) = .pointer (some ⟨w.heap.size, 2, Option.none⟩) := hf.1
          have cW := CZ.out X' hT
          exact OpOk.run (v := u32v q.size) (W' := X') (by simp [execOp, e0, cW, go_sem]) ⟨rfl, Stay.refl _⟩
        · intro ev X' hT hb hk hf
          have e0 : ev (.tmp 25) = u32v q.size := hf.1
          exact OpOk.run (v := .slice (some ⟨X'.heap.size, 0, Option.none⟩) 1 1) (W' := X'.alloc (.cells #[u32v q.size] 27)) (by simp [execOp, e0, go_sem]) ⟨IsWords.one X' _ hsz _, (Below.refl _ _).alloc (Nat.le_refl _) _⟩
        · intro ev X' hT hb hk hf
          have e0 := hf.1
          have e0' : IsWords X' (ev (.tmp 26)) [q.size] := e0
          refine OpOk.enters (f := 62) (args := #[ev (.tmp 26)]) (W' := X') (by simp [execOp, resolve, invoke, hb.2.1, go_sem]) ((numbers_any _ _ X' e0' (by simp)).mono ?_)
          rintro e X2 ⟨v', rfl, h4, h5⟩
          rw [numsB_one] at h4
          exact ⟨_, rfl, own_bytes h4, all_below h4.right h5⟩
        · intro ev X' hT hb hk hf
          have e0 : ev (.tmp 4) = .pointer (some ⟨g, 0, Option.none⟩) := hk.1
          exact OpOk.run (v := .pointer (some ⟨g, 1, Option.none⟩)) (W' := X') (by simp [execOp, e0, hb.1, go_sem]) ⟨rfl, Stay.refl _⟩
        · intro ev X' hT hb hk hf
          have e0 : ev (.tmp 28) = .pointer (some ⟨g, 1, Option.none⟩) := hf.1
          have cW := CS.out X' hT
          exact OpOk.run (v := iv S) (W' := X') (by simp [execOp, e0, cW, go_sem]) ⟨rfl, Stay.refl _⟩
        · intro ev X' hT hb hk hf
          have e0 := hf.1
          have e1 : ev (.tmp 29) = iv S := hf.2.1
          have e0' : IsBytes X' (ev (.tmp 27)) (wordB q.size) := e0
          obtain ⟨v', hrun, hv'⟩ := run_slice_to (P := Try.prog) e0' S (by rw [wordB_len]; omega) _ _ hu infoR
          exact OpOk.run (v := v') (W' := X') (by simp [execOp, e1, hrun]) ⟨hv' _ e0', Stay.refl _⟩
      case rest =>
        intro X5 hT
        rintro _ rfl _ rfl _ rfl v3 - v4 - _ rfl _ rfl v7 h7
        have Hp5 := hide (Hp.out.below hT)
        have Hs5 := hide (Hsp.out.trans (Str.below hT))
        have H7 := hide (show IsBytes X5 v7 ((wordB q.size).take S) from h7)
        have hl7 : ((wordB q.size).take S).length ≤ 4 := by rw [List.length_take]; omega
        clear hT h7 CZ CS
        go_wp2
        refine Rest.done ?_
        have HE2 := hide (show (pre ++ (wordB q.size).take S) ++ q.data = encBytes q by rw [HEB.out, ← Hpre.out]; simp)
        have hbl : (encBytes q).length ≤ 200000 := by rw [← HE2.out]; simp only [List.length_append]; omega
        generalize (wordB q.size).take S = tk at *
        clear HEB
        obtain ⟨p2, hp2⟩ : ∃ p2, pre ++ tk = p2 := ⟨_, rfl⟩
        have hp2l : p2.length ≤ 6 := by rw [← hp2, List.length_append]; omega
        have HE3 : Hid (p2 ++ q.data = encBytes q) := hide (by rw [← hp2]; exact HE2.out)
        have Hp2 := hide hp2
        clear hp2
        go_wp2_with (first
          | (at_builtin; refine wpList_append_bytes (F := (blk g (.cells (formCells ⟨1, S, Lm, M⟩) 102 (0, 0)) * (blk w.heap.size (.cells (reqCells q (.slice da q.data.length dc)) 92 (0, 0)) * all w))) rfl _ _ 28 rfl 5 hu infoR _ p2 q.data rfl Ho1.out _ rfl Hd9.out (by omega) ?_; intro v10 w10 ho hs; rw [HE3.out] at ho; have Ho2 := hide ho; have Hs10 := hide (Hs9.out.trans hs); have hP := oparse_any _ _ w10 (own_bytes ho) (by omega); obtain ⟨xa, xc, rfl, _, _, _, _⟩ := own_value ho; clear ho hs)
          | (at_builtin; refine wpList_append_bytes (F := (blk g (.cells (formCells ⟨1, S, Lm, M⟩) 102 (0, 0)) * (blk w.heap.size (.cells (reqCells q (.slice da q.data.length dc)) 92 (0, 0)) * all w))) rfl _ _ 28 rfl 5 hu infoR _ pre tk rfl Hp5.out _ rfl H7.out (by omega) ?_; intro v9 w9 ho hs; rw [Hp2.out] at ho; have Ho1 := hide ho; have Hs9 := hide (Hs5.out.trans hs); have c3 : w9.cell? ⟨w.heap.size, 3, Option.none⟩ = some (.slice da q.data.length dc) := cell_of_row _ _ 3 _ _ _ (on_blk_mul ho.right.right); have Hd9 := hide (Hd.out.below (all_below ho.right.right.right Hs9.out)); obtain ⟨ya, yc, rfl, _, _, _, _⟩ := own_value ho; clear ho hs))
        refine hP.mono ?_
        clear hP
        rintro e w11 ⟨dv, rfl, hdv, hs11⟩
        have h11 := on_all_to hdv Ho2.out
        obtain ⟨ea, ec, rfl, _, _, _, _⟩ := own_value hdv
        have hr11 := heap_alloc_new w11 (.cells zq 92)
        have h12 := (h11.alloc (.cells zq 92)).setRow (reqCells (reqGot (encBytes q)) (.slice ea (reqGot (encBytes q)).data.length ec))
        have hs12 := ((Hs10.out.trans hs11).alloc (.cells zq 92)).setRow w11.heap.size (reqCells (reqGot (encBytes q)) (.slice ea (reqGot (encBytes q)).data.length ec))
        clear h11 hdv hs11 Ho2 Hs10
        generalize hW12 : (w11.alloc (.cells zq 92)).setRow w11.heap.size (reqCells (reqGot (encBytes q)) (.slice ea (reqGot (encBytes q)).data.length ec)) = w12 at *
        have HW12 := hide hW12
        clear hW12
        have g6 := on_blk_mul h12
        have g1 := on_blk_mul h12.right.right.right.right
        have HB12 := hide (all_below h12.right.right.right.right.right hs12)
        have hS := osame_any (reqGot (encBytes q)) q _ _ w12 (own_bytes h12.right) (Hd.out.below HB12.out)
        have HN := hide h12.right.right
        have HO := hide (show encOk q = (decide (reqErr (encBytes q) = 0) && reqSame (reqGot (encBytes q)) q) from rfl)
        clear h12
        generalize reqErr (encBytes q) = z at *
        by_cases hz : z = 0
        · subst hz
          cases hb : reqSame (reqGot (encBytes q)) q with
          | true =>
            have HO2 := hide (show encOk q = true by rw [HO.out, hb]; rfl)
            rw [hb] at hS
            clear hb
            go_wp2_with (first
              | (refine wpList_store_row rfl _ _ _ rfl w11.heap.size (reqCells (reqGot (encBytes q)) _) rfl rfl _ _ hr11 hsq (zq_size _ _) (req_one _ _ _ _) ?_; rw [HW12.out])
              | (refine wpList_load_row_g rfl _ _ rfl w11.heap.size rfl _ (reqCells (reqGot (encBytes q)) _) _ _ g6 huq rfl hsq ?_)
              | (refine wpList_load_row_g rfl _ _ rfl w.heap.size rfl _ (reqCells q _) _ _ g1 huq rfl hsq ?_))
            refine hS.mono ?_
            clear hS
            rintro e w13 ⟨rfl, hb13⟩
            go_wp2_with fail
            go_ret2
            refine ⟨.slice xa (encBytes q).length xc, by rw [HO2.out]; rfl, ?_, hs12.trans (Str.below hb13)⟩
            rw [HO2.out]
            exact (SP.le.mul (SP.le.refl _) ((SP.le_right _ _).trans (SP.le_right _ _))).on (HN.out.below hb13)
          | false =>
            have HO2 := hide (show encOk q = false by rw [HO.out, hb]; simp)
            rw [hb] at hS
            clear hb
            go_wp2_with (first
              | (refine wpList_store_row rfl _ _ _ rfl w11.heap.size (reqCells (reqGot (encBytes q)) _) rfl rfl _ _ hr11 hsq (zq_size _ _) (req_one _ _ _ _) ?_; rw [HW12.out])
              | (refine wpList_load_row_g rfl _ _ rfl w11.heap.size rfl _ (reqCells (reqGot (encBytes q)) _) _ _ g6 huq rfl hsq ?_)
              | (refine wpList_load_row_g rfl _ _ rfl w.heap.size rfl _ (reqCells q _) _ _ g1 huq rfl hsq ?_))
            refine hS.mono ?_
            clear hS
            rintro e w13 ⟨rfl, hb13⟩
            go_wp2_with fail
            go_ret2
            refine ⟨.slice Option.none 0 0, by rw [HO2.out]; rfl, ?_, hs12.trans (Str.below hb13)⟩
            rw [HO2.out]
            exact own_nil _ _ ((on_all w).below (HB12.out.trans (hb13.mono HB12.out.size)))
        · have hzn : (((z : Nat) : Int) != 0) = true := by simp; omega
          have HO2 := hide (show encOk q = false by rw [HO.out]; simp [hz])
          clear hz hS
          go_wp2_with (refine wpList_store_row rfl _ _ _ rfl w11.heap.size (reqCells (reqGot (encBytes q)) _) rfl rfl _ _ hr11 hsq (zq_size _ _) (req_one _ _ _ _) ?_; rw [HW12.out])
          go_ret2
          refine ⟨.slice Option.none 0 0, by rw [HO2.out]; rfl, ?_, hs12⟩
          rw [HO2.out]
          exact own_nil _ _ ((on_all w).below HB12.out)
end Go.Proofs.Ytgkofpfjbjnhfaa
