/- The Go functions of opcode: answers, and numbers as bytes. -/
import Derived.Test.YtgkofpfjbjnhfaaOpc2
namespace Go.Proofs.Ytgkofpfjbjnhfaa
open Go.ChangeShapes Go.WideShapes Go.ChangeAt Go.RowKit
set_option linter.unusedVariables false
set_option linter.unusedSimpArgs false

structure AnsS where
  op : UInt8
  result : UInt8
  data : List UInt8
abbrev respCells (q : AnsS) (dv : Value) : Array Value := #[vb q.op, vb q.result, dv]
def zeroA : AnsS := ⟨0, 0, []⟩
abbrev za : Array Value := #[.int .u8 0, .int .u8 0, nilV]
theorem za_eq : respCells zeroA nilV = za := by simp [respCells, zeroA, vb]
theorem za_one : za.all (·.oneCell') = true := by simp [Value.oneCell']
theorem za_size (q : AnsS) (v : Value) : za.size = (respCells q v).size := (show za.size = 3 from rfl).trans (show (respCells q v).size = 3 from rfl).symm
theorem resp_one (q : AnsS) (a : Option Addr) (n c : Nat) : (respCells q (.slice a n c)).all (·.oneCell') = true := by simp [Value.oneCell', vb]
theorem respBox {w' : World} {b : Nat} {q : AnsS} {v : Value} {t : TypeId} (h : w'.heap[b]? = some (.cells (respCells q v) t)) :
    w'.cell? ⟨b, 0, Option.none⟩ = some (vb q.op) ∧ w'.cell? ⟨b, 1, Option.none⟩ = some (vb q.result) ∧ w'.cell? ⟨b, 2, Option.none⟩ = some v := by
  refine ⟨?_, ?_, ?_⟩ <;> (rw [cell_of_row _ _ _ _ _ _ h]; rfl)

def ansBytes (q : AnsS) : List UInt8 := 96 :: q.op :: q.result :: q.data
def ansErr : List UInt8 → Nat
  | x :: _ :: _ :: _ => if x = 96 then 0 else 7
  | _ => 18
def ansGot : List UInt8 → AnsS
  | x :: y :: z :: t => if x = 96 then ⟨y, z, t⟩ else zeroA
  | _ => zeroA
def AnsEnd (b : List UInt8) (w : World) (e : Ending) (w' : World) : Prop := ∃ dv, e = .returned (.tuple #[.agg (respCells (ansGot b) dv), .int .i64 (ansErr b : Nat)]) ∧ (ownR dv (ansGot b).data * all w).on w' ∧ Str w w'
theorem AnsEnd.err {b : List UInt8} {w w' : World} {z : Nat} (he : ansErr b = z) (hg : ansGot b = zeroA) (hb : Below w.heap.size w w') (z' : Int) (hz' : z' = (z : Nat)) : AnsEnd b w (.returned (.tuple #[.agg za, .int .i64 z'])) w' := by
  refine ⟨nilV, ?_, ?_, Str.below hb⟩
  · rw [he, hg, za_eq, hz']
  · rw [hg]
    exact own_nil _ _ ((on_all w).below hb)

set_option maxRecDepth 100000 in
set_option maxHeartbeats 8000000 in
theorem answered_any (v : Value) (b : List UInt8) (w : World) (h : IsBytes w v b) (hlen : b.length ≤ 1000000) :
    Calls Try.prog 30 #[v] w (AnsEnd b w) := by
  have hua := Try.underlying68
  have hsa : (Try.prog.info? 68).map (·.size) = some 3 := by kernel_rfl
  have hr0 := heap_alloc_new w (.cells za 68)
  have hu := Try.underlying28
  by_cases hl : b.length < 3
  · have HE := hide (show ansErr b = 18 by match b, hl with | [], _ => rfl | [_], _ => rfl | [_, _], _ => rfl)
    have HG := hide (show ansGot b = zeroA by match b, hl with | [], _ => rfl | [_], _ => rfl | [_, _], _ => rfl)
    obtain ⟨a, cap, rfl, hc, hm, hla, hn⟩ := h
    clear hla hn hu
    go_enter Try.func30, Try.ntmps30
    go_wp2_with (refine wpList_store_row rfl _ _ _ rfl w.heap.size za rfl rfl _ _ hr0 hsa rfl za_one ?_)
    refine bodyPost_ret (v := .tuple #[.agg za, .int .i64 18]) (results_cell_row_tmp Try.results30 _ _ w.heap.size _ za (0, 0) _ rfl (setRow_heap_same _ _ _ _ _ _ hr0) hua rfl hsa (.int .i64 18) rfl) rfl ?_
    exact AnsEnd.err HE.out HG.out (below_setRow alloc1 (Nat.le_refl _) _) 18 rfl
  · obtain ⟨x, y, z, t, rfl⟩ : ∃ x y z t, b = x :: y :: z :: t := by
      match b, hl with
      | [], hl => exact absurd (by simp) hl
      | [_], hl => exact absurd (by simp) hl
      | [_, _], hl => exact absurd (by simp) hl
      | x :: y :: z :: t, _ => exact ⟨x, y, z, t, rfl⟩
    · skip
      have Hb := hide h
      obtain ⟨a, cap, rfl, hc, hm, hla, hn⟩ := h
      obtain ⟨bg, bo, rfl⟩ := Lay.isAddr hla 0 (by simp)
      have c0 := Lay.cell hla 0 (vbs_get _ 0 (by simp))
      have c1 := Lay.cell hla 1 (vbs_get _ 1 (by simp))
      have c2 := Lay.cell hla 2 (vbs_get _ 2 (by simp))
      simp only [List.getElem_cons_zero, List.getElem_cons_succ, Nat.add_zero] at c0 c1 c2
      have e3 : (x :: y :: z :: t).length = t.length + 3 := rfl
      rw [e3] at Hb hc hlen ⊢
      have C1 : Hid (∀ X, Stay (w.alloc (.cells za 68)) X → X.cell? ⟨bg, bo + 1, Option.none⟩ = some (vb y)) := hide fun X hT => ((alloc1.trans (hT.mono (by simp))).cell (p := ⟨bg, bo + 1, Option.none⟩) (World.block_lt_of_cell? w _ c1)).trans c1
      have C2 : Hid (∀ X, Stay (w.alloc (.cells za 68)) X → X.cell? ⟨bg, bo + 2, Option.none⟩ = some (vb z)) := hide fun X hT => ((alloc1.trans (hT.mono (by simp))).cell (p := ⟨bg, bo + 2, Option.none⟩) (World.block_lt_of_cell? w _ c2)).trans c2
      have c0' : (w.alloc (.cells za 68)).cell? ⟨bg, bo, Option.none⟩ = some (vb x) := (alloc1.cell (p := ⟨bg, bo, Option.none⟩) (World.block_lt_of_cell? w _ c0)).trans c0
      have H0 := hide ((on_all w).alloc (.cells za 68))
      have Hs0 := hide ((Str.refl w).alloc (.cells za 68))
      have Hb1 := hide (Hb.out.below (alloc1 (o := .cells za 68)))
      unfold maxLen at hm
      clear hla hn c0 c1 c2
      by_cases hx : x = 96
      · have HE := hide (show ansErr (x :: y :: z :: t) = 0 by simp [ansErr, hx])
        have HG := hide (show ansGot (x :: y :: z :: t) = ⟨y, z, t⟩ by simp [ansGot, hx])
        subst hx
        have q1 : (1 : Int) < (t.length : Int) + 3 := by omega
        have q2 : (2 : Int) < (t.length : Int) + 3 := by omega
        have q3 : (0 : Int) ≤ 1 := by omega
        go_enter Try.func30, Try.ntmps30
        go_wp2_with fail
        refine wp_region_tail 10 [isV (.slice (some ⟨bg, bo, Option.none⟩) (t.length + 3) cap), isV (.pointer (some ⟨bg, bo + 1, Option.none⟩)), isV (vb y), isV (.slice (some ⟨bg, bo, Option.none⟩) (t.length + 3) cap), isV (.pointer (some ⟨bg, bo + 2, Option.none⟩)), isV (vb z), isV (.slice (some ⟨bg, bo, Option.none⟩) (t.length + 3) cap), fun v X => IsBytes X v t, fun v X => (ownR v t * (blk w.heap.size (.cells za 68 (0, 0)) * all w)).on X, fun v X => ∃ dv, v = .agg (respCells ⟨y, z, t⟩ dv) ∧ (ownR dv t * (blk w.heap.size (.cells za 68 (0, 0)) * all w)).on X]
          (by simp only [List.take_succ_cons, List.take_zero]; rfl) (by simp only [List.drop_succ_cons, List.drop_zero]; rfl) (by kernel_rfl) (by kernel_rfl) (by kernel_rfl) (by decide) rfl ?keep ?todo ?rest
        case keep => exact ⟨Keep.isV _, Keep.isV _, Keep.isV _, Keep.isV _, Keep.isV _, Keep.isV _, Keep.isV _, fun _ _ _ h k => IsBytes.below h k, fun _ _ _ h k => SP.on.below h k, fun _ _ _ ⟨d, h1, h2⟩ k => ⟨d, h1, SP.on.below h2 k⟩, trivial⟩
        case todo =>
          refine ⟨?_, ?_, ?_, ?_, ?_, ?_, ?_, ?_, ?_, ?_, trivial⟩
          · intro ev X hT hb hk hf
            have e0 : ev (.tmp 0) = .slice (some ⟨bg, bo, Option.none⟩) (t.length + 3) cap := hk.1
            exact OpOk.move rfl e0 ⟨rfl, Stay.refl _⟩
          · intro ev X hT hb hk hf
            have e0 : ev (.tmp 13) = .slice (some ⟨bg, bo, Option.none⟩) (t.length + 3) cap := hf.1
            exact OpOk.run (v := .pointer (some ⟨bg, bo + 1, Option.none⟩)) (W' := X) (by simp [execOp, e0, hb.1, q1, q2, q3, go_sem]) ⟨rfl, Stay.refl _⟩
          · intro ev X hT hb hk hf
            have e0 : ev (.tmp 14) = .pointer (some ⟨bg, bo + 1, Option.none⟩) := hf.1
            have cW := C1.out X hT
            exact OpOk.run (v := vb y) (W' := X) (by simp [execOp, e0, cW, go_sem]) ⟨rfl, Stay.refl _⟩
          · intro ev X hT hb hk hf
            have e0 : ev (.tmp 0) = .slice (some ⟨bg, bo, Option.none⟩) (t.length + 3) cap := hk.1
            exact OpOk.move rfl e0 ⟨rfl, Stay.refl _⟩
          · intro ev X hT hb hk hf
            have e0 : ev (.tmp 16) = .slice (some ⟨bg, bo, Option.none⟩) (t.length + 3) cap := hf.1
            exact OpOk.run (v := .pointer (some ⟨bg, bo + 2, Option.none⟩)) (W' := X) (by simp [execOp, e0, hb.1, q1, q2, q3, go_sem]) ⟨rfl, Stay.refl _⟩
          · intro ev X hT hb hk hf
            have e0 : ev (.tmp 17) = .pointer (some ⟨bg, bo + 2, Option.none⟩) := hf.1
            have cW := C2.out X hT
            exact OpOk.run (v := vb z) (W' := X) (by simp [execOp, e0, cW, go_sem]) ⟨rfl, Stay.refl _⟩
          · intro ev X hT hb hk hf
            have e0 : ev (.tmp 0) = .slice (some ⟨bg, bo, Option.none⟩) (t.length + 3) cap := hk.1
            exact OpOk.move rfl e0 ⟨rfl, Stay.refl _⟩
          · intro ev X hT hb hk hf
            have e0 : ev (.tmp 19) = .slice (some ⟨bg, bo, Option.none⟩) (t.length + 3) cap := hf.1
            have hbX := Hb1.out.below hT
            obtain ⟨v', hrun, hv'⟩ := run_slice_from (P := Try.prog) hbX 3 (by simp) _ _ hu infoR
            exact OpOk.run (v := v') (W' := X) (by have hr3 : (Instr.sliceAt 28 (.slice (some ⟨bg, bo, Option.none⟩) (t.length + 3) cap) (some (.int .i64 3)) Option.none Option.none).run Try.prog X = .ok v' X := hrun; simp [execOp, e0, hb.1, hr3]) ⟨(show IsBytes X v' t from by simpa using hv' _ hbX), Stay.refl _⟩
          · intro ev X hT hb hk hf
            have e0 := hf.1
            have e1 : IsBytes X (ev (.tmp 20)) t := hf.1
            obtain ⟨v', w', r1, r2, r3⟩ := run_append_fresh (P := Try.prog) 28 28 5 hu infoR Option.none (own_nil 5 1 (H0.out.below hT)) _ t e1 (by omega)
            exact OpOk.append rfl (hb.1 _) rfl r1 ⟨r2, r3⟩
          · intro ev X hT hb hk hf
            have e0 : ev (.tmp 15) = vb y := hf.1
            have e1 : ev (.tmp 18) = vb z := hf.2.1
            have e2 := hf.2.2.1
            have e0' : ev (.tmp 15) = vb y := hf.1
            have e1' : ev (.tmp 18) = vb z := hf.2.1
            have e2' : (ownR (ev (.tmp 21)) t * (blk w.heap.size (.cells za 68 (0, 0)) * all w)).on X := hf.2.2.1
            obtain ⟨xa, xc, e3, _, _, _, _⟩ := own_value e2'
            rw [e3] at e2'
            exact OpOk.run (v := .agg (respCells ⟨y, z, t⟩ (.slice xa t.length xc))) (W' := X) (by simp [execOp, e0', e1', e3, go_sem]) ⟨⟨_, rfl, e2'⟩, Stay.refl _⟩
        case rest =>
          intro X hT
          rintro _ rfl _ rfl _ rfl _ rfl _ rfl _ rfl _ rfl v7 - v8 - _ ⟨dv, rfl, hd⟩
          have hd2 := hd
          rw [SP.mul_left_comm] at hd2
          have h2 := on_blk_mul hd2
          obtain ⟨da, dc, rfl, _, _, _, _⟩ := own_value hd
          have Hd2 := hide hd2
          have HsX := hide (Hs0.out.trans (Str.below hT))
          clear hd hd2 hT
          go_wp2
          refine Rest.done ?_
          go_wp2_with (refine wpList_store_row rfl _ _ _ rfl w.heap.size (respCells ⟨y, z, t⟩ _) rfl rfl _ _ h2 hsa (za_size _ _) (resp_one _ _ _ _) ?_)
          refine bodyPost_ret (v := .tuple #[.agg (respCells ⟨y, z, t⟩ (.slice da t.length dc)), .int .i64 0]) (results_cell_row_tmp Try.results30 _ _ w.heap.size _ (respCells ⟨y, z, t⟩ _) (0, 0) _ rfl (setRow_heap_same _ _ _ _ _ _ h2) hua rfl hsa (.int .i64 0) rfl) rfl ?_
          refine ⟨.slice da t.length dc, ?_, ?_, HsX.out.setRow _ _⟩
          · rw [HG.out, HE.out]; rfl
          · rw [HG.out]
            exact (Hd2.out.setRow (respCells ⟨y, z, t⟩ (.slice da t.length dc))).right
      · have HE := hide (show ansErr (x :: y :: z :: t) = 7 by simp [ansErr, hx])
        have HG := hide (show ansGot (x :: y :: z :: t) = zeroA by simp [ansGot, hx])
        have e0 : (((x.toNat : Nat) : Int) != 96) = true := by
          have : x.toNat ≠ (96 : UInt8).toNat := fun h => hx (UInt8.toNat_inj.1 h)
          have h96 : (96 : UInt8).toNat = 96 := rfl
          rw [h96] at this
          simp; omega
        clear hx hu
        go_enter Try.func30, Try.ntmps30
        go_wp2_with (refine wpList_store_row rfl _ _ _ rfl w.heap.size za rfl rfl _ _ hr0 hsa rfl za_one ?_)
        refine bodyPost_ret (v := .tuple #[.agg za, .int .i64 7]) (results_cell_row_tmp Try.results30 _ _ w.heap.size _ za (0, 0) _ rfl (setRow_heap_same _ _ _ _ _ _ hr0) hua rfl hsa (.int .i64 7) rfl) rfl ?_
        exact AnsEnd.err HE.out HG.out (below_setRow alloc1 (Nat.le_refl _) _) 7 rfl
end Go.Proofs.Ytgkofpfjbjnhfaa
