/- packet: what items hold, and whether they are a packet's. -/
import Derived.Test.YtgmpmlneoiagdaaGreatDoorGPk
namespace Go.Proofs.YtgmpmlneoiagdaaGreatDoor
open Go.ChangeShapes Go.WideShapes Go.ChangeAt Go.RowKit
set_option linter.unusedVariables false
set_option linter.unusedSimpArgs false

/-- the lengths of the values -/
def lensL : List Int := [0, 4, 1, 4, 4, 32, 64]
def Lens (w : World) : Prop := ∀ i, i < 7 → w.cell? ⟨1, i, Option.none⟩ = some (.int .i64 (lensL.getD i 0))
theorem Lens.below {w X : World} (h : Lens w) (hb : Below w.heap.size w X) : Lens X := fun i hi => (hb.cell (World.block_lt_of_cell? _ _ (h i hi))).trans (h i hi)

set_option maxRecDepth 100000 in
set_option maxHeartbeats 4000000 in
theorem pvalue_any (v : Value) (L : List (Value × TItem)) (tag : UInt8) (w : World) (h : IsItems w v L) (hlen : L.length ≤ 1000) (hvl : ∀ (i : Nat) (u : Value) (e : TItem), L[i]? = some (u, e) → e.value.length ≤ 1000) :
    Calls Tryz.prog 112 #[v, vb tag] w (Makes w fun u => ownT u (findR tag (L.map Prod.snd)).1) := by
  have hE := tfind_any v L tag w h (by omega) (fun i u e he => Nat.le_trans (hvl i u e he) (by omega))
  obtain ⟨a, c, rfl, _, _, _, _⟩ := h
  go_enter Tryz.func112, Tryz.ntmps112
  go_wp2_with fail
  refine hE.mono ?_
  clear hE
  rintro e w2 ⟨out, rfl, ho, hs⟩
  have HO := hide ho
  have HS := hide hs
  obtain ⟨_, _, rfl, _, _, _, _⟩ := own_value ho
  clear ho hs
  go_wp2_with fail
  go_ret
  exact ⟨_, rfl, HO.out, HS.out⟩

theorem or32_word (b0 b1 b2 b3 : Nat) (h0 : b0 < 256) (h1 : b1 < 256) (h2 : b2 < 256) (h3 : b3 < 256) :
    (b0 ||| b1 * 256 = b0 + b1 * 256) ∧ ((b0 + b1 * 256) ||| b2 * 65536 = b0 + b1 * 256 + b2 * 65536) ∧ ((b0 + b1 * 256 + b2 * 65536) ||| b3 * 16777216 = b0 + b1 * 256 + b2 * 65536 + b3 * 16777216) := by
  refine ⟨?_, ?_, ?_⟩
  · rw [Nat.or_comm, show b1 * 256 = b1 <<< 8 by rw [Nat.shiftLeft_eq], ← Nat.shiftLeft_add_eq_or_of_lt (show b0 < 2 ^ 8 by omega), Nat.add_comm]
  · rw [Nat.or_comm, show b2 * 65536 = b2 <<< 16 by rw [Nat.shiftLeft_eq], ← Nat.shiftLeft_add_eq_or_of_lt (show b0 + b1 * 256 < 2 ^ 16 by omega), Nat.add_comm]
  · rw [Nat.or_comm, show b3 * 16777216 = b3 <<< 24 by rw [Nat.shiftLeft_eq], ← Nat.shiftLeft_add_eq_or_of_lt (show b0 + b1 * 256 + b2 * 65536 < 2 ^ 24 by omega), Nat.add_comm]

set_option maxRecDepth 100000 in
set_option maxHeartbeats 4000000 in
theorem pnumber_any (v : Value) (L : List (Value × TItem)) (tag : UInt8) (w : World) (h : IsItems w v L) (hlen : L.length ≤ 1000) (hvl : ∀ (i : Nat) (u : Value) (e : TItem), L[i]? = some (u, e) → e.value.length ≤ 1000)
    (h4 : (findR tag (L.map Prod.snd)).1.length = 4) :
    Calls Tryz.prog 111 #[v, vb tag] w fun e w' => e = .returned (.int .u32 (numS (findR tag (L.map Prod.snd)).1 0 4 : Nat)) ∧ Below w.heap.size w w' := by
  have hE := pvalue_any v L tag w h hlen hvl
  obtain ⟨a, c, rfl, _, _, _, _⟩ := h
  go_enter Tryz.func111, Tryz.ntmps111
  go_wp2_with fail
  refine hE.mono ?_
  clear hE
  rintro e w2 ⟨out, rfl, ho, hs⟩
  generalize hl : (findR tag (L.map Prod.snd)).1 = l at *
  match l, h4, hl with
  | [x0, x1, x2, x3], _, hl =>
    have Hl := hide hl
    clear hl
    obtain ⟨oa, oc, rfl, _, _⟩ := own_block ho (by simp)
    have HB := hide (all_below ho.right hs)
    have HC : Hid (∀ X, Stay w2 X → X.cell? ⟨oa, 0, Option.none⟩ = some (vb x0) ∧ X.cell? ⟨oa, 1, Option.none⟩ = some (vb x1) ∧ X.cell? ⟨oa, 2, Option.none⟩ = some (vb x2) ∧ X.cell? ⟨oa, 3, Option.none⟩ = some (vb x3)) := hide fun X hX => by
      have h9 := SP.on.below ho hX
      exact ⟨own_cell h9 0 _ rfl, own_cell h9 1 _ rfl, own_cell h9 2 _ rfl, own_cell h9 3 _ rfl⟩
    have b0 := UInt8.toNat_lt x0
    have b1 := UInt8.toNat_lt x1
    have b2 := UInt8.toNat_lt x2
    have b3 := UInt8.toNat_lt x3
    have HN : Hid (numS [x0, x1, x2, x3] 0 4 = x0.toNat + x1.toNat * 256 + x2.toNat * 65536 + x3.toNat * 16777216) := hide (by simp [numS])
    obtain ⟨o1, o2, o3⟩ := or32_word x0.toNat x1.toNat x2.toNat x3.toNat b0 b1 b2 b3
    obtain ⟨M1, hM1⟩ : ∃ M, M = x1.toNat * 256 := ⟨_, rfl⟩
    obtain ⟨M2, hM2⟩ : ∃ M, M = x2.toNat * 65536 := ⟨_, rfl⟩
    obtain ⟨M3, hM3⟩ : ∃ M, M = x3.toNat * 16777216 := ⟨_, rfl⟩
    obtain ⟨N1, hN1⟩ : ∃ N, N = x0.toNat + M1 := ⟨_, rfl⟩
    obtain ⟨N2, hN2⟩ : ∃ N, N = N1 + M2 := ⟨_, rfl⟩
    obtain ⟨N3, hN3⟩ : ∃ N, N = N2 + M3 := ⟨_, rfl⟩
    have HN2 : Hid (numS [x0, x1, x2, x3] 0 4 = N3) := hide (by rw [HN.out]; omega)
    rw [← hM1] at o1 o2 o3
    rw [← hM2] at o2 o3
    rw [← hM3] at o3
    rw [← hN1] at o1 o2 o3
    rw [← hN2] at o2 o3
    rw [← hN3] at o3
    have q1 : bits .or .u32 (x0.toNat : Int) (M1 : Int) = (N1 : Int) := (u32_or_nat x0.toNat M1 (by omega) (by omega)).trans (congrArg Int.ofNat o1)
    have q2 : bits .or .u32 (N1 : Int) (M2 : Int) = (N2 : Int) := (u32_or_nat N1 M2 (by omega) (by omega)).trans (congrArg Int.ofNat o2)
    have q3 : bits .or .u32 (N2 : Int) (M3 : Int) = (N3 : Int) := (u32_or_nat N2 M3 (by omega) (by omega)).trans (congrArg Int.ofNat o3)
    have s1 : IntKind.u32.wrap ((x1.toNat : Int) * 256) = (M1 : Int) := by rw [IntKind.wrap_u32]; omega
    have s2 : IntKind.u32.wrap ((x2.toNat : Int) * 65536) = (M2 : Int) := by rw [IntKind.wrap_u32]; omega
    have s3 : IntKind.u32.wrap ((x3.toNat : Int) * 16777216) = (M3 : Int) := by rw [IntKind.wrap_u32]; omega
    clear ho hs o1 o2 o3 hM1 hM2 hM3 hN1 hN2 hN3 HN
    go_wp2_with fail
    refine wp_region_vs [isV (.slice (some ⟨oa, 0, Option.none⟩) 4 oc), isV (.pointer (some ⟨oa, 0, Option.none⟩)), isV (vb x0), isV (.int .u32 (x0.toNat : Int)), isV (.slice (some ⟨oa, 0, Option.none⟩) 4 oc), isV (.pointer (some ⟨oa, 1, Option.none⟩)), isV (vb x1), isV (.int .u32 (x1.toNat : Int)), isV (.int .u32 (M1 : Int)), isV (.int .u32 (N1 : Int)), isV (.slice (some ⟨oa, 0, Option.none⟩) 4 oc), isV (.pointer (some ⟨oa, 2, Option.none⟩)), isV (vb x2), isV (.int .u32 (x2.toNat : Int)), isV (.int .u32 (M2 : Int)), isV (.int .u32 (N2 : Int)), isV (.slice (some ⟨oa, 0, Option.none⟩) 4 oc), isV (.pointer (some ⟨oa, 3, Option.none⟩)), isV (vb x3), isV (.int .u32 (x3.toNat : Int)), isV (.int .u32 (M3 : Int)), isV (.int .u32 (N3 : Int)), isV (.int .u32 (N3 : Int))]
      (by kernel_rfl) (by kernel_rfl) rfl ?keep ?todo ?rest
    case keep => exact ⟨Keep.isV _, Keep.isV _, Keep.isV _, Keep.isV _, Keep.isV _, Keep.isV _, Keep.isV _, Keep.isV _, Keep.isV _, Keep.isV _, Keep.isV _, Keep.isV _, Keep.isV _, Keep.isV _, Keep.isV _, Keep.isV _, Keep.isV _, Keep.isV _, Keep.isV _, Keep.isV _, Keep.isV _, Keep.isV _, Keep.isV _, trivial⟩
    case todo =>
      refine ⟨?_, ?_, ?_, ?_, ?_, ?_, ?_, ?_, ?_, ?_, ?_, ?_, ?_, ?_, ?_, ?_, ?_, ?_, ?_, ?_, ?_, ?_, ?_, trivial⟩
      · intro ev X hT hb hk hf
        have e0 : ev (.tmp 5) = .slice (some ⟨oa, 0, Option.none⟩) 4 oc := hk.1
        exact OpOk.move rfl e0 ⟨rfl, Stay.refl _⟩
      · intro ev X hT hb hk hf
        have e0 : ev (.tmp 9) = .slice (some ⟨oa, 0, Option.none⟩) 4 oc := hf.1
        exact OpOk.run (v := .pointer (some ⟨oa, 0, Option.none⟩)) (W' := X) (by simp [execOp, e0, hb.1, go_sem]) ⟨rfl, Stay.refl _⟩
      · intro ev X hT hb hk hf
        have e0 : ev (.tmp 10) = .pointer (some ⟨oa, 0, Option.none⟩) := hf.1
        have cW := ((HC.out X hT).1)
        exact OpOk.run (v := vb x0) (W' := X) (by simp [execOp, e0, cW, go_sem]) ⟨rfl, Stay.refl _⟩
      · intro ev X hT hb hk hf
        have e0 : ev (.tmp 11) = vb x0 := hf.1
        exact OpOk.run (v := .int .u32 (x0.toNat : Int)) (W' := X) (by simp [execOp, e0, hb.1, go_sem, IntKind.wrap_u32]; try omega) ⟨rfl, Stay.refl _⟩
      · intro ev X hT hb hk hf
        have e0 : ev (.tmp 5) = .slice (some ⟨oa, 0, Option.none⟩) 4 oc := hk.1
        exact OpOk.move rfl e0 ⟨rfl, Stay.refl _⟩
      · intro ev X hT hb hk hf
        have e0 : ev (.tmp 13) = .slice (some ⟨oa, 0, Option.none⟩) 4 oc := hf.1
        exact OpOk.run (v := .pointer (some ⟨oa, 1, Option.none⟩)) (W' := X) (by simp [execOp, e0, hb.1, go_sem]) ⟨rfl, Stay.refl _⟩
      · intro ev X hT hb hk hf
        have e0 : ev (.tmp 14) = .pointer (some ⟨oa, 1, Option.none⟩) := hf.1
        have cW := ((HC.out X hT).2.1)
        exact OpOk.run (v := vb x1) (W' := X) (by simp [execOp, e0, cW, go_sem]) ⟨rfl, Stay.refl _⟩
      · intro ev X hT hb hk hf
        have e0 : ev (.tmp 15) = vb x1 := hf.1
        exact OpOk.run (v := .int .u32 (x1.toNat : Int)) (W' := X) (by simp [execOp, e0, hb.1, go_sem, IntKind.wrap_u32]; try omega) ⟨rfl, Stay.refl _⟩
      · intro ev X hT hb hk hf
        have e0 : ev (.tmp 16) = .int .u32 (x1.toNat : Int) := hf.1
        exact OpOk.run (v := .int .u32 (M1 : Int)) (W' := X) (by simp [execOp, e0, hb.1, go_sem, s1]) ⟨rfl, Stay.refl _⟩
      · intro ev X hT hb hk hf
        have e0 : ev (.tmp 12) = .int .u32 (x0.toNat : Int) := hf.1
        have e1 : ev (.tmp 17) = .int .u32 (M1 : Int) := hf.2.1
        exact OpOk.run (v := .int .u32 (N1 : Int)) (W' := X) (by simp [execOp, e0, e1, hb.1, go_sem, q1]) ⟨rfl, Stay.refl _⟩
      · intro ev X hT hb hk hf
        have e0 : ev (.tmp 5) = .slice (some ⟨oa, 0, Option.none⟩) 4 oc := hk.1
        exact OpOk.move rfl e0 ⟨rfl, Stay.refl _⟩
      · intro ev X hT hb hk hf
        have e0 : ev (.tmp 19) = .slice (some ⟨oa, 0, Option.none⟩) 4 oc := hf.1
        exact OpOk.run (v := .pointer (some ⟨oa, 2, Option.none⟩)) (W' := X) (by simp [execOp, e0, hb.1, go_sem]) ⟨rfl, Stay.refl _⟩
      · intro ev X hT hb hk hf
        have e0 : ev (.tmp 20) = .pointer (some ⟨oa, 2, Option.none⟩) := hf.1
        have cW := ((HC.out X hT).2.2.1)
        exact OpOk.run (v := vb x2) (W' := X) (by simp [execOp, e0, cW, go_sem]) ⟨rfl, Stay.refl _⟩
      · intro ev X hT hb hk hf
        have e0 : ev (.tmp 21) = vb x2 := hf.1
        exact OpOk.run (v := .int .u32 (x2.toNat : Int)) (W' := X) (by simp [execOp, e0, hb.1, go_sem, IntKind.wrap_u32]; try omega) ⟨rfl, Stay.refl _⟩
      · intro ev X hT hb hk hf
        have e0 : ev (.tmp 22) = .int .u32 (x2.toNat : Int) := hf.1
        exact OpOk.run (v := .int .u32 (M2 : Int)) (W' := X) (by simp [execOp, e0, hb.1, go_sem, s2]) ⟨rfl, Stay.refl _⟩
      · intro ev X hT hb hk hf
        have e0 : ev (.tmp 18) = .int .u32 (N1 : Int) := hf.1
        have e1 : ev (.tmp 23) = .int .u32 (M2 : Int) := hf.2.1
        exact OpOk.run (v := .int .u32 (N2 : Int)) (W' := X) (by simp [execOp, e0, e1, hb.1, go_sem, q2]) ⟨rfl, Stay.refl _⟩
      · intro ev X hT hb hk hf
        have e0 : ev (.tmp 5) = .slice (some ⟨oa, 0, Option.none⟩) 4 oc := hk.1
        exact OpOk.move rfl e0 ⟨rfl, Stay.refl _⟩
      · intro ev X hT hb hk hf
        have e0 : ev (.tmp 25) = .slice (some ⟨oa, 0, Option.none⟩) 4 oc := hf.1
        exact OpOk.run (v := .pointer (some ⟨oa, 3, Option.none⟩)) (W' := X) (by simp [execOp, e0, hb.1, go_sem]) ⟨rfl, Stay.refl _⟩
      · intro ev X hT hb hk hf
        have e0 : ev (.tmp 26) = .pointer (some ⟨oa, 3, Option.none⟩) := hf.1
        have cW := ((HC.out X hT).2.2.2)
        exact OpOk.run (v := vb x3) (W' := X) (by simp [execOp, e0, cW, go_sem]) ⟨rfl, Stay.refl _⟩
      · intro ev X hT hb hk hf
        have e0 : ev (.tmp 27) = vb x3 := hf.1
        exact OpOk.run (v := .int .u32 (x3.toNat : Int)) (W' := X) (by simp [execOp, e0, hb.1, go_sem, IntKind.wrap_u32]; try omega) ⟨rfl, Stay.refl _⟩
      · intro ev X hT hb hk hf
        have e0 : ev (.tmp 28) = .int .u32 (x3.toNat : Int) := hf.1
        exact OpOk.run (v := .int .u32 (M3 : Int)) (W' := X) (by simp [execOp, e0, hb.1, go_sem, s3]) ⟨rfl, Stay.refl _⟩
      · intro ev X hT hb hk hf
        have e0 : ev (.tmp 24) = .int .u32 (N2 : Int) := hf.1
        have e1 : ev (.tmp 29) = .int .u32 (M3 : Int) := hf.2.1
        exact OpOk.run (v := .int .u32 (N3 : Int)) (W' := X) (by simp [execOp, e0, e1, hb.1, go_sem, q3]) ⟨rfl, Stay.refl _⟩
      · intro ev X hT hb hk hf
        have e0 : ev (.tmp 30) = .int .u32 (N3 : Int) := hf.1
        exact OpOk.assign rfl e0 ⟨rfl, Stay.refl _⟩
    case rest =>
      intro X hT
      rintro _ rfl _ rfl _ rfl _ rfl _ rfl _ rfl _ rfl _ rfl _ rfl _ rfl _ rfl _ rfl _ rfl _ rfl _ rfl _ rfl _ rfl _ rfl _ rfl _ rfl _ rfl _ rfl _ rfl
      have HBB := hide (HB.out.trans (hT.mono HB.out.size))
      clear hT
      go_wp2
      refine Rest.done ?_
      go_wp2_with fail
      go_ret
      refine ⟨?_, HBB.out⟩
      rw [Hl.out, HN2.out]
      rfl

theorem shapeK_take {L : List TItem} {k : Nat} {x : TItem} (hx : L[k]? = some x) : shapeK (L.take (k + 1)) = shapeK (L.take k) ++ [(x.tag.toNat, x.value.length)] := by
  unfold shapeK
  rw [List.take_add_one, hx, List.map_append]
  rfl
theorem shape6_get : ∀ k, k < 6 → shape6.take (k + 1) = shape6.take k ++ [(k + 1, (lensL.getD (k + 1) 0).toNat)] ∧ 0 ≤ lensL.getD (k + 1) 0 ∧ lensL.getD (k + 1) 0 < 1000 := by decide
theorem shape_no {L : List TItem} {k : Nat} {x : TItem} (hk : k < 6) (hx : L[k]? = some x) (h : ¬(x.tag.toNat = k + 1 ∧ x.value.length = (lensL.getD (k + 1) 0).toNat)) : decide (shapeK L = shape6) = false := by
  rw [decide_eq_false_iff_not]
  intro e
  have h1 := congrArg (fun l => l[k]?) e
  simp only [shapeK, List.getElem?_map, hx] at h1
  have h2 := (shape6_get k hk).1
  have h3 : shape6[k]? = some (k + 1, (lensL.getD (k + 1) 0).toNat) := by
    have := congrArg (fun l => l[k]?) h2
    simp only [List.getElem?_take, Nat.lt_succ_self, if_true] at this
    rw [this, List.getElem?_append_right (by simp [shape6]; omega)]
    have hl : (shape6.take k).length = k := by rw [List.length_take]; simp [shape6]; omega
    rw [hl, Nat.sub_self]
    rfl
  rw [h3] at h1
  simp only [Option.map_some, Option.some.injEq, Prod.mk.injEq] at h1
  exact h h1

set_option maxRecDepth 100000 in
set_option maxHeartbeats 8000000 in
theorem shaped_any (v : Value) (L : List (Value × TItem)) (w : World) (h : IsItems w v L) (hvl : ∀ (i : Nat) (u : Value) (e : TItem), L[i]? = some (u, e) → e.value.length ≤ 1000) (hLens : Lens w) :
    Calls Tryz.prog 110 #[v] w fun e w' => e = .returned (.bool (decide (shapeK (L.map Prod.snd) = shape6))) ∧ Below w.heap.size w w' := by
  have HI0 := hide h
  obtain ⟨a, c, rfl, hc, hm, _, _⟩ := h
  unfold maxLen at hm
  have hui := Tryz.underlying195
  by_cases h6 : L.length = 6
  · have h6i : ((L.length : Int) != 6) = false := by simp; omega
    have H6 := hide h6
    clear h6
    go_enter Tryz.func110, Tryz.ntmps110
    go_wp2_with fail
    clear h6i
    go_loopw [10] (fun i wr => ∃ k : Nat, k ≤ L.length ∧ i = .int .i64 k ∧ shapeK ((L.map Prod.snd).take k) = shape6.take k ∧ Below w.heap.size w wr) (fun i _ => L.length - (intOf i).toNat)
    case atStart => exact ⟨0, Nat.zero_le _, rfl, rfl, Below.refl _ _⟩
    case round =>
      obtain ⟨k, hk6, rfl, hsh, hbl⟩ := hrel
      have HSh := hide hsh
      clear hsh
      by_cases hltL : k < L.length
      · have hlt : k < 6 := by have := H6.out; omega
        obtain ⟨u, it, hL⟩ : ∃ u it, L[k]? = some (u, it) := ⟨_, _, List.getElem?_eq_getElem hltL⟩
        have hI := HI0.out.below hbl
        obtain ⟨a', c', e', _, _, hlay, hin⟩ := hI
        simp only [Value.slice.injEq] at e'
        obtain ⟨rfl, _, rfl⟩ := e'
        have hb9 := hin k u it hL
        obtain ⟨ua, uc, rfl, _, _, _, _⟩ := hb9
        obtain ⟨g1, g2⟩ := itCells_get L k _ it hL
        obtain ⟨b, off, rfl⟩ : ∃ b off, a = some ⟨b, off, Option.none⟩ := by obtain ⟨b, off, e, _⟩ := hlay _ _ g1; exact ⟨b, off, e⟩
        have q1 := Lay.cell hlay _ g1
        have q2 := Lay.cell hlay _ g2
        have eoff : off + k * 2 + 1 = off + (k * 2 + 1) := by omega
        have hvb := hvl k _ it hL
        have hT8 := UInt8.toNat_lt it.tag
        obtain ⟨h61, h62, h63⟩ := shape6_get k hlt
        have hLS : (L.map Prod.snd)[k]? = some it := by rw [List.getElem?_map, hL]; rfl
        have HNo := hide (shape_no hlt hLS)
        have HYes := hide (shapeK_take hLS)
        have H61 := hide h61
        obtain ⟨k1, hk1⟩ : ∃ k1, k1 = k + 1 := ⟨_, rfl⟩
        have hadd : IntKind.i64.wrap ((k : Int) + 1) = (k1 : Int) := by rw [IntWalk.i64_in _ (by omega)]; omega
        have hwr : IntKind.i64.wrap ((it.tag.toNat : Nat) : Int) = ((it.tag.toNat : Nat) : Int) := IntWalk.i64_in _ (by omega)
        have k7 : (k1 : Int) < 7 := by omega
        have hr := heap_alloc_new wr (.cells #[vb it.tag, .slice ua it.value.length uc] 195)
        have HC : Hid (∀ X, Stay (wr.alloc (.cells #[vb it.tag, .slice ua it.value.length uc] 195)) X → X.cell? ⟨wr.heap.size, 0, Option.none⟩ = some (vb it.tag) ∧ X.cell? ⟨wr.heap.size, 1, Option.none⟩ = some (.slice ua it.value.length uc)) := hide fun X hT => by
          have h9 := (hT.block _ (by simp)).trans hr
          exact ⟨by rw [cell_of_row _ _ _ _ _ _ h9]; rfl, by rw [cell_of_row _ _ _ _ _ _ h9]; rfl⟩
        have HBl := hide (hbl.alloc hbl.size (.cells #[vb it.tag, .slice ua it.value.length uc] 195))
        have HL : Hid (∀ X, Stay (wr.alloc (.cells #[vb it.tag, .slice ua it.value.length uc] 195)) X → X.cell? ⟨1, k1, Option.none⟩ = some (.int .i64 (lensL.getD k1 0))) := hide fun X hT => (hLens.below (HBl.out.trans (hT.mono HBl.out.size))) k1 (by omega)
        rw [← hk1] at HNo H61 h62 h63
        have HK1 := hide hk1
        generalize lensL.getD k1 0 = ln at *
        clear hr hlay hin hL g1 g2 hLS h61 hk1
        by_cases ht : it.tag.toNat = k1
        · by_cases hv : it.value.length = ln.toNat
          · have hne1 : (((it.tag.toNat : Nat) : Int) != (k1 : Int)) = false := by simp; omega
            have hne2 : (((it.value.length : Nat) : Int) != ln) = false := by simp; omega
            have HGo : Hid (shapeK ((L.map Prod.snd).take (k + 1)) = shape6.take (k + 1)) := hide (by rw [HYes.out, HSh.out, ht, hv, ← HK1.out]; exact H61.out.symm)
            clear HNo HYes H61 HSh ht hv
            go_wp2_with fail
            refine wp_region_vs [isV (.pointer (some ⟨wr.heap.size, 0, Option.none⟩)), isV (vb it.tag), isV (.int .i64 (it.tag.toNat : Int)), isV (.int .i64 (k : Int)), isV (.int .i64 (k1 : Int)), isV (.bool false), isV (.bool false), isV (.pointer (some ⟨wr.heap.size, 1, Option.none⟩)), isV (.slice ua it.value.length uc), isV (.int .i64 (it.value.length : Int)), isV (.int .i64 (k : Int)), isV (.int .i64 (k1 : Int)), isV (.pointer (some ⟨1, k1, Option.none⟩)), isV (.int .i64 ln), isV (.bool false), isV (.bool false)]
              (by kernel_rfl) (by kernel_rfl) rfl ?keep ?todo ?rest
            case keep => exact ⟨Keep.isV _, Keep.isV _, Keep.isV _, Keep.isV _, Keep.isV _, Keep.isV _, Keep.isV _, Keep.isV _, Keep.isV _, Keep.isV _, Keep.isV _, Keep.isV _, Keep.isV _, Keep.isV _, Keep.isV _, Keep.isV _, trivial⟩
            case todo =>
              refine ⟨?_, ?_, ?_, ?_, ?_, ?_, ?_, ?_, ?_, ?_, ?_, ?_, ?_, ?_, ?_, ?_, trivial⟩
              · intro ev X hT hb hk hf
                have e0 : ev (.tmp 4) = .pointer (some ⟨wr.heap.size, 0, Option.none⟩) := hk.1
                exact OpOk.run (v := .pointer (some ⟨wr.heap.size, 0, Option.none⟩)) (W' := X) (by simp [execOp, e0, hb.1, go_sem]) ⟨rfl, Stay.refl _⟩
              · intro ev X hT hb hk hf
                have e0 : ev (.tmp 15) = .pointer (some ⟨wr.heap.size, 0, Option.none⟩) := hf.1
                have cW := ((HC.out X hT).1)
                exact OpOk.run (v := vb it.tag) (W' := X) (by simp [execOp, e0, cW, go_sem]) ⟨rfl, Stay.refl _⟩
              · intro ev X hT hb hk hf
                have e0 : ev (.tmp 16) = vb it.tag := hf.1
                exact OpOk.run (v := .int .i64 (it.tag.toNat : Int)) (W' := X) (by simp [execOp, e0, hb.1, go_sem, hwr]) ⟨rfl, Stay.refl _⟩
              · intro ev X hT hb hk hf
                have e0 : ev (.tmp 3) = .int .i64 (k : Int) := hk.1
                exact OpOk.move rfl e0 ⟨rfl, Stay.refl _⟩
              · intro ev X hT hb hk hf
                have e0 : ev (.tmp 18) = .int .i64 (k : Int) := hf.1
                exact OpOk.run (v := .int .i64 (k1 : Int)) (W' := X) (by simp [execOp, e0, hb.1, hadd, go_sem, -Int.natCast_add]) ⟨rfl, Stay.refl _⟩
              · intro ev X hT hb hk hf
                have e0 : ev (.tmp 17) = .int .i64 (it.tag.toNat : Int) := hf.1
                have e1 : ev (.tmp 19) = .int .i64 (k1 : Int) := hf.2.1
                exact OpOk.run (v := .bool false) (W' := X) (by simp [execOp, e0, e1, hb.1, go_sem, hne1, -Int.natCast_add]) ⟨rfl, Stay.refl _⟩
              · intro ev X hT hb hk hf
                have e0 : ev (.tmp 20) = .bool false := hf.1
                exact OpOk.move rfl e0 ⟨rfl, Stay.refl _⟩
              · intro ev X hT hb hk hf
                refine ⟨false, hf.1, fun _ => ?_, fun h => (h rfl).elim⟩
                have e0 : ev (.tmp 4) = .pointer (some ⟨wr.heap.size, 0, Option.none⟩) := hk.1
                exact OpOk.run (v := .pointer (some ⟨wr.heap.size, 1, Option.none⟩)) (W' := X) (by simp [execOp, e0, hb.1, go_sem]) ⟨rfl, Stay.refl _⟩
              · intro ev X hT hb hk hf
                refine ⟨false, hf.2.1, fun _ => ?_, fun h => (h rfl).elim⟩
                have e0 : ev (.tmp 22) = .pointer (some ⟨wr.heap.size, 1, Option.none⟩) := hf.1
                have cW := ((HC.out X hT).2)
                exact OpOk.run (v := .slice ua it.value.length uc) (W' := X) (by simp [execOp, e0, cW, go_sem]) ⟨rfl, Stay.refl _⟩
              · intro ev X hT hb hk hf
                refine ⟨false, hf.2.1, fun _ => ?_, fun h => (h rfl).elim⟩
                have e0 : ev (.tmp 23) = .slice ua it.value.length uc := hf.1
                exact OpOk.run (v := .int .i64 (it.value.length : Int)) (W' := X) (by simp [execOp, e0, hb.1, go_sem]) ⟨rfl, Stay.refl _⟩
              · intro ev X hT hb hk hf
                refine ⟨false, hf.1, fun _ => ?_, fun h => (h rfl).elim⟩
                have e0 : ev (.tmp 3) = .int .i64 (k : Int) := hk.1
                exact OpOk.move rfl e0 ⟨rfl, Stay.refl _⟩
              · intro ev X hT hb hk hf
                refine ⟨false, hf.2.1, fun _ => ?_, fun h => (h rfl).elim⟩
                have e0 : ev (.tmp 25) = .int .i64 (k : Int) := hf.1
                exact OpOk.run (v := .int .i64 (k1 : Int)) (W' := X) (by simp [execOp, e0, hb.1, hadd, go_sem, -Int.natCast_add]) ⟨rfl, Stay.refl _⟩
              · intro ev X hT hb hk hf
                refine ⟨false, hf.2.1, fun _ => ?_, fun h => (h rfl).elim⟩
                have e0 : ev (.tmp 26) = .int .i64 (k1 : Int) := hf.1
                exact OpOk.run (v := .pointer (some ⟨1, k1, Option.none⟩)) (W' := X) (by simp [execOp, e0, hb.1, hb.2.1, hb.2.2, k7, go_sem, -Int.natCast_add]) ⟨rfl, Stay.refl _⟩
              · intro ev X hT hb hk hf
                refine ⟨false, hf.2.1, fun _ => ?_, fun h => (h rfl).elim⟩
                have e0 : ev (.tmp 27) = .pointer (some ⟨1, k1, Option.none⟩) := hf.1
                have cW := (HL.out X hT)
                exact OpOk.run (v := .int .i64 ln) (W' := X) (by simp [execOp, e0, cW, go_sem]) ⟨rfl, Stay.refl _⟩
              · intro ev X hT hb hk hf
                refine ⟨false, hf.2.2.1, fun _ => ?_, fun h => (h rfl).elim⟩
                have e0 : ev (.tmp 24) = .int .i64 (it.value.length : Int) := hf.1
                have e1 : ev (.tmp 28) = .int .i64 ln := hf.2.1
                exact OpOk.run (v := .bool false) (W' := X) (by simp [execOp, e0, e1, hb.1, go_sem, hne2, -List.getD_eq_getElem?_getD]) ⟨rfl, Stay.refl _⟩
              · intro ev X hT hb hk hf
                have e0 : ev (.tmp 21) = .bool false := hf.1
                have e1 : ev (.tmp 29) = .bool false := hf.2.1
                exact OpOk.run (v := .bool false) (W' := X) (by simp [execOp, e0, e1, hb, hb.1, hb.2.1, hb.2.2, go_sem]) ⟨rfl, Stay.refl _⟩
            case rest =>
              intro X hT
              rintro _ rfl _ rfl _ rfl _ rfl _ rfl _ rfl _ rfl _ rfl _ rfl _ rfl _ rfl _ rfl _ rfl _ rfl _ rfl _ rfl
              have HX := hide (HBl.out.trans (hT.mono HBl.out.size))
              clear hT HC HBl HL eoff q1 q2 hadd hwr k7 hvb hT8 h62 h63
              go_wp2
              refine Rest.done ?_
              go_wp2_with fail
              go_roundw
              case rel => exact ⟨k + 1, by omega, by simp, HGo.out, HX.out⟩
              case measure =>
                have := HK1.out
                simp [intOf]
                omega
          · have hne1 : (((it.tag.toNat : Nat) : Int) != (k1 : Int)) = false := by simp; omega
            have hne2 : (((it.value.length : Nat) : Int) != ln) = true := by simp; omega
            have HN := hide (HNo.out (fun h => hv h.2))
            clear HNo HYes H61 HSh ht hv
            go_wp2_with fail
            refine wp_region_vs [isV (.pointer (some ⟨wr.heap.size, 0, Option.none⟩)), isV (vb it.tag), isV (.int .i64 (it.tag.toNat : Int)), isV (.int .i64 (k : Int)), isV (.int .i64 (k1 : Int)), isV (.bool false), isV (.bool false), isV (.pointer (some ⟨wr.heap.size, 1, Option.none⟩)), isV (.slice ua it.value.length uc), isV (.int .i64 (it.value.length : Int)), isV (.int .i64 (k : Int)), isV (.int .i64 (k1 : Int)), isV (.pointer (some ⟨1, k1, Option.none⟩)), isV (.int .i64 ln), isV (.bool true), isV (.bool true)]
              (by kernel_rfl) (by kernel_rfl) rfl ?keep ?todo ?rest
            case keep => exact ⟨Keep.isV _, Keep.isV _, Keep.isV _, Keep.isV _, Keep.isV _, Keep.isV _, Keep.isV _, Keep.isV _, Keep.isV _, Keep.isV _, Keep.isV _, Keep.isV _, Keep.isV _, Keep.isV _, Keep.isV _, Keep.isV _, trivial⟩
            case todo =>
              refine ⟨?_, ?_, ?_, ?_, ?_, ?_, ?_, ?_, ?_, ?_, ?_, ?_, ?_, ?_, ?_, ?_, trivial⟩
              · intro ev X hT hb hk hf
                have e0 : ev (.tmp 4) = .pointer (some ⟨wr.heap.size, 0, Option.none⟩) := hk.1
                exact OpOk.run (v := .pointer (some ⟨wr.heap.size, 0, Option.none⟩)) (W' := X) (by simp [execOp, e0, hb.1, go_sem]) ⟨rfl, Stay.refl _⟩
              · intro ev X hT hb hk hf
                have e0 : ev (.tmp 15) = .pointer (some ⟨wr.heap.size, 0, Option.none⟩) := hf.1
                have cW := ((HC.out X hT).1)
                exact OpOk.run (v := vb it.tag) (W' := X) (by simp [execOp, e0, cW, go_sem]) ⟨rfl, Stay.refl _⟩
              · intro ev X hT hb hk hf
                have e0 : ev (.tmp 16) = vb it.tag := hf.1
                exact OpOk.run (v := .int .i64 (it.tag.toNat : Int)) (W' := X) (by simp [execOp, e0, hb.1, go_sem, hwr]) ⟨rfl, Stay.refl _⟩
              · intro ev X hT hb hk hf
                have e0 : ev (.tmp 3) = .int .i64 (k : Int) := hk.1
                exact OpOk.move rfl e0 ⟨rfl, Stay.refl _⟩
              · intro ev X hT hb hk hf
                have e0 : ev (.tmp 18) = .int .i64 (k : Int) := hf.1
                exact OpOk.run (v := .int .i64 (k1 : Int)) (W' := X) (by simp [execOp, e0, hb.1, hadd, go_sem, -Int.natCast_add]) ⟨rfl, Stay.refl _⟩
              · intro ev X hT hb hk hf
                have e0 : ev (.tmp 17) = .int .i64 (it.tag.toNat : Int) := hf.1
                have e1 : ev (.tmp 19) = .int .i64 (k1 : Int) := hf.2.1
                exact OpOk.run (v := .bool false) (W' := X) (by simp [execOp, e0, e1, hb.1, go_sem, hne1, -Int.natCast_add]) ⟨rfl, Stay.refl _⟩
              · intro ev X hT hb hk hf
                have e0 : ev (.tmp 20) = .bool false := hf.1
                exact OpOk.move rfl e0 ⟨rfl, Stay.refl _⟩
              · intro ev X hT hb hk hf
                refine ⟨false, hf.1, fun _ => ?_, fun h => (h rfl).elim⟩
                have e0 : ev (.tmp 4) = .pointer (some ⟨wr.heap.size, 0, Option.none⟩) := hk.1
                exact OpOk.run (v := .pointer (some ⟨wr.heap.size, 1, Option.none⟩)) (W' := X) (by simp [execOp, e0, hb.1, go_sem]) ⟨rfl, Stay.refl _⟩
              · intro ev X hT hb hk hf
                refine ⟨false, hf.2.1, fun _ => ?_, fun h => (h rfl).elim⟩
                have e0 : ev (.tmp 22) = .pointer (some ⟨wr.heap.size, 1, Option.none⟩) := hf.1
                have cW := ((HC.out X hT).2)
                exact OpOk.run (v := .slice ua it.value.length uc) (W' := X) (by simp [execOp, e0, cW, go_sem]) ⟨rfl, Stay.refl _⟩
              · intro ev X hT hb hk hf
                refine ⟨false, hf.2.1, fun _ => ?_, fun h => (h rfl).elim⟩
                have e0 : ev (.tmp 23) = .slice ua it.value.length uc := hf.1
                exact OpOk.run (v := .int .i64 (it.value.length : Int)) (W' := X) (by simp [execOp, e0, hb.1, go_sem]) ⟨rfl, Stay.refl _⟩
              · intro ev X hT hb hk hf
                refine ⟨false, hf.1, fun _ => ?_, fun h => (h rfl).elim⟩
                have e0 : ev (.tmp 3) = .int .i64 (k : Int) := hk.1
                exact OpOk.move rfl e0 ⟨rfl, Stay.refl _⟩
              · intro ev X hT hb hk hf
                refine ⟨false, hf.2.1, fun _ => ?_, fun h => (h rfl).elim⟩
                have e0 : ev (.tmp 25) = .int .i64 (k : Int) := hf.1
                exact OpOk.run (v := .int .i64 (k1 : Int)) (W' := X) (by simp [execOp, e0, hb.1, hadd, go_sem, -Int.natCast_add]) ⟨rfl, Stay.refl _⟩
              · intro ev X hT hb hk hf
                refine ⟨false, hf.2.1, fun _ => ?_, fun h => (h rfl).elim⟩
                have e0 : ev (.tmp 26) = .int .i64 (k1 : Int) := hf.1
                exact OpOk.run (v := .pointer (some ⟨1, k1, Option.none⟩)) (W' := X) (by simp [execOp, e0, hb.1, hb.2.1, hb.2.2, k7, go_sem, -Int.natCast_add]) ⟨rfl, Stay.refl _⟩
              · intro ev X hT hb hk hf
                refine ⟨false, hf.2.1, fun _ => ?_, fun h => (h rfl).elim⟩
                have e0 : ev (.tmp 27) = .pointer (some ⟨1, k1, Option.none⟩) := hf.1
                have cW := (HL.out X hT)
                exact OpOk.run (v := .int .i64 ln) (W' := X) (by simp [execOp, e0, cW, go_sem]) ⟨rfl, Stay.refl _⟩
              · intro ev X hT hb hk hf
                refine ⟨false, hf.2.2.1, fun _ => ?_, fun h => (h rfl).elim⟩
                have e0 : ev (.tmp 24) = .int .i64 (it.value.length : Int) := hf.1
                have e1 : ev (.tmp 28) = .int .i64 ln := hf.2.1
                exact OpOk.run (v := .bool true) (W' := X) (by simp [execOp, e0, e1, hb.1, go_sem, hne2, -List.getD_eq_getElem?_getD]) ⟨rfl, Stay.refl _⟩
              · intro ev X hT hb hk hf
                have e0 : ev (.tmp 21) = .bool false := hf.1
                have e1 : ev (.tmp 29) = .bool true := hf.2.1
                exact OpOk.run (v := .bool true) (W' := X) (by simp [execOp, e0, e1, hb, hb.1, hb.2.1, hb.2.2, go_sem]) ⟨rfl, Stay.refl _⟩
            case rest =>
              intro X hT
              rintro _ rfl _ rfl _ rfl _ rfl _ rfl _ rfl _ rfl _ rfl _ rfl _ rfl _ rfl _ rfl _ rfl _ rfl _ rfl _ rfl
              have HX := hide (HBl.out.trans (hT.mono HBl.out.size))
              clear hT HC HBl HL eoff q1 q2 hadd hwr k7 hvb hT8 h62 h63
              go_wp2
              refine Rest.done ?_
              go_wp2_with fail
              go_ret
              exact ⟨(congrArg (fun b => Ending.returned (Value.bool b)) HN.out).symm, HX.out⟩
        · have hne1 : (((it.tag.toNat : Nat) : Int) != (k1 : Int)) = true := by simp; omega
          have HN := hide (HNo.out (fun h => ht h.1))
          clear HNo HYes H61 HSh ht
          go_wp2_with fail
          refine wp_region_vs [isV (.pointer (some ⟨wr.heap.size, 0, Option.none⟩)), isV (vb it.tag), isV (.int .i64 (it.tag.toNat : Int)), isV (.int .i64 (k : Int)), isV (.int .i64 (k1 : Int)), isV (.bool true), isV (.bool true), isV (undef), isV (undef), isV (undef), isV (undef), isV (undef), isV (undef), isV (undef), isV (undef), isV (.bool true)]
            (by kernel_rfl) (by kernel_rfl) rfl ?keep ?todo ?rest
          case keep => exact ⟨Keep.isV _, Keep.isV _, Keep.isV _, Keep.isV _, Keep.isV _, Keep.isV _, Keep.isV _, Keep.isV _, Keep.isV _, Keep.isV _, Keep.isV _, Keep.isV _, Keep.isV _, Keep.isV _, Keep.isV _, Keep.isV _, trivial⟩
          case todo =>
            refine ⟨?_, ?_, ?_, ?_, ?_, ?_, ?_, ?_, ?_, ?_, ?_, ?_, ?_, ?_, ?_, ?_, trivial⟩
            · intro ev X hT hb hk hf
              have e0 : ev (.tmp 4) = .pointer (some ⟨wr.heap.size, 0, Option.none⟩) := hk.1
              exact OpOk.run (v := .pointer (some ⟨wr.heap.size, 0, Option.none⟩)) (W' := X) (by simp [execOp, e0, hb.1, go_sem]) ⟨rfl, Stay.refl _⟩
            · intro ev X hT hb hk hf
              have e0 : ev (.tmp 15) = .pointer (some ⟨wr.heap.size, 0, Option.none⟩) := hf.1
              have cW := ((HC.out X hT).1)
              exact OpOk.run (v := vb it.tag) (W' := X) (by simp [execOp, e0, cW, go_sem]) ⟨rfl, Stay.refl _⟩
            · intro ev X hT hb hk hf
              have e0 : ev (.tmp 16) = vb it.tag := hf.1
              exact OpOk.run (v := .int .i64 (it.tag.toNat : Int)) (W' := X) (by simp [execOp, e0, hb.1, go_sem, hwr]) ⟨rfl, Stay.refl _⟩
            · intro ev X hT hb hk hf
              have e0 : ev (.tmp 3) = .int .i64 (k : Int) := hk.1
              exact OpOk.move rfl e0 ⟨rfl, Stay.refl _⟩
            · intro ev X hT hb hk hf
              have e0 : ev (.tmp 18) = .int .i64 (k : Int) := hf.1
              exact OpOk.run (v := .int .i64 (k1 : Int)) (W' := X) (by simp [execOp, e0, hb.1, hadd, go_sem, -Int.natCast_add]) ⟨rfl, Stay.refl _⟩
            · intro ev X hT hb hk hf
              have e0 : ev (.tmp 17) = .int .i64 (it.tag.toNat : Int) := hf.1
              have e1 : ev (.tmp 19) = .int .i64 (k1 : Int) := hf.2.1
              exact OpOk.run (v := .bool true) (W' := X) (by simp [execOp, e0, e1, hb.1, go_sem, hne1, -Int.natCast_add]) ⟨rfl, Stay.refl _⟩
            · intro ev X hT hb hk hf
              have e0 : ev (.tmp 20) = .bool true := hf.1
              exact OpOk.move rfl e0 ⟨rfl, Stay.refl _⟩
            · exact fun ev X hT hb hk hf => ⟨true, hf.1, fun h => (nomatch h), fun _ => rfl⟩
            · exact fun ev X hT hb hk hf => ⟨true, hf.2.1, fun h => (nomatch h), fun _ => rfl⟩
            · exact fun ev X hT hb hk hf => ⟨true, hf.2.1, fun h => (nomatch h), fun _ => rfl⟩
            · exact fun ev X hT hb hk hf => ⟨true, hf.1, fun h => (nomatch h), fun _ => rfl⟩
            · exact fun ev X hT hb hk hf => ⟨true, hf.2.1, fun h => (nomatch h), fun _ => rfl⟩
            · exact fun ev X hT hb hk hf => ⟨true, hf.2.1, fun h => (nomatch h), fun _ => rfl⟩
            · exact fun ev X hT hb hk hf => ⟨true, hf.2.1, fun h => (nomatch h), fun _ => rfl⟩
            · exact fun ev X hT hb hk hf => ⟨true, hf.2.2.1, fun h => (nomatch h), fun _ => rfl⟩
            · intro ev X hT hb hk hf
              have e0 : ev (.tmp 21) = .bool true := hf.1
              have e1 : ev (.tmp 29) = undef := hf.2.1
              exact OpOk.run (v := .bool true) (W' := X) (by simp [execOp, e0, e1, hb, hb.1, hb.2.1, hb.2.2, go_sem]) ⟨rfl, Stay.refl _⟩
          case rest =>
            intro X hT
            rintro _ rfl _ rfl _ rfl _ rfl _ rfl _ rfl _ rfl _ rfl _ rfl _ rfl _ rfl _ rfl _ rfl _ rfl _ rfl _ rfl
            have HX := hide (HBl.out.trans (hT.mono HBl.out.size))
            clear hT HC HBl HL eoff q1 q2 hadd hwr k7 hvb hT8 h62 h63
            go_wp2
            refine Rest.done ?_
            go_wp2_with fail
            go_ret
            exact ⟨(congrArg (fun b => Ending.returned (Value.bool b)) HN.out).symm, HX.out⟩
      · obtain rfl : k = L.length := by omega
        have HD : Hid (decide (shapeK (L.map Prod.snd) = shape6) = true) := hide (by
          have h9 := HSh.out
          rw [List.take_of_length_le (by simp), H6.out, show shape6.take 6 = shape6 from rfl] at h9
          rw [decide_eq_true_iff]
          exact h9)
        have HX := hide hbl
        clear hbl HSh
        go_wp2_with fail
        go_ret
        exact ⟨(congrArg (fun b => Ending.returned (Value.bool b)) HD.out).symm, HX.out⟩
  · have h6i : ((L.length : Int) != 6) = true := by simp; omega
    have HD : Hid (decide (shapeK (L.map Prod.snd) = shape6) = false) := hide (by
      rw [decide_eq_false_iff_not]
      intro e
      have := congrArg List.length e
      simp [shapeK, shape6] at this
      omega)
    rw [HD.out]
    clear HD
    go_enter Tryz.func110, Tryz.ntmps110
    go_wp2_with fail
    go_ret
    exact ⟨rfl, Below.refl _ _⟩
end Go.Proofs.YtgmpmlneoiagdaaGreatDoor
