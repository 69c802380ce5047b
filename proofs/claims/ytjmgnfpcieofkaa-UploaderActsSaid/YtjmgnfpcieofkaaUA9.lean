/- The law UploaderActs: what the Model wants. -/
import Derived.Test.YtjmgnfpcieofkaaUA5
import Derived.Test.YtjmgnfpcieofkaaGUA
import Derived.Test.YtjmgnfpcieofkaaExc
import Derived.Test.YtjmgnfpcieofkaaGBase2
import Derived.Test.YtjmgnfpcieofkaaGCrc
import Derived.Test.YtjmgnfpcieofkaaGFl
namespace Go.Proofs.Ytjmgnfpcieofkaa
open Go.ChangeShapes Go.WideShapes Go.ChangeAt Go.RowKit
set_option linter.unusedVariables false
set_option linter.unusedSimpArgs false

theorem vbs_len9 (l : List UInt8) : (vbs l).length = l.length := by simp [vbs]

set_option maxRecDepth 100000 in
set_option maxHeartbeats 8000000 in
theorem mwanted_any (p : Nat) (iv rv : Value) (s : US) (mg mo mc : Nat) (img : List UInt8) (hl : img.length ≤ 4096) (hmc : img.length ≤ mc) (F : SP) (w : World) (h : (blk p (.cells (mC22 iv (.slice (some ⟨mg, mo, Option.none⟩) img.length mc) rv s) 84 (0, 0)) * F).on w) (hmv : ∀ W, F.on W → IsBytes W (.slice (some ⟨mg, mo, Option.none⟩) img.length mc) img) (ok : s.Ok img) (n : Nat) (hn : n ≤ 5000) :
    Calls Try.prog 41 #[ptrV p, .int .i64 (n : Int)] w fun e w' => ∃ v, e = .returned v ∧ ∃ d : List UInt8, d.length ≤ 40 ∧ IsBytes w' v d ∧ (blk p (.cells (mC22 iv (.slice (some ⟨mg, mo, Option.none⟩) img.length mc) rv s) 84 (0, 0)) * F).on w' ∧ Str w w' := by
  have hu := Try.underlying84
  have hub := Try.underlying33
  have q1 : w.cell? ⟨p, 1, Option.none⟩ = some (.slice (some ⟨mg, mo, Option.none⟩) img.length mc) := cell_of_row w p 1 _ _ _ (on_blk_mul h)
  have q2 : w.cell? ⟨p, 2, Option.none⟩ = some (.int .i64 (s.phase : Int)) := cell_of_row w p 2 _ _ _ (on_blk_mul h)
  have hmod : ((n : Int)).tmod ((img.length : Int) + 1) = ((n % (img.length + 1) : Nat) : Int) := by rw [Int.tmod_eq_emod_of_nonneg (by omega)]; rfl
  have hmb : n % (img.length + 1) < img.length + 1 := Nat.mod_lt _ (by omega)
  generalize n % (img.length + 1) = r at *
  have H := hide h
  clear h
  rcases (show s.phase = 0 ∨ s.phase = 1 ∨ s.phase = 2 ∨ s.phase = 3 ∨ s.phase = 4 ∨ s.phase = 5 by have := ok.phase; omega) with hp | hp | hp | hp | hp | hp
  · have p0 : ((s.phase : Int) == 0) = true := by rw [hp]; rfl
    have p1 : ((s.phase : Int) == 1) = false := by rw [hp]; rfl
    have p2 : ((s.phase : Int) == 2) = false := by rw [hp]; rfl
    have p3 : ((s.phase : Int) == 3) = false := by rw [hp]; rfl
    have p4 : ((s.phase : Int) == 4) = false := by rw [hp]; rfl
    have p5 : ((s.phase : Int) == 5) = false := by rw [hp]; rfl
    clear hp
    go_enter Try.func41, Try.ntmps41
    go_wp2_with fail
    go_ret
    exact ⟨_, rfl, [96, 6, 1], by decide, IsBytes.new _ [96, 6, 1] (by decide) 5, H.out.alloc' _, (Str.refl w).alloc _⟩
  · have p0 : ((s.phase : Int) == 0) = false := by rw [hp]; rfl
    have p1 : ((s.phase : Int) == 1) = true := by rw [hp]; rfl
    have p2 : ((s.phase : Int) == 2) = false := by rw [hp]; rfl
    have p3 : ((s.phase : Int) == 3) = false := by rw [hp]; rfl
    have p4 : ((s.phase : Int) == 4) = false := by rw [hp]; rfl
    have p5 : ((s.phase : Int) == 5) = false := by rw [hp]; rfl
    clear hp
    go_enter Try.func41, Try.ntmps41
    go_wp2_with fail
    go_ret
    exact ⟨_, rfl, [96, 4, 1], by decide, IsBytes.new _ [96, 4, 1] (by decide) 5, H.out.alloc' _, (Str.refl w).alloc _⟩
  · have p0 : ((s.phase : Int) == 0) = false := by rw [hp]; rfl
    have p1 : ((s.phase : Int) == 1) = false := by rw [hp]; rfl
    have p2 : ((s.phase : Int) == 2) = true := by rw [hp]; rfl
    have p3 : ((s.phase : Int) == 3) = false := by rw [hp]; rfl
    have p4 : ((s.phase : Int) == 4) = false := by rw [hp]; rfl
    have p5 : ((s.phase : Int) == 5) = false := by rw [hp]; rfl
    clear hp
    have hown := own_new 5 1 7 (vbs [96, 6, 1, 0, 4, 0, 0]) H.out rfl (by decide)
    rw [show (vbs [96, 6, 1, 0, 4, 0, 0]).toArray = #[.int .u8 96, .int .u8 6, .int .u8 1, .int .u8 0, .int .u8 4, .int .u8 0, .int .u8 0] from rfl] at hown
    have H1 := hide hown
    have S1 := hide ((Str.refl w).alloc (.cells #[.int .u8 96, .int .u8 6, .int .u8 1, .int .u8 0, .int .u8 4, .int .u8 0, .int .u8 0] 5))
    have hW := hide (fun X => rword12_any r (by omega) X)
    clear hown H
    go_enter Try.func41, Try.ntmps41
    go_wp2_with fail
    refine (hW.out _).mono ?_
    clear hW
    rintro e w2 ⟨wv, rfl, ho, hs⟩
    have ho' : (ownR wv (wordB r) * all (w.alloc (.cells #[.int .u8 96, .int .u8 6, .int .u8 1, .int .u8 0, .int .u8 4, .int .u8 0, .int .u8 0] 5))).on w2 := ho
    have H2 := hide (on_all_to ho' H1.out)
    have S2 := hide (S1.out.trans hs)
    have hwl := wordB_len r
    obtain ⟨xa2, xc2, rfl, _, _, _, _⟩ := own_value ho'
    generalize wordB r = wl at *
    have HWl := hide hwl
    clear ho ho' hs H1 S1 hwl
    go_wp2_with (first
      | (at_builtin; refine wpList_append_bytes (F := ownR (.slice av3 zv3.length cv3) zv3 * (blk p (.cells (mC22 iv (.slice (some ⟨mg, mo, Option.none⟩) img.length mc) rv s) 84 (0, 0)) * F)) rfl _ _ 33 rfl 5 hub infoByte _ [96, 6, 1, 0, 4, 0, 0] zv3 rfl (on_swap HO_ho3.out) _ rfl (own_bytes HO_ho3.out) (by simp [HZ_v3.out, HWl.out]) ?_; intro v4 w4 ho4 hs4; obtain ⟨zv4, hz⟩ : ∃ z, z = [96, 6, 1, 0, 4, 0, 0] ++ zv3 := ⟨_, rfl⟩; rw [← hz] at ho4; obtain ⟨av4, cv4, rfl, _, _, _, _⟩ := own_value ho4; have HO_ho4 := hide ho4; have HS_hs4 := hide hs4; have HZ_v4 := hide hz; clear ho4 hs4 hz)
      | (at_builtin; refine wpList_append_bytes (F := own 5 1 (.slice (some ⟨w.heap.size, 0, Option.none⟩) 7 7) 7 (vbs [96, 6, 1, 0, 4, 0, 0]) * (blk p (.cells (mC22 iv (.slice (some ⟨mg, mo, Option.none⟩) img.length mc) rv s) 84 (0, 0)) * F)) rfl _ _ 33 rfl 5 hub infoByte _ wl [0, 0, 0, 0] rfl (H2.out.alloc' _) _ rfl (IsBytes.new w2 [0, 0, 0, 0] (by decide) 5) (by simp [HWl.out]) ?_; intro v3 w3 ho3 hs3; obtain ⟨zv3, hz⟩ : ∃ z, z = wl ++ [0, 0, 0, 0] := ⟨_, rfl⟩; rw [← hz] at ho3; obtain ⟨av3, cv3, rfl, _, _, _, _⟩ := own_value ho3; have HO_ho3 := hide ho3; have HS_hs3 := hide hs3; have HZ_v3 := hide hz; clear ho3 hs3 hz))
    go_ret
    exact ⟨_, rfl, _, by rw [HZ_v4.out, HZ_v3.out]; simp [HWl.out], own_bytes HO_ho4.out, HO_ho4.out.right.right, ((S2.out.alloc _).trans HS_hs3.out).trans HS_hs4.out⟩
  · have p0 : ((s.phase : Int) == 0) = false := by rw [hp]; rfl
    have p1 : ((s.phase : Int) == 1) = false := by rw [hp]; rfl
    have p2 : ((s.phase : Int) == 2) = false := by rw [hp]; rfl
    have p3 : ((s.phase : Int) == 3) = true := by rw [hp]; rfl
    have p4 : ((s.phase : Int) == 4) = false := by rw [hp]; rfl
    have p5 : ((s.phase : Int) == 5) = false := by rw [hp]; rfl
    go_enter Try.func41, Try.ntmps41
    have hfr := ok.here (.inl hp)
    have hol := objU_len img s.from'
    obtain ⟨kn, hkn⟩ : ∃ x, x = s.from' + (objU img s.from').length := ⟨_, rfl⟩
    have hknb : kn < 4294967296 := by have := ok.from'; omega
    have hkw6 : IntKind.i64.wrap (kn : Int) = (kn : Int) := by rw [IntKind.wrap_i64]; omega
    have hkw : IntKind.u32.wrap (kn : Int) = (kn : Int) := by rw [IntKind.wrap_u32]; omega
    have hsum : (s.from' : Int) + ((objU img s.from').length : Int) = (kn : Int) := by omega
    have C5 : Hid (∀ X, Stay w X → X.cell? ⟨p, 5, Option.none⟩ = some (.int .i64 (s.from' : Int))) := hide fun X hT => stay_cell (cell_of_row w p 5 _ _ _ (on_blk_mul H.out)) hT
    clear hol hp
    go_wp2_with fail
    refine wp_region_vs [isV (.pointer (some ⟨p, 0, Option.none⟩)), isV (.pointer (some ⟨p, 0, Option.none⟩)), isV (.pointer (some ⟨p, 5, Option.none⟩)), isV ((.int .i64 (s.from' : Int))), isV (.pointer (some ⟨p, 0, Option.none⟩)), isV ((.slice (some ⟨mg, mo + s.from', Option.none⟩) (objU img s.from').length (mc - s.from'))), isV (.int .i64 (((objU img s.from').length : Nat) : Int)), isV (.int .i64 ((kn : Nat) : Int)), isV (.int .i64 ((kn : Nat) : Int))]
      (by kernel_rfl) (by kernel_rfl) rfl ?keep ?todo ?rest
    case keep => exact ⟨Keep.isV _, Keep.isV _, Keep.isV _, Keep.isV _, Keep.isV _, Keep.isV _, Keep.isV _, Keep.isV _, Keep.isV _, trivial⟩
    case todo =>
      refine ⟨?_, ?_, ?_, ?_, ?_, ?_, ?_, ?_, ?_, trivial⟩
      · intro ev X hT hb hk hf
        have e0 : ev (.tmp 0) = .pointer (some ⟨p, 0, Option.none⟩) := hk.1
        exact OpOk.move rfl e0 ⟨rfl, Stay.refl _⟩
      · intro ev X hT hb hk hf
        have e0 : ev (.tmp 33) = .pointer (some ⟨p, 0, Option.none⟩) := hf.1
        exact OpOk.run (v := .pointer (some ⟨p, 0, Option.none⟩)) (W' := X) (by simp [execOp, e0, hb.1, go_sem]) ⟨rfl, Stay.refl _⟩
      · intro ev X hT hb hk hf
        have e0 : ev (.tmp 34) = .pointer (some ⟨p, 0, Option.none⟩) := hf.1
        exact OpOk.run (v := .pointer (some ⟨p, 5, Option.none⟩)) (W' := X) (by simp [execOp, e0, hb.1, go_sem]) ⟨rfl, Stay.refl _⟩
      · intro ev X hT hb hk hf
        have e0 : ev (.tmp 35) = .pointer (some ⟨p, 5, Option.none⟩) := hf.1
        have cW := C5.out X hT
        exact OpOk.run (v := (.int .i64 (s.from' : Int))) (W' := X) (by simp [execOp, e0, cW, go_sem]) ⟨rfl, Stay.refl _⟩
      · intro ev X hT hb hk hf
        have e0 : ev (.tmp 0) = .pointer (some ⟨p, 0, Option.none⟩) := hk.1
        exact OpOk.move rfl e0 ⟨rfl, Stay.refl _⟩
      · intro ev X hT hb hk hf
        have e0 : ev (.tmp 37) = .pointer (some ⟨p, 0, Option.none⟩) := hf.1
        refine OpOk.enters (f := 69) (args := #[ptrV p]) (W' := X) (by simp [execOp, resolve, invoke, e0, hb.1, hb.2.1, go_sem]) ((mnext_any p iv rv s mg mo mc img hfr hl F X (H.out.below hT) hmc).mono ?_)
        rintro e X2 ⟨rfl, h2⟩
        exact ⟨_, rfl, rfl, h2⟩
      · intro ev X hT hb hk hf
        have e0 : ev (.tmp 38) = (.slice (some ⟨mg, mo + s.from', Option.none⟩) (objU img s.from').length (mc - s.from')) := hf.1
        exact OpOk.run (v := .int .i64 (((objU img s.from').length : Nat) : Int)) (W' := X) (by simp [execOp, e0, hb.1, go_sem]) ⟨rfl, Stay.refl _⟩
      · intro ev X hT hb hk hf
        have e0 : ev (.tmp 36) = (.int .i64 (s.from' : Int)) := hf.1
        have e1 : ev (.tmp 39) = .int .i64 (((objU img s.from').length : Nat) : Int) := hf.2.1
        exact OpOk.run (v := .int .i64 ((kn : Nat) : Int)) (W' := X) (by simp [execOp, e0, e1, hb.1, go_sem, hsum, hkw6]) ⟨rfl, Stay.refl _⟩
      · intro ev X hT hb hk hf
        have e0 : ev (.tmp 40) = .int .i64 ((kn : Nat) : Int) := hf.1
        exact OpOk.assign rfl e0 ⟨rfl, Stay.refl _⟩
    case rest =>
      intro X hT
      rintro _ rfl _ rfl _ rfl _ rfl _ rfl _ rfl _ rfl _ rfl _ rfl
      have H8 := hide (H.out.below hT)
      have S8 := hide (Str.below hT)
      clear C5 hT H
      go_wp2
      refine Rest.done ?_
      go_wp2_with fail
      conv in (Act.put _ _ _) => simp [Act.put]
      obtain ⟨wn, hwn⟩ : ∃ x, x = wordB kn := ⟨_, rfl⟩
      obtain ⟨cu, hcu⟩ : ∃ x, x = crcUpd s.sum (objU img s.from') := ⟨_, rfl⟩
      obtain ⟨wc, hwc⟩ : ∃ x, x = wordB cu := ⟨_, rfl⟩
      have Hwn := hide hwn.symm
      have Hwc := hide hwc.symm
      have Hwl := hide (show wn.length = 4 by rw [hwn]; exact wordB_len _)
      have Hwcl := hide (show wc.length = 4 by rw [hwc]; exact wordB_len _)
      have hcub : cu < 4294967296 := by rw [hcu]; exact crcUpd_lt _ _
      have HCr : Hid (∀ X, IsBytes X (.slice (some ⟨mg, mo + s.from', Option.none⟩) (objU img s.from').length (mc - s.from')) (objU img s.from') → Calls Try.prog 73 #[.int .u32 ((s.sum : Nat) : Int), (.slice (some ⟨mg, mo + s.from', Option.none⟩) (objU img s.from').length (mc - s.from'))] X fun e w' => e = .returned (.int .u32 (cu : Nat)) ∧ X = w') := hide fun X hX => by rw [hcu]; exact refUpdate_any s.sum ok.sum _ _ X hX
      clear hwn hwc hcu
      refine wp_region_app 12 [(fun v X => ∃ g, v = .slice (some ⟨g, 0, Option.none⟩) 3 3 ∧ X.heap[g]? = some (.cells (vbs [96, 3, 1]).toArray 5 (0, 0))), isV (.int .i64 ((kn : Nat) : Int)), isV (.int .u32 ((kn : Nat) : Int)), (fun v X => (ownR v wn * (blk p (.cells (mC22 iv (.slice (some ⟨mg, mo, Option.none⟩) img.length mc) rv s) 84 (0, 0)) * F)).on X), isV (ptrV p), isV (.pointer (some ⟨p, 0, Option.none⟩)), isV (.pointer (some ⟨p, 6, Option.none⟩)), isV (.int .u32 ((s.sum : Nat) : Int)), isV (ptrV p), isV ((.slice (some ⟨mg, mo + s.from', Option.none⟩) (objU img s.from').length (mc - s.from'))), isV (.int .u32 ((cu : Nat) : Int)), (fun v X => IsBytes X v (wc)), (fun _ _ => True), (fun _ _ => False), (fun _ _ => False)]
        [(fun v X => ∃ g, v = .slice (some ⟨g, 0, Option.none⟩) 3 3 ∧ X.heap[g]? = some (.cells (vbs [96, 3, 1]).toArray 5 (0, 0))), isV (.int .i64 ((kn : Nat) : Int)), isV (.int .u32 ((kn : Nat) : Int)), (fun _ _ => True), isV (ptrV p), isV (.pointer (some ⟨p, 0, Option.none⟩)), isV (.pointer (some ⟨p, 6, Option.none⟩)), isV (.int .u32 ((s.sum : Nat) : Int)), isV (ptrV p), isV ((.slice (some ⟨mg, mo + s.from', Option.none⟩) (objU img s.from').length (mc - s.from'))), isV (.int .u32 ((cu : Nat) : Int)), (fun _ _ => True), (fun v X => IsBytes X v (wn ++ wc)), (fun v X => (ownR v ([96, 3, 1] ++ (wn ++ wc)) * (blk p (.cells (mC22 iv (.slice (some ⟨mg, mo, Option.none⟩) img.length mc) rv s) 84 (0, 0)) * F)).on X), (fun v X => (ownR v ([96, 3, 1] ++ (wn ++ wc)) * (blk p (.cells (mC22 iv (.slice (some ⟨mg, mo, Option.none⟩) img.length mc) rv s) 84 (0, 0)) * F)).on X)] _ rfl (by kernel_rfl) (by kernel_rfl) rfl (by decide) (fun ph X => (blk p (.cells (mC22 iv (.slice (some ⟨mg, mo, Option.none⟩) img.length mc) rv s) 84 (0, 0)) * F).on X ∧ Str w X) ⟨SP.on.drew H8.out, Str.drew S8.out⟩ (fun ph a b h st => ⟨h.1.below st, h.2.trans (Str.below st)⟩) ?keep ?keep2 ?store ?todo ?rest
      case keep => exact ⟨fun _ _ _ ⟨g, h1, h2⟩ k => ⟨g, h1, (k.block g (Array.getElem?_eq_some_iff.1 h2).1).trans h2⟩, Keep.isV _, Keep.isV _, fun _ _ _ h k => SP.on.below h k, Keep.isV _, Keep.isV _, Keep.isV _, Keep.isV _, Keep.isV _, Keep.isV _, Keep.isV _, fun _ _ _ h k => IsBytes.below h k, fun _ _ _ h _ => h, fun _ _ _ h _ => h, fun _ _ _ h _ => h, trivial⟩
      case keep2 => exact ⟨fun _ _ _ ⟨g, h1, h2⟩ k => ⟨g, h1, (k.block g (Array.getElem?_eq_some_iff.1 h2).1).trans h2⟩, Keep.isV _, Keep.isV _, fun _ _ _ h _ => h, Keep.isV _, Keep.isV _, Keep.isV _, Keep.isV _, Keep.isV _, Keep.isV _, Keep.isV _, fun _ _ _ h _ => h, fun _ _ _ h k => IsBytes.below h k, fun _ _ _ h k => SP.on.below h k, fun _ _ _ h k => SP.on.below h k, trivial⟩
      case store =>
        intro ev X hT hb hk hf
        have e0 : (ownR (ev (.tmp 44)) wn * (blk p (.cells (mC22 iv (.slice (some ⟨mg, mo, Option.none⟩) img.length mc) rv s) 84 (0, 0)) * F)).on X := hf.1
        have e1 : IsBytes X (ev (.tmp 52)) wc := hf.2.1
        obtain ⟨g, cap, cur, h44, hcap, hgx, hcs, hex, hle⟩ := own_exc (by rw [vbs_len9]; have := Hwl.out; omega) (show (own 5 1 (ev (.tmp 44)) (vbs wn).length (vbs wn) * (blk p (.cells (mC22 iv (.slice (some ⟨mg, mo, Option.none⟩) img.length mc) rv s) 84 (0, 0)) * F)).on X by rw [vbs_len9]; exact e0)
        rw [vbs_len9] at hex
        refine OpOk.append_bytes9 (F := exc X g) _ _ _ rfl 5 hub infoByte _ wn wc rfl hex e1 (by simp [Hwl.out, Hwcl.out]) ?_
        intro v' X2 ho hs
        refine ⟨⟨hle.on ho.right, hT.2.trans hs⟩, own_bytes ho, ?_⟩
        intro i his hv
        match i, his, hv with
        | 0, _, ⟨g', h1, h2⟩ =>
          refine ⟨g', h1, (exc_on ho.right (Array.getElem?_eq_some_iff.1 h2).1 ?_).trans h2⟩
          rintro rfl
          rw [h2] at hgx
          cases hgx
          rw [vbs_len9] at hcap
          have := Hwl.out
          have : (vbs [96, 3, 1]).toArray.size = 3 := rfl
          omega
        | 1, _, hv => exact hv
        | 2, _, hv => exact hv
        | 3, _, hv => exact trivial
        | 4, _, hv => exact hv
        | 5, _, hv => exact hv
        | 6, _, hv => exact hv
        | 7, _, hv => exact hv
        | 8, _, hv => exact hv
        | 9, _, hv => exact hv
        | 10, _, hv => exact hv
        | 11, _, hv => exact trivial
        | 12, h, hv => exact absurd rfl h
        | 13, _, hv => exact hv.elim
        | 14, _, hv => exact hv.elim
        | _ + 15, _, hv => exact hv
      case todo =>
        refine ⟨?_, ?_, ?_, ?_, ?_, ?_, ?_, ?_, ?_, ?_, ?_, ?_, ?_, ?_, ?_, trivial⟩
        · intro _ ph h1 h2
          cases ph
          all_goals
            intro ev X hT hb hk hf
            exact OpOk.run (v := .slice (some ⟨X.heap.size, 0, Option.none⟩) 3 3) (W' := X.alloc (.cells #[.int .u8 96, .int .u8 3, .int .u8 1] 5)) (by simp [execOp, hb.1, hub, go_sem]) ⟨⟨_, rfl, heap_alloc_new X _⟩, (Below.refl _ _).alloc (Nat.le_refl _) _⟩
        · intro _ ph h1 h2
          cases ph
          all_goals
            intro ev X hT hb hk hf
            have e0 : ev (.tmp 6) = .int .i64 ((kn : Nat) : Int) := hk.1
            exact OpOk.move rfl e0 ⟨rfl, Stay.refl _⟩
        · intro _ ph h1 h2
          cases ph
          all_goals
            intro ev X hT hb hk hf
            have e0 : ev (.tmp 42) = .int .i64 ((kn : Nat) : Int) := hf.1
            exact OpOk.run (v := .int .u32 ((kn : Nat) : Int)) (W' := X) (by simp [execOp, e0, hb.1, go_sem, hkw]) ⟨rfl, Stay.refl _⟩
        · intro _ ph h1 h2
          obtain rfl : ph = false := h2 (by kernel_rfl)
          intro ev X hT hb hk hf
          have e0 : ev (.tmp 43) = .int .u32 ((kn : Nat) : Int) := hf.1
          refine OpOk.enters (f := 72) (args := #[.int .u32 ((kn : Nat) : Int)]) (W' := X) (by simp [execOp, resolve, invoke, e0, hb.1, hb.2.1, go_sem]) ((rword12_any kn (by omega) X).mono ?_)
          rintro e X2 ⟨v', rfl, ho, hs⟩
          have ho' : (ownR v' (wordB kn) * all X).on X2 := ho
          rw [Hwn.out] at ho'
          exact ⟨_, rfl, on_all_to ho' hT.1, all_below ho'.right hs⟩
        · intro _ ph h1 h2
          cases ph
          all_goals
            intro ev X hT hb hk hf
            have e0 : ev (.tmp 0) = .pointer (some ⟨p, 0, Option.none⟩) := hk.1
            exact OpOk.move rfl e0 ⟨rfl, Stay.refl _⟩
        · intro _ ph h1 h2
          cases ph
          all_goals
            intro ev X hT hb hk hf
            have e0 : ev (.tmp 45) = ptrV p := hf.1
            exact OpOk.run (v := .pointer (some ⟨p, 0, Option.none⟩)) (W' := X) (by simp [execOp, e0, hb.1, go_sem]) ⟨rfl, Stay.refl _⟩
        · intro _ ph h1 h2
          cases ph
          all_goals
            intro ev X hT hb hk hf
            have e0 : ev (.tmp 46) = .pointer (some ⟨p, 0, Option.none⟩) := hf.1
            exact OpOk.run (v := .pointer (some ⟨p, 6, Option.none⟩)) (W' := X) (by simp [execOp, e0, hb.1, go_sem]) ⟨rfl, Stay.refl _⟩
        · intro _ ph h1 h2
          cases ph
          all_goals
            intro ev X hT hb hk hf
            have e0 : ev (.tmp 47) = .pointer (some ⟨p, 6, Option.none⟩) := hf.1
            have cW : X.cell? ⟨p, 6, Option.none⟩ = some (.int .u32 ((s.sum : Nat) : Int)) := cell_of_row X p 6 _ _ _ (on_blk_mul hT.1)
            exact OpOk.run (v := .int .u32 ((s.sum : Nat) : Int)) (W' := X) (by simp [execOp, e0, cW, go_sem]) ⟨rfl, Stay.refl _⟩
        · intro _ ph h1 h2
          cases ph
          all_goals
            intro ev X hT hb hk hf
            have e0 : ev (.tmp 0) = .pointer (some ⟨p, 0, Option.none⟩) := hk.1
            exact OpOk.move rfl e0 ⟨rfl, Stay.refl _⟩
        · intro _ ph h1 h2
          cases ph
          all_goals
            intro ev X hT hb hk hf
            have e0 : ev (.tmp 49) = ptrV p := hf.1
            refine OpOk.enters (f := 69) (args := #[ptrV p]) (W' := X) (by simp [execOp, resolve, invoke, e0, hb.1, hb.2.1, go_sem]) ((mnext_any p iv rv s mg mo mc img hfr hl F X (hT.1) hmc).mono ?_)
            rintro e X2 ⟨rfl, h2⟩
            exact ⟨_, rfl, rfl, h2⟩
        · intro _ ph h1 h2
          cases ph
          all_goals
            intro ev X hT hb hk hf
            have e0 : ev (.tmp 48) = .int .u32 ((s.sum : Nat) : Int) := hf.1
            have e1 : ev (.tmp 50) = (.slice (some ⟨mg, mo + s.from', Option.none⟩) (objU img s.from').length (mc - s.from')) := hf.2.1
            refine OpOk.enters (f := 73) (args := #[.int .u32 ((s.sum : Nat) : Int), (.slice (some ⟨mg, mo + s.from', Option.none⟩) (objU img s.from').length (mc - s.from'))]) (W' := X) (by simp [execOp, resolve, invoke, e0, e1, hb.1, hb.2.1, go_sem]) ((HCr.out X (obj_bytes (hmv _ hT.1.right) hfr)).mono ?_)
            rintro e X2 ⟨rfl, rfl⟩
            exact ⟨_, rfl, rfl, Stay.refl _⟩
        · intro _ ph h1 h2
          obtain rfl : ph = false := h2 (by kernel_rfl)
          intro ev X hT hb hk hf
          have e0 : ev (.tmp 51) = .int .u32 ((cu : Nat) : Int) := hf.1
          refine OpOk.enters (f := 72) (args := #[.int .u32 ((cu : Nat) : Int)]) (W' := X) (by simp [execOp, resolve, invoke, e0, hb.1, hb.2.1, go_sem]) ((rword12_any cu (by omega) X).mono ?_)
          rintro e X2 ⟨v', rfl, ho, hs⟩
          have ho' : (ownR v' (wordB cu) * all X).on X2 := ho
          rw [Hwc.out] at ho'
          exact ⟨_, rfl, own_bytes ho', all_below ho'.right hs⟩
        · exact fun h => absurd rfl h
        · intro _ ph h1 h2
          obtain rfl : ph = true := h1 (by kernel_rfl)
          intro ev X hT hb hk hf
          have e0 := hf.1
          have e1 := hf.2.1
          obtain ⟨g, e0', hg⟩ := e0
          have e1' : IsBytes X (ev (.tmp 53)) (wn ++ wc) := e1
          obtain ⟨v', w', r1, r2, r3⟩ := run_append_full (P := Try.prog) 33 33 5 hub infoByte g [96, 3, 1] hg hT.1 _ (wn ++ wc) e1' (by simp [Hwl.out]; omega) (by simp [Hwl.out, Hwcl.out])
          exact OpOk.append rfl e0' rfl r1 ⟨r2, r3⟩
        · intro _ ph h1 h2
          obtain rfl : ph = true := h1 (by kernel_rfl)
          intro ev X hT hb hk hf
          have e0 := hf.1
          exact OpOk.assign rfl rfl ⟨e0, Stay.refl _⟩
      case rest =>
        intro X2 hT2
        rintro _ - _ rfl _ rfl _ - _ rfl _ rfl _ rfl _ rfl _ rfl _ rfl _ rfl _ - _ - _ - v9 h9
        have h9' := hide h9
        have hT2' := hide hT2
        clear h9 hT2 hkn hsum hkw hkw6 hcub hknb
        go_wp2
        refine Rest.done ?_
        go_wp2_with fail
        go_ret
        exact ⟨_, rfl, _, by simp [Hwl.out, Hwcl.out], own_bytes h9'.out, hT2'.out.1, hT2'.out.2⟩
  · have p0 : ((s.phase : Int) == 0) = false := by rw [hp]; rfl
    have p1 : ((s.phase : Int) == 1) = false := by rw [hp]; rfl
    have p2 : ((s.phase : Int) == 2) = false := by rw [hp]; rfl
    have p3 : ((s.phase : Int) == 3) = false := by rw [hp]; rfl
    have p4 : ((s.phase : Int) == 4) = true := by rw [hp]; rfl
    have p5 : ((s.phase : Int) == 5) = false := by rw [hp]; rfl
    clear hp
    go_enter Try.func41, Try.ntmps41
    go_wp2_with fail
    go_ret
    exact ⟨_, rfl, [96, 4, 1], by decide, IsBytes.new _ [96, 4, 1] (by decide) 5, H.out.alloc' _, (Str.refl w).alloc _⟩
  · have p0 : ((s.phase : Int) == 0) = false := by rw [hp]; rfl
    have p1 : ((s.phase : Int) == 1) = false := by rw [hp]; rfl
    have p2 : ((s.phase : Int) == 2) = false := by rw [hp]; rfl
    have p3 : ((s.phase : Int) == 3) = false := by rw [hp]; rfl
    have p4 : ((s.phase : Int) == 4) = false := by rw [hp]; rfl
    have p5 : ((s.phase : Int) == 5) = true := by rw [hp]; rfl
    clear hp
    go_enter Try.func41, Try.ntmps41
    go_wp2_with fail
    go_ret
    exact ⟨_, rfl, [96, 4, 1], by decide, IsBytes.new _ [96, 4, 1] (by decide) 5, H.out.alloc' _, (Str.refl w).alloc _⟩
end Go.Proofs.Ytjmgnfpcieofkaa
