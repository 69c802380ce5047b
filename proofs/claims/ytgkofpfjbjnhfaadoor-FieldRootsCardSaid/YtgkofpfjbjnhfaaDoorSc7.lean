/- scalar: a number as bytes. -/
import Derived.Test.YtgkofpfjbjnhfaaDoorSc6
import Derived.Laws.CopyOwn
namespace Go.Proofs.YtgkofpfjbjnhfaaDoor
open Go.ChangeShapes Go.WideShapes Go.ChangeAt Go.RowKit
set_option linter.unusedVariables false
set_option linter.unusedSimpArgs false

def zb (l : List UInt8) : Array Value := (vbs l).toArray

theorem vbl (l : List UInt8) : (vbs l).length = l.length := by simp [vbs]
theorem vba (l : List UInt8) : (vbs l).toArray.all (·.oneCell') = true := by
  simp only [List.all_toArray, List.all_eq_true]
  exact vbs_one l

set_option maxRecDepth 100000 in
set_option maxHeartbeats 4000000 in
theorem enc_any (n : Nat) (w : World) :
    Calls Tryd.prog 49 #[.agg (q4 n)] w fun e w' => e = .returned (.agg (zb (wbs (qs 4 n)))) ∧ Below w.heap.size w w' := by
  have hu := Tryd.underlying58
  have hu32 := Tryd.underlying48
  have hz : ∀ w, (zeroValue 48).run Tryd.prog w = .ok (.agg (zb (List.replicate 32 0))) w := fun w => by kernel_rfl
  have HL := hide (Lay.new w ((qs 4 n).map lv) 58)
  have hlen := wbs_len (qs 4 n)
  rw [qs_len] at hlen
  have HZ : Hid (zb (List.replicate 32 0) = (vbs (List.replicate 32 0)).toArray) := hide rfl
  have h0 := (((on_all w).alloc (.cells (q4 n) 58)).alloc (.cells (zb (List.replicate 32 0)) 48)).alloc (.cells (zb (List.replicate 32 0)) 48)
  have hs0 := (((Str.refl w).alloc (.cells (q4 n) 58)).alloc (.cells (zb (List.replicate 32 0)) 48)).alloc (.cells (zb (List.replicate 32 0)) 48)
  have hb3 := ((Below.refl (w.alloc (.cells (q4 n) 58)).heap.size (w.alloc (.cells (q4 n) 58))).alloc (Nat.le_refl _) (.cells (zb (List.replicate 32 0)) 48)).alloc (by simp only [World.size_alloc]; omega) (.cells (zb (List.replicate 32 0)) 48)
  have hl3 := HL.out.below hb3
  simp only [World.size_alloc] at h0
  have H0 := hide h0
  have HS0 := hide hs0
  have Hl3 := hide hl3
  clear h0 hs0 hl3 hb3 HL
  go_enter Tryd.func49, Tryd.ntmps49
  generalize zb (List.replicate 32 0) = Z at *
  generalize q4 n = R4 at *
  go_wp2_with fail
  generalize ((w.alloc (.cells R4 58)).alloc (.cells Z 48)).alloc (.cells Z 48) = w3 at *
  have Hlen := hide hlen
  clear hlen
  refine wp_region_tail 3 [isV (.slice (some ⟨w.heap.size + 1 + 1, 0, Option.none⟩) 32 32), isV (.slice (some ⟨w.heap.size, 0, Option.none⟩) 4 4), fun v X => IsBytes X v (wbs (qs 4 n))]
    (by simp only [List.take_succ_cons, List.take_zero]; rfl) (by simp only [List.drop_succ_cons, List.drop_zero]; rfl) (by kernel_rfl) (by kernel_rfl) (by kernel_rfl) (by decide) rfl ?keep ?todo ?rest
  case keep => exact ⟨Keep.isV _, Keep.isV _, fun _ _ _ h k => IsBytes.below h k, trivial⟩
  case todo =>
    refine ⟨?_, ?_, ?_, trivial⟩
    · intro ev X hT hb hk hf
      have e0 : ev (.tmp 3) = .pointer (some ⟨w.heap.size + 1 + 1, 0, Option.none⟩) := hk.1
      exact OpOk.run (v := .slice (some ⟨w.heap.size + 1 + 1, 0, Option.none⟩) 32 32) (W' := X) (by simp [execOp, e0, hu32, go_sem]) ⟨rfl, Stay.refl _⟩
    · intro ev X hT hb hk hf
      have e0 : ev (.tmp 1) = .pointer (some ⟨w.heap.size, 0, Option.none⟩) := hk.1
      exact OpOk.run (v := .slice (some ⟨w.heap.size, 0, Option.none⟩) 4 4) (W' := X) (by simp [execOp, e0, hu, go_sem]) ⟨rfl, Stay.refl _⟩
    · intro ev X hT hb hk hf
      have e0 : ev (.tmp 5) = .slice (some ⟨w.heap.size, 0, Option.none⟩) 4 4 := hf.1
      have hby := bytesOf_any (some ⟨w.heap.size, 0, Option.none⟩) 4 (qs 4 n) X (Hl3.out.below hT) (by rw [qs_len]; omega) (by omega) (by rw [qs_len]; omega)
      rw [qs_len] at hby
      refine OpOk.enters (f := 67) (args := #[.slice (some ⟨w.heap.size, 0, Option.none⟩) 4 4]) (W' := X) (by simp [execOp, resolve, invoke, e0, hb.1, hb.2.1, go_sem]) (hby.mono ?_)
      rintro e X2 ⟨v, rfl, ho, hs⟩
      exact ⟨_, rfl, own_bytes ho, Makes.below (Q := fun v => ownB6 v (wbs (qs 4 n))) ho hs⟩
  case rest =>
    intro X hT
    rintro _ rfl _ rfl v6 hv
    have hw := H0.out.below hT
    have HW := hide hw
    have HBX := hide (Str.below hT)
    have hgX := on_blk_mul hw
    have hgR := on_blk_mul hw.right
    have HBw := hide (all_below hw.right.right.right (HS0.out.trans HBX.out))
    obtain ⟨a6, c6, rfl, hc6, hm6, hl6, _⟩ := hv
    have hszX : w.heap.size + 1 + 1 < X.heap.size := (Array.getElem?_eq_some_iff.1 hgX).1
    have hvl : (vbs (wbs (qs 4 n))).length = 32 := by rw [vbl, Hlen.out]
    rw [Hlen.out]
    rw [HZ.out] at hgX
    generalize hbs : vbs (wbs (qs 4 n)) = bs at *
    have hsp : splice (vbs (List.replicate 32 0)) 0 bs = bs := by
      unfold splice
      rw [List.take_zero, List.nil_append, List.drop_of_length_le (by rw [vbl, hvl]; decide), List.append_nil]
    have hzsz : Z.size = 32 := by rw [HZ.out]; rfl
    have hone : bs.toArray.all (·.oneCell') = true := by rw [← hbs]; exact vba _
    have HsR : Hid ((Tryd.prog.info? 48).map (·.size) = some bs.toArray.size) := hide (by rw [List.size_toArray, hvl]; kernel_rfl)
    have h1 : ∀ v ∈ bs, v.oneCell' = true := by rw [← hbs]; exact vbs_one _
    have Hbs := hide hbs
    clear hbs hw HW hT
    refine Rest.done ?_
    refine wpList_copy_splice rfl _ _ _ _ rfl 5 Tryd.underlying63 (by kernel_rfl) _ _ _ _ _ _ rfl rfl (w.heap.size + 1 + 1) 0 (vbs (List.replicate 32 0)) 48 hgX bs (by rw [hvl]; decide) ?_ (by rw [vbl, hvl]; decide) h1 (w.heap.size + 1 + 1) X (Below.refl _ _) (Nat.le_refl _) ?_
    · intro hp
      obtain ⟨b, off, rfl⟩ := hl6.isAddr 0 hp
      refine ⟨rfl, _, rfl, ?_⟩
      intro j v hv
      have := Lay.cell hl6 j hv
      have ea : (⟨b, off, Option.none⟩ : Addr).add j = ⟨b, off + j, Option.none⟩ := by unfold Addr.add; split <;> simp_all
      rw [ea]; exact this
    · intro w9 hg9 hb9
      rw [hsp] at hg9
      have g9 := hg9.out
      have gR := (hb9.block _ (by omega)).trans hgR
      have HB9 := hide (HBw.out.trans (hb9.mono (by omega)))
      have hza : Z.size = bs.toArray.size := by rw [hzsz, List.size_toArray, hvl]
      clear hg9 hb9 hgX hgR hl6 hsp hzsz
      generalize hR9 : bs.toArray = R9 at *
      have HR9 := hide hR9
      clear hR9
      simp only [wpList]
      go_wp2_with (first
        | (refine wpList_store_row rfl _ _ _ rfl (w.heap.size + 1) R9 rfl rfl _ _ gR HsR.out hza hone ?_)
        | (refine wpList_load_row rfl _ _ rfl (w.heap.size + 1 + 1) rfl _ R9 _ _ g9 hu32 rfl HsR.out ?_))
      refine bodyPost_ret (v := .agg R9) (results_cell_row Tryd.results49 _ _ (w.heap.size + 1) _ R9 (0, 0) _ rfl (setRow_heap_same _ _ _ _ _ _ gR) hu32 rfl HsR.out) rfl ⟨by rw [← HR9.out, ← Hbs.out]; rfl, below_setRow HB9.out (by omega) _⟩
end Go.Proofs.YtgkofpfjbjnhfaaDoor
