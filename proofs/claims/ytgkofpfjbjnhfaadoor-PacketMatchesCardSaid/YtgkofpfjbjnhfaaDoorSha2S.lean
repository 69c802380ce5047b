/- SHA-2 on words of 32 bits: the numbers that are made of a block. -/
import Derived.Test.YtgkofpfjbjnhfaaDoorSha1S
import Derived.Test.YtgkofpfjbjnhfaaDoorTail
import Derived.IntWalk
namespace Go.Proofs.YtgkofpfjbjnhfaaDoor
open Go.ChangeShapes Go.WideShapes Go.ChangeAt Go.RowKit
namespace Sha32
set_option linter.unusedVariables false
set_option linter.unusedSimpArgs false

/-- words as the cells of an array -/
abbrev wv (l : List UInt32) : Array Value := (l.map v32).toArray
def wL (m : List UInt8) (k : Nat) : List UInt32 := sched m k ++ List.replicate (64 - k) 0
def wJ (m : List UInt8) (k j : Nat) : List UInt32 := sched m k ++ wordN m (4 * k) j :: List.replicate (64 - 1 - k) 0
theorem wL_len (m : List UInt8) (k : Nat) (hk : k ≤ 64) : (wL m k).length = 64 := by simp [wL, sched_len]; omega
theorem wJ_len (m : List UInt8) (k j : Nat) (hk : k < 64) : (wJ m k j).length = 64 := by simp [wJ, sched_len]; omega
theorem wJ_zero (m : List UInt8) (k : Nat) (hk : k < 64) : wJ m k 0 = wL m k := by
  unfold wJ wL
  rw [show 64 - k = (64 - 1 - k) + 1 by omega, List.replicate_succ]
  rfl
theorem wJ_get (m : List UInt8) (k j : Nat) : (wJ m k j)[k]? = some (wordN m (4 * k) j) := by
  unfold wJ
  rw [List.getElem?_append_right (by rw [sched_len]; omega), sched_len]
  simp
theorem wJ_set (m : List UInt8) (k j : Nat) (x : UInt32) : (wJ m k j).set k x = sched m k ++ x :: List.replicate (64 - 1 - k) 0 := by
  unfold wJ
  rw [List.set_append_right _ _ (by rw [sched_len]; omega), sched_len]
  simp
theorem wJ_next (m : List UInt8) (k j : Nat) : (wJ m k j).set k ((wordN m (4 * k) j <<< 8) ||| (m.getD (4 * k + j) 0).toUInt32) = wJ m k (j + 1) := by
  rw [wJ_set]; rfl
theorem wJ_last (m : List UInt8) (k : Nat) (hk : k < 16) : wJ m k 4 = wL m (k + 1) := by
  unfold wJ wL
  simp only [sched, if_pos hk, List.append_assoc, List.cons_append, List.nil_append]
  rw [show 64 - (k + 1) = 64 - 1 - k by omega]
theorem wL_set (m : List UInt8) (k : Nat) (h16 : 16 ≤ k) (hk : k < 64) : (wL m k).set k (nextW (sched m k) k) = wL m (k + 1) := by
  rw [← wJ_zero m k hk, wJ_set]
  unfold wL
  simp only [sched, if_neg (show ¬k < 16 by omega), List.append_assoc, List.cons_append, List.nil_append]
  rw [show 64 - (k + 1) = 64 - 1 - k by omega]
theorem wL_get (m : List UInt8) (k i : Nat) (hi : i < k) : (wL m k)[i]? = some ((sched m k).getD i 0) := by
  unfold wL
  rw [List.getElem?_append_left (by rw [sched_len]; exact hi), List.getD_eq_getElem?_getD, List.getElem?_eq_getElem (by rw [sched_len]; exact hi)]
  rfl
theorem wv_get (l : List UInt32) (i : Nat) {x : UInt32} (h : l[i]? = some x) : (wv l)[i]? = some (v32 x) := by
  rw [List.getElem?_toArray, List.getElem?_map, h]; rfl
theorem wv_set (l : List UInt32) (i : Nat) (x : UInt32) : (wv l).setIfInBounds i (v32 x) = wv (l.set i x) := by
  rw [List.setIfInBounds_toArray, ← List.map_set]
theorem wv_size (l : List UInt32) : (wv l).size = l.length := by simp
theorem wv_one (l : List UInt32) : (wv l).all (·.oneCell') = true := by
  rw [Array.all_eq_true_iff_forall_mem]
  intro x hx
  simp only [List.mem_toArray, List.mem_map] at hx
  obtain ⟨y, _, rfl⟩ := hx
  rfl
theorem shl8_or (x : UInt32) (c : UInt8) : bits .or .u32 ((x.toNat : Int) * 256 % 4294967296) ((c.toNat : Int) % 4294967296) = (((x <<< 8) ||| c.toUInt32).toNat : Int) := by
  have e1 : (x.toNat : Int) * (256 : Int) % (4294967296 : Int) = ((x <<< 8).toNat : Int) := by
    rw [UInt32.toNat_shiftLeft, Nat.shiftLeft_eq]
    have : (8 : UInt32).toNat % 32 = 8 := rfl
    rw [this]
    omega
  have e2 : (c.toNat : Int) % (4294967296 : Int) = ((c.toUInt32).toNat : Int) := by
    have := UInt8.toNat_lt c
    simp
    omega
  rw [e1, e2, or32]
theorem info8 : (Tryd.prog.info? 5).map (fun i => (i.zero, i.size, i.bytes)) = some (some (.int .u8 0), 1, 1) := by kernel_rfl
theorem slice_left (p k : Nat) (hk : k < 16) (X : World) :
    (Instr.sliceAt 72 (.pointer (some ⟨p, 8, Option.none⟩)) (some (.int .i64 (4 * (k : Int)))) (some (.int .i64 (4 * (k : Int) + 4))) Option.none).run Tryd.prog X = .ok (.slice (some ⟨p, 8 + 4 * k, Option.none⟩) 4 (64 - 4 * k)) X := by
  have hl : Tryd.prog.arrayLen 72 = 64 := by kernel_rfl
  have he : Tryd.prog.elem 72 = 5 := by kernel_rfl
  have ht : Tryd.prog.underlying 72 = some (.array (Tryd.prog.arrayLen 72) (Tryd.prog.elem 72)) := by rw [hl, he]; exact Tryd.underlying72
  rw [run_sliceAt_array_lh X _ ⟨p, 8, Option.none⟩ ht .i64 .i64 _ _ (by omega) (by omega) (by rw [hl]; omega), hl, he]
  have hz : (sizeOf 5).run Tryd.prog X = .ok 1 X := by
    obtain ⟨i, hq, _, hs, _⟩ := info_some info8
    simp [sizeOf, typeInfo, hq, hs]
  rw [hz]
  have e1 : (4 * (k : Int)).toNat = 4 * k := by omega
  have e2 : (4 * (k : Int) + 4).toNat = 4 * k + 4 := by omega
  have e3 : ¬64 = 4 * k := by omega
  have e4 : (⟨p, 8, Option.none⟩ : Addr).add (4 * k * 1) = ⟨p, 8 + 4 * k, Option.none⟩ := by unfold Addr.add; split <;> simp_all
  have e5 : 4 * k + 4 - 4 * k = 4 := by omega
  simp only [Result.andThen_ok, slicedAt, e1, e2, if_neg e3, e4, e5]
theorem shr_n (x : UInt32) (n : Nat) (hn : n < 32) : (x.toNat : Int) / ((2 ^ n : Nat) : Int) = ((x >>> UInt32.ofNat n).toNat : Int) := by
  rw [UInt32.toNat_shiftRight]
  have : (UInt32.ofNat n).toNat % 32 = n := by simp; omega
  rw [this, Nat.shiftRight_eq_div_pow]
  simp
theorem small0_eq (x : UInt32) : bits .xor .u32 (bits .xor .u32 ((rotr x 7).toNat : Int) ((rotr x 18).toNat : Int)) ((x.toNat : Int) / (8 : Int)) = ((small0 x).toNat : Int) := by
  have h := shr_n x 3 (by decide)
  rw [xor32, show ((x.toNat : Int) / (8 : Int)) = ((x >>> UInt32.ofNat 3).toNat : Int) from h, xor32]
  rfl
theorem small1_eq (x : UInt32) : bits .xor .u32 (bits .xor .u32 ((rotr x 17).toNat : Int) ((rotr x 19).toNat : Int)) ((x.toNat : Int) / (1024 : Int)) = ((small1 x).toNat : Int) := by
  have h := shr_n x 10 (by decide)
  rw [xor32, show ((x.toNat : Int) / (1024 : Int)) = ((x >>> UInt32.ofNat 10).toNat : Int) from h, xor32]
  rfl
theorem add4 (a b c d : UInt32) : ((a.toNat : Int) + (b.toNat : Int) + (c.toNat : Int) + (d.toNat : Int)) % (4294967296 : Int) = ((a + b + c + d).toNat : Int) := by
  simp only [UInt32.toNat_add]
  omega
theorem setCell_congr {F : SP} {w : World} {a : Addr} {u v : Value} (h : F.on (w.setCell a u)) (e : u = v) : F.on (w.setCell a v) := e ▸ h
abbrev zW : Array Value := wv (List.replicate 64 0)

set_option maxRecDepth 100000 in
set_option maxHeartbeats 8000000 in
theorem schedule_any (s : St) (m : List UInt8) (n p : Nat) (w : World) (hx : w.heap[p]? = some (.cells (cells s m n) 147 (0, 0))) (hm : m.length = 64) :
    Calls Tryd.prog 110 #[.pointer (some ⟨p, 0, Option.none⟩)] w (Makes w fun v => pure (v = .agg (wv (wL m 64)))) := by
  have hz : ∀ w, (zeroValue 148).run Tryd.prog w = .ok (.agg zW) w := fun w => by kernel_rfl
  have hua := Tryd.underlying148
  have hsa : (Tryd.prog.info? 148).map (·.size) = some 64 := by kernel_rfl
  have H0 : Hid ((blk (w.heap.size + 1) (.cells (wv (wL m 0)) 148 (0, 0)) * (blk w.heap.size (.cells zW 148 (0, 0)) * all w)).on ((w.alloc (.cells zW 148)).alloc (.cells zW 148))) := hide (by
    have := ((on_all w).alloc (.cells zW 148)).alloc (.cells zW 148)
    rw [World.size_alloc] at this
    exact this)
  have HS0 := hide (((Str.refl w).alloc (.cells zW 148)).alloc (.cells zW 148))
  have Hx := hide hx
  have Hm := hide hm
  clear hx hm
  go_enter Tryd.func110, Tryd.ntmps110
  go_wp2_with fail
  clear hz
  go_loopw [11] (fun i wr => ∃ k : Nat, k ≤ 64 ∧ i = .int .i64 k ∧ (blk (w.heap.size + 1) (.cells (wv (wL m k)) 148 (0, 0)) * (blk w.heap.size (.cells zW 148 (0, 0)) * all w)).on wr ∧ Str w wr) (fun i _ => 64 - (intOf i).toNat)
  case atStart => exact ⟨0, Nat.zero_le _, rfl, H0.out, HS0.out⟩
  case round =>
    obtain ⟨k, hk, rfl, hw, hstr⟩ := hrel
    by_cases hlt : k < 64
    · by_cases h16 : k < 16
      · rw [← wJ_zero m k hlt] at hw
        have HW := hide hw
        have HS := hide hstr
        have hsl := slice_left p k h16
        clear hw hstr H0 HS0
        go_wp2_with fail
        go_loopw [26] (fun i wr => ∃ j : Nat, j ≤ 4 ∧ i = .int .i64 j ∧ (blk (w.heap.size + 1) (.cells (wv (wJ m k j)) 148 (0, 0)) * (blk w.heap.size (.cells zW 148 (0, 0)) * all w)).on wr ∧ Str w wr) (fun i _ => 4 - (intOf i).toNat)
        case atStart => exact ⟨0, Nat.zero_le _, rfl, HW.out, HS.out⟩
        case round =>
          obtain ⟨j, hj, rfl, hw, hstr⟩ := hrel
          by_cases hjt : j < 4
          · have hB := all_below hw.right.right hstr
            have cl : wr.cell? ⟨p, 8 + 4 * k + j, Option.none⟩ = some (vb (m[4 * k + j]'(by rw [Hm.out]; omega))) := (show (8 + 4 * k + j) = 8 + (4 * k + j) by omega) ▸ (cell_of_row _ p (8 + (4 * k + j)) _ _ _ ((hB.block p (Array.getElem?_eq_some_iff.1 Hx.out).1).trans Hx.out)).trans (cells_left s m n _ (by rw [Hm.out]; omega))
            have cw := cell_of_blk hw k (wv_get _ k (wJ_get m k j))
            have fw := frozen_of_row _ (w.heap.size + 1) k _ _ (on_blk_mul hw)
            have HN := hide (wJ_next m k j)
            have e1 : m.getD (4 * k + j) 0 = m[4 * k + j]'(by rw [Hm.out]; omega) := by rw [List.getD_eq_getElem?_getD, List.getElem?_eq_getElem (by rw [Hm.out]; omega)]; rfl
            rw [e1] at HN
            have hset := fun x => hw.setCell (i := k) (v32 x)
            have HSet := hide hset
            have HSt := hide hstr
            generalize hc : m[4 * k + j]'(by rw [Hm.out]; omega) = c at *
            generalize wordN m (4 * k) j = x at *
            clear hc e1 hB hw hstr hset HW HS
            go_wp2_with fail
            exact ⟨⟨j + 1, by omega, by simp, by have h9 := HSet.out ((x <<< 8) ||| c.toUInt32); rw [wv_set, HN.out] at h9; exact setCell_congr h9 (congrArg (Value.int _) (by first | exact (shl8_or x c).symm | (rw [IntKind.wrap_u32, IntKind.wrap_u32]; exact (shl8_or x c).symm))), HSt.out.setCell _ _⟩, by simp [intOf]; omega⟩
          · obtain rfl : j = 4 := by omega
            rw [wJ_last m k h16] at hw
            have HW2 := hide hw
            have HS2 := hide hstr
            clear hw hstr HW HS
            go_wp2_with fail
            exact ⟨⟨k + 1, by omega, by simp, HW2.out, HS2.out⟩, by simp [intOf]; omega⟩
      · have hd : decide ((k : Int) < 16) = false := by simp; omega
        have hd2 : ¬ (k : Int) < 16 := by omega
        have c15 := cell_of_blk hw (k - 15) (wv_get _ _ (wL_get m k (k - 15) (by omega)))
        have c2 := cell_of_blk hw (k - 2) (wv_get _ _ (wL_get m k (k - 2) (by omega)))
        have c16 := cell_of_blk hw (k - 16) (wv_get _ _ (wL_get m k (k - 16) (by omega)))
        have c7 := cell_of_blk hw (k - 7) (wv_get _ _ (wL_get m k (k - 7) (by omega)))
        have hN := wL_set m k (by omega) hlt
        unfold nextW at hN
        generalize (sched m k).getD (k - 15) 0 = x15 at *
        generalize (sched m k).getD (k - 2) 0 = x2 at *
        generalize (sched m k).getD (k - 16) 0 = x16 at *
        generalize (sched m k).getD (k - 7) 0 = x7 at *
        have C15 : Hid (∀ X, Stay wr X → X.cell? ⟨w.heap.size + 1, k - 15, Option.none⟩ = some (v32 x15)) := hide fun X hT => (hT.cell (p := ⟨w.heap.size + 1, k - 15, Option.none⟩) (World.block_lt_of_cell? _ _ c15)).trans c15
        have C2 : Hid (∀ X, Stay wr X → X.cell? ⟨w.heap.size + 1, k - 2, Option.none⟩ = some (v32 x2)) := hide fun X hT => (hT.cell (p := ⟨w.heap.size + 1, k - 2, Option.none⟩) (World.block_lt_of_cell? _ _ c2)).trans c2
        have C16 : Hid (∀ X, Stay wr X → X.cell? ⟨w.heap.size + 1, k - 16, Option.none⟩ = some (v32 x16)) := hide fun X hT => (hT.cell (p := ⟨w.heap.size + 1, k - 16, Option.none⟩) (World.block_lt_of_cell? _ _ c16)).trans c16
        have C7 : Hid (∀ X, Stay wr X → X.cell? ⟨w.heap.size + 1, k - 7, Option.none⟩ = some (v32 x7)) := hide fun X hT => (hT.cell (p := ⟨w.heap.size + 1, k - 7, Option.none⟩) (World.block_lt_of_cell? _ _ c7)).trans c7
        have sub15 : IntKind.i64.wrap ((k : Int) - 15) = ((k - 15 : Nat) : Int) := by rw [IntWalk.i64_in _ (by omega)]; omega
        have sub2 : IntKind.i64.wrap ((k : Int) - 2) = ((k - 2 : Nat) : Int) := by rw [IntWalk.i64_in _ (by omega)]; omega
        have sub16 : IntKind.i64.wrap ((k : Int) - 16) = ((k - 16 : Nat) : Int) := by rw [IntWalk.i64_in _ (by omega)]; omega
        have sub7 : IntKind.i64.wrap ((k : Int) - 7) = ((k - 7 : Nat) : Int) := by rw [IntWalk.i64_in _ (by omega)]; omega
        have bd15 : ((k - 15 : Nat) : Int) < 64 := by omega
        have bd2 : ((k - 2 : Nat) : Int) < 64 := by omega
        have bd16 : ((k - 16 : Nat) : Int) < 64 := by omega
        have bd7 : ((k - 7 : Nat) : Int) < 64 := by omega
        have HSb := hide (⟨sub15, sub2, sub16, sub7⟩ : IntKind.i64.wrap ((k : Int) - 15) = ((k - 15 : Nat) : Int) ∧ IntKind.i64.wrap ((k : Int) - 2) = ((k - 2 : Nat) : Int) ∧ IntKind.i64.wrap ((k : Int) - 16) = ((k - 16 : Nat) : Int) ∧ IntKind.i64.wrap ((k : Int) - 7) = ((k - 7 : Nat) : Int))
        have HN := hide hN
        have HW := hide hw
        have HS := hide hstr
        clear hw hstr H0 HS0 hN c15 c2 c16 c7 sub15 sub2 sub16 sub7
        go_wp2_with fail
        obtain ⟨sub15, sub2, sub16, sub7⟩ := HSb.out
        refine wp_region_vs [isV (.int .i64 (k : Int)), isV (.int .i64 ((k - 15 : Nat) : Int)), isV (.pointer (some ⟨w.heap.size + 1, k - 15, Option.none⟩)), isV (v32 x15), isV (.int .i64 (k : Int)), isV (.int .i64 ((k - 2 : Nat) : Int)), isV (.pointer (some ⟨w.heap.size + 1, k - 2, Option.none⟩)), isV (v32 x2), isV (v32 x15), isV (v32 x2)]
          (by kernel_rfl) (by kernel_rfl) rfl ?keep ?todo ?rest
        case keep => exact ⟨Keep.isV _, Keep.isV _, Keep.isV _, Keep.isV _, Keep.isV _, Keep.isV _, Keep.isV _, Keep.isV _, Keep.isV _, Keep.isV _, trivial⟩
        case todo =>
          refine ⟨?_, ?_, ?_, ?_, ?_, ?_, ?_, ?_, ?_, ?_, trivial⟩
          · intro ev X hT hb hk hf
            have e0 : ev (.tmp 4) = .int .i64 (k : Int) := hk.1
            exact OpOk.move rfl e0 ⟨rfl, Stay.refl _⟩
          · intro ev X hT hb hk hf
            have e0 : ev (.tmp 40) = .int .i64 (k : Int) := hf.1
            exact OpOk.run (v := .int .i64 ((k - 15 : Nat) : Int)) (W' := X) (by simp [execOp, e0, hb.1, sub15, go_sem]) ⟨rfl, Stay.refl _⟩
          · intro ev X hT hb hk hf
            have e0 : ev (.tmp 3) = .pointer (some ⟨w.heap.size + 1, 0, Option.none⟩) := hk.1
            have e1 : ev (.tmp 41) = .int .i64 ((k - 15 : Nat) : Int) := hf.1
            exact OpOk.run (v := .pointer (some ⟨w.heap.size + 1, k - 15, Option.none⟩)) (W' := X) (by simp [execOp, e0, e1, hb.1, bd15, go_sem]) ⟨rfl, Stay.refl _⟩
          · intro ev X hT hb hk hf
            have e0 : ev (.tmp 42) = .pointer (some ⟨w.heap.size + 1, k - 15, Option.none⟩) := hf.1
            have cW := C15.out X hT
            exact OpOk.run (v := v32 x15) (W' := X) (by simp [execOp, e0, cW, go_sem]) ⟨rfl, Stay.refl _⟩
          · intro ev X hT hb hk hf
            have e0 : ev (.tmp 4) = .int .i64 (k : Int) := hk.1
            exact OpOk.move rfl e0 ⟨rfl, Stay.refl _⟩
          · intro ev X hT hb hk hf
            have e0 : ev (.tmp 44) = .int .i64 (k : Int) := hf.1
            exact OpOk.run (v := .int .i64 ((k - 2 : Nat) : Int)) (W' := X) (by simp [execOp, e0, hb.1, sub2, go_sem]) ⟨rfl, Stay.refl _⟩
          · intro ev X hT hb hk hf
            have e0 : ev (.tmp 3) = .pointer (some ⟨w.heap.size + 1, 0, Option.none⟩) := hk.1
            have e1 : ev (.tmp 45) = .int .i64 ((k - 2 : Nat) : Int) := hf.1
            exact OpOk.run (v := .pointer (some ⟨w.heap.size + 1, k - 2, Option.none⟩)) (W' := X) (by simp [execOp, e0, e1, hb.1, bd2, go_sem]) ⟨rfl, Stay.refl _⟩
          · intro ev X hT hb hk hf
            have e0 : ev (.tmp 46) = .pointer (some ⟨w.heap.size + 1, k - 2, Option.none⟩) := hf.1
            have cW := C2.out X hT
            exact OpOk.run (v := v32 x2) (W' := X) (by simp [execOp, e0, cW, go_sem]) ⟨rfl, Stay.refl _⟩
          · intro ev X hT hb hk hf
            have e0 : ev (.tmp 43) = v32 x15 := hf.1
            exact OpOk.assign rfl e0 ⟨rfl, Stay.refl _⟩
          · intro ev X hT hb hk hf
            have e0 : ev (.tmp 47) = v32 x2 := hf.1
            exact OpOk.assign rfl e0 ⟨rfl, Stay.refl _⟩
        case rest =>
          intro X hT
          rintro _ rfl _ rfl _ rfl _ rfl _ rfl _ rfl _ rfl _ rfl _ rfl _ rfl
          have HT := hide hT
          clear hT sub15 sub2 sub16 sub7
          go_wp2
          refine Rest.done ?_
          go_wp2_with fail
          refine (right_any x15 7 (by decide) _).mono ?_
          rintro e _ ⟨rfl, rfl⟩
          go_wp2_with fail
          refine (right_any x15 18 (by decide) _).mono ?_
          rintro e _ ⟨rfl, rfl⟩
          go_wp2_with fail
          refine (right_any x2 17 (by decide) _).mono ?_
          rintro e _ ⟨rfl, rfl⟩
          go_wp2_with fail
          refine (right_any x2 19 (by decide) _).mono ?_
          rintro e _ ⟨rfl, rfl⟩
          go_wp2_with fail
          rw [small0_eq x15, small1_eq x2]
          obtain ⟨sub15, sub2, sub16, sub7⟩ := HSb.out
          have C16' : Hid (∀ Y, Stay X Y → Y.cell? ⟨w.heap.size + 1, k - 16, Option.none⟩ = some (v32 x16)) := hide fun Y h => C16.out Y (Stay.trans HT.out h)
          have C7' : Hid (∀ Y, Stay X Y → Y.cell? ⟨w.heap.size + 1, k - 7, Option.none⟩ = some (v32 x7)) := hide fun Y h => C7.out Y (Stay.trans HT.out h)
          generalize small0 x15 = s0 at *
          generalize small1 x2 = s1 at *
          refine wp_region_tail 14 [isV (.int .i64 (k : Int)), isV (.int .i64 (k : Int)), isV (.int .i64 ((k - 16 : Nat) : Int)), isV (.pointer (some ⟨w.heap.size + 1, k - 16, Option.none⟩)), isV (v32 x16), isV (v32 s0), isV (v32 (x16 + s0)), isV (.int .i64 (k : Int)), isV (.int .i64 ((k - 7 : Nat) : Int)), isV (.pointer (some ⟨w.heap.size + 1, k - 7, Option.none⟩)), isV (v32 x7), isV (v32 (x16 + s0 + x7)), isV (v32 s1), isV (v32 (x16 + s0 + x7 + s1))]
            (by simp only [List.take_succ_cons, List.take_zero]; rfl) (by simp only [List.drop_succ_cons, List.drop_zero]; rfl) (by kernel_rfl) (by kernel_rfl) (by kernel_rfl) (by decide) rfl ?keep ?todo ?rest
          case keep => exact ⟨Keep.isV _, Keep.isV _, Keep.isV _, Keep.isV _, Keep.isV _, Keep.isV _, Keep.isV _, Keep.isV _, Keep.isV _, Keep.isV _, Keep.isV _, Keep.isV _, Keep.isV _, Keep.isV _, trivial⟩
          case todo =>
            refine ⟨?_, ?_, ?_, ?_, ?_, ?_, ?_, ?_, ?_, ?_, ?_, ?_, ?_, ?_, trivial⟩
            · intro ev X hT hb hk hf
              have e0 : ev (.tmp 4) = .int .i64 (k : Int) := hk.1
              exact OpOk.move rfl e0 ⟨rfl, Stay.refl _⟩
            · intro ev X hT hb hk hf
              have e0 : ev (.tmp 4) = .int .i64 (k : Int) := hk.1
              exact OpOk.move rfl e0 ⟨rfl, Stay.refl _⟩
            · intro ev X hT hb hk hf
              have e0 : ev (.tmp 65) = .int .i64 (k : Int) := hf.1
              exact OpOk.run (v := .int .i64 ((k - 16 : Nat) : Int)) (W' := X) (by simp [execOp, e0, hb.1, sub16, go_sem]) ⟨rfl, Stay.refl _⟩
            · intro ev X hT hb hk hf
              have e0 : ev (.tmp 3) = .pointer (some ⟨w.heap.size + 1, 0, Option.none⟩) := hk.1
              have e1 : ev (.tmp 66) = .int .i64 ((k - 16 : Nat) : Int) := hf.1
              exact OpOk.run (v := .pointer (some ⟨w.heap.size + 1, k - 16, Option.none⟩)) (W' := X) (by simp [execOp, e0, e1, hb.1, bd16, go_sem]) ⟨rfl, Stay.refl _⟩
            · intro ev X hT hb hk hf
              have e0 : ev (.tmp 67) = .pointer (some ⟨w.heap.size + 1, k - 16, Option.none⟩) := hf.1
              have cW := C16'.out X hT
              exact OpOk.run (v := v32 x16) (W' := X) (by simp [execOp, e0, cW, go_sem]) ⟨rfl, Stay.refl _⟩
            · intro ev X hT hb hk hf
              have e0 : ev (.tmp 9) = v32 s0 := hk.1
              exact OpOk.move rfl e0 ⟨rfl, Stay.refl _⟩
            · intro ev X hT hb hk hf
              have e0 : ev (.tmp 68) = v32 x16 := hf.1
              have e1 : ev (.tmp 69) = v32 s0 := hf.2.1
              exact OpOk.run (v := v32 (x16 + s0)) (W' := X) (by simp [execOp, e0, e1, hb.1, add32, -UInt32.toNat_add, -UInt32.toNat_xor, -UInt32.toNat_and, -UInt32.toNat_or, -UInt32.toNat_not, go_sem]) ⟨rfl, Stay.refl _⟩
            · intro ev X hT hb hk hf
              have e0 : ev (.tmp 4) = .int .i64 (k : Int) := hk.1
              exact OpOk.move rfl e0 ⟨rfl, Stay.refl _⟩
            · intro ev X hT hb hk hf
              have e0 : ev (.tmp 71) = .int .i64 (k : Int) := hf.1
              exact OpOk.run (v := .int .i64 ((k - 7 : Nat) : Int)) (W' := X) (by simp [execOp, e0, hb.1, sub7, go_sem]) ⟨rfl, Stay.refl _⟩
            · intro ev X hT hb hk hf
              have e0 : ev (.tmp 3) = .pointer (some ⟨w.heap.size + 1, 0, Option.none⟩) := hk.1
              have e1 : ev (.tmp 72) = .int .i64 ((k - 7 : Nat) : Int) := hf.1
              exact OpOk.run (v := .pointer (some ⟨w.heap.size + 1, k - 7, Option.none⟩)) (W' := X) (by simp [execOp, e0, e1, hb.1, bd7, go_sem]) ⟨rfl, Stay.refl _⟩
            · intro ev X hT hb hk hf
              have e0 : ev (.tmp 73) = .pointer (some ⟨w.heap.size + 1, k - 7, Option.none⟩) := hf.1
              have cW := C7'.out X hT
              exact OpOk.run (v := v32 x7) (W' := X) (by simp [execOp, e0, cW, go_sem]) ⟨rfl, Stay.refl _⟩
            · intro ev X hT hb hk hf
              have e0 : ev (.tmp 70) = v32 (x16 + s0) := hf.1
              have e1 : ev (.tmp 74) = v32 x7 := hf.2.1
              exact OpOk.run (v := v32 (x16 + s0 + x7)) (W' := X) (by simp [execOp, e0, e1, hb.1, add32, -UInt32.toNat_add, -UInt32.toNat_xor, -UInt32.toNat_and, -UInt32.toNat_or, -UInt32.toNat_not, go_sem]) ⟨rfl, Stay.refl _⟩
            · intro ev X hT hb hk hf
              have e0 : ev (.tmp 10) = v32 s1 := hk.1
              exact OpOk.move rfl e0 ⟨rfl, Stay.refl _⟩
            · intro ev X hT hb hk hf
              have e0 : ev (.tmp 75) = v32 (x16 + s0 + x7) := hf.1
              have e1 : ev (.tmp 76) = v32 s1 := hf.2.1
              exact OpOk.run (v := v32 (x16 + s0 + x7 + s1)) (W' := X) (by simp [execOp, e0, e1, hb.1, add32, -UInt32.toNat_add, -UInt32.toNat_xor, -UInt32.toNat_and, -UInt32.toNat_or, -UInt32.toNat_not, go_sem]) ⟨rfl, Stay.refl _⟩
          case rest =>
            intro X2 hT2
            rintro _ rfl _ rfl _ rfl _ rfl _ rfl _ rfl _ rfl _ rfl _ rfl _ rfl _ rfl _ rfl _ rfl _ rfl
            have hB := Stay.trans HT.out hT2
            have hw2 := HW.out.below hB
            have fr := frozen_of_row _ (w.heap.size + 1) k _ _ (on_blk_mul hw2)
            have ck := cell_of_blk hw2 k (wv_get _ k (show (wL m k)[k]? = some (wordN m (4 * k) 0) by rw [← wJ_zero m k hlt]; exact wJ_get m k 0))
            have HSet := hide (hw2.setCell (i := k) (v32 (x16 + s0 + x7 + s1)))
            have HS2 := hide (HS.out.trans (Str.below hB))
            clear hw2 hT2 hB sub15 sub2 sub16 sub7
            go_wp2
            refine Rest.done ?_
            go_wp2_with fail
            exact ⟨⟨k + 1, by omega, by simp, by have h9 := HSet.out; rw [wv_set, HN.out] at h9; exact setCell_congr h9 (congrArg (Value.int _) (by simp only [UInt32.toNat_add, IntKind.wrap_u32]; omega)), HS2.out.setCell _ _⟩, by simp [intOf]; omega⟩
    · obtain rfl : k = 64 := by omega
      have h2 := on_blk_mul hw.right
      have h3 := on_blk_mul hw
      have hsz : (wv (wL m 64)).size = 64 := by rw [wv_size, wL_len m _ (Nat.le_refl _)]
      have hzz : zW.size = (wv (wL m 64)).size := by rw [hsz, wv_size, List.length_replicate]
      have HF := hide ((hw.right.setRow (wv (wL m 64))).right)
      have HS := hide hstr
      have ho := wv_one (wL m 64)
      rw [← hsz] at hsa
      clear hw hstr H0 HS0 hk hlt
      generalize hrw : wv (wL m 64) = rw at *
      have HR := hide hrw
      clear hrw
      go_wp2_with (first
        | (refine wpList_load_row rfl _ _ rfl (w.heap.size + 1) rfl _ rw _ _ h3 hua rfl hsa ?_)
        | (refine wpList_store_row rfl _ _ _ rfl w.heap.size rw rfl rfl _ _ h2 hsa hzz ho ?_))
      refine bodyPost_ret (v := .agg rw) (results_cell_row Tryd.results110 _ _ w.heap.size _ rw (0, 0) _ rfl (setRow_heap_same _ _ _ _ _ _ h2) hua rfl hsa) rfl ?_
      exact ⟨_, rfl, on_pure_mul.2 ⟨congrArg Value.agg HR.out.symm, HF.out⟩, HS.out.setRow _ _⟩
end Sha32
end Go.Proofs.YtgkofpfjbjnhfaaDoor
