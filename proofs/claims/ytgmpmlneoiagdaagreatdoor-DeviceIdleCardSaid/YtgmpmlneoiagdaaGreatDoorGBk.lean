/- LAID TOGETHER: Bank, Bank2, Bank3. -/
import Derived.Test.YtgmpmlneoiagdaaGreatDoorGFl
import Derived.Test.YtgmpmlneoiagdaaGreatDoorGFlN
import Derived.Test.YtgmpmlneoiagdaaGreatDoorGBase
import Derived.BigQuiet
import Derived.Test.YtgmpmlneoiagdaaGreatDoorSetMath
/- The Go functions of bank: where its bytes begin, which are inside, and no bank. -/
namespace Go.Proofs.YtgmpmlneoiagdaaGreatDoor
open Go.ChangeShapes Go.WideShapes Go.ChangeAt Go.RowKit
set_option linter.unusedVariables false

abbrev bankV (fp : Value) (first : Int) : Value := .agg #[fp, .int .i64 first]
theorem new1 {w : World} {o : Obj} : Below w.heap.size w (w.alloc o) := (Below.refl _ _).alloc (Nat.le_refl _) o

theorem inside_no (a n : Int) (w : World) (ha : 0 ≤ a) (ha2 : a ≤ 4096) (hn : 0 ≤ n) (h : n ≤ 4096 - a) :
    Calls Tryz.prog 63 #[.int .i64 a, .int .i64 n] w fun e w' => e = .returned (.bool true) ∧ w = w' := by
  go_enter Tryz.func63, Tryz.ntmps63
  go_wp2_with fail
  go_ret
  exact ⟨rfl, rfl⟩
theorem begin_any (fp : Value) (first : Nat) (h : first ≤ 64) (w : World) :
    Calls Tryz.prog 64 #[bankV fp first] w fun e w' => e = .returned (.int .i64 ((first * 256 : Nat) : Int)) ∧ Below w.heap.size w w' := by
  go_enter Tryz.func64, Tryz.ntmps64
  go_wp2_with fail
  go_ret
  exact ⟨by simp, new1⟩
theorem exists_any (p : Nat) (s : FlS) (F : SP) (w : World) (h : (Flash p s * F).on w) (ok : s.Ok) (first : Nat) (hf : first + 16 ≤ s.worn.length) :
    Calls Tryz.prog 62 #[bankV (fptr p) first] w fun e w' => e = .returned (.bool true) ∧ Below w.heap.size w w' := by
  have hm := ok.most
  have hp := ok.pages
  have hq := fun n => size_any p s F ((w.alloc (.cells #[fptr p, .int .i64 first] 82)).drewN n) ((h.alloc' _).drewN n) ok
  have Hq := hide hq
  have h256 : s.B.length ≤ 16384 := by omega
  have d0 : decide ((0 : Int) ≤ (first : Int)) = true := by simp
  have e1 : (s.B.length : Int).tdiv 256 = (s.worn.length : Int) := by rw [hp, Int.tdiv_eq_ediv_of_nonneg (by omega)]; omega
  have e2 : IntKind.i64.wrap ((s.worn.length : Int)) = (s.worn.length : Int) := by rw [IntWalk.i64_in _ (by omega)]
  have e3 : IntKind.i64.wrap ((s.worn.length : Int) - 16) = ((s.worn.length - 16 : Nat) : Int) := by rw [IntWalk.i64_in _ (by omega)]; omega
  have d1 : decide (first ≤ s.worn.length - 16) = true := by simp; omega
  clear hq h hm hp
  go_enter Tryz.func62, Tryz.ntmps62
  go_wp2_with fail
  go_quiet ((go_at_call 16; exact Calls.quiet_of_same ((Hq.out _).mono fun _ _ ⟨h1, h2⟩ => ⟨h1, h2.symm⟩)))
  go_wp2_with fail
  go_ret
  exact ⟨rfl, Below.drewN' new1 _⟩
end Go.Proofs.YtgmpmlneoiagdaaGreatDoor

/- bank: bytes of an image, and what is written. -/
namespace Go.Proofs.YtgmpmlneoiagdaaGreatDoor
open Go.ChangeShapes Go.WideShapes Go.ChangeAt Go.RowKit
set_option linter.unusedVariables false

set_option maxRecDepth 100000 in
set_option maxHeartbeats 2000000 in
theorem bytes_any (p : Nat) (s : FlS) (F : SP) (w : World) (h : (Flash p s * F).on w) (ok : s.Ok) (hoff : s.off = false) (first a n : Nat) (hf : first + 16 ≤ s.worn.length) (han : a + n ≤ 4096) :
    Calls Tryz.prog 46 #[bankV (fptr p) first, .int .i64 a, .int .i64 n] w (Makes w (readQ ((s.B.drop (first * 256 + a)).take n))) := by
  have hm := ok.most
  have hp := ok.pages
  have hE := exists_any p s F _ (h.alloc' (.cells #[fptr p, .int .i64 first] 82)) ok first hf
  go_enter Tryz.func46, Tryz.ntmps46
  go_wp2_with fail
  refine hE.mono ?_
  rintro e w1 ⟨rfl, hb1⟩
  have hbl := (hb1.block w.heap.size (by simp)).trans (heap_alloc_new w (.cells #[fptr p, .int .i64 first] 82))
  have HB := hide (Below.trans new1 (hb1.mono (by simp)))
  have HI := hide (inside_no a n w1 (by omega) (by omega) (by omega) (by omega))
  clear hE hb1
  go_wp2_with fail
  refine HI.out.mono ?_
  rintro e w2 ⟨rfl, rfl⟩
  have HFl := hide (h.below HB.out)
  have c0 := cell_of_row w1 w.heap.size 0 _ _ _ hbl
  have c1 := cell_of_row w1 w.heap.size 1 _ _ _ hbl
  simp only [List.getElem?_toArray, List.getElem?_cons_zero, List.getElem?_cons_succ] at c0 c1
  clear hbl
  go_wp2_with fail
  have a1 : IntKind.i64.wrap ((first : Int) * 256 + (a : Int)) = (first : Int) * 256 + (a : Int) := by rw [IntWalk.i64_in _ (by omega)]
  generalize hB : (s.B.drop (first * 256 + a)).take n = bs
  have HBs := hide hB
  clear hB
  refine wp_region_vs [isV (.pointer (some ⟨w.heap.size, 0, Option.none⟩)), isV (fptr p), isV (bankV (fptr p) first), isV (.int .i64 ((first : Int) * 256)), isV (.int .i64 (a : Int)), isV (.int .i64 ((first : Int) * 256 + (a : Int))), isV (.int .i64 (n : Int)),
    (fun v w => (readQ bs v * all w1).on w), (fun v w => (ownBy v bs * all w1).on w), isV (.int .i64 0), (fun v w => (ownBy v bs * all w1).on w), isV (.int .i64 0)] (by kernel_rfl) (by kernel_rfl) rfl ?keep ?todo ?rest
  case keep =>
    exact ⟨Keep.isV _, Keep.isV _, Keep.isV _, Keep.isV _, Keep.isV _, Keep.isV _, Keep.isV _, fun _ _ _ h k => SP.on.below h k, fun _ _ _ h k => SP.on.below h k, Keep.isV _, fun _ _ _ h k => SP.on.below h k, Keep.isV _, trivial⟩
  case todo =>
    refine ⟨?_, ?_, ?_, ?_, ?_, ?_, ?_, ?_, ?_, ?_, ?_, ?_, trivial⟩
    · intro ev W hT hb hk hf
      have e0 : ev (.tmp 3) = .pointer (some ⟨w.heap.size, 0, Option.none⟩) := hk.1
      exact OpOk.run (v := .pointer (some ⟨w.heap.size, 0, Option.none⟩)) (W' := W) (by simp [execOp, e0, go_sem]) ⟨rfl, Stay.refl _⟩
    · intro ev W hT hb hk hf
      have e0 : ev (.tmp 15) = .pointer (some ⟨w.heap.size, 0, Option.none⟩) := hf.1
      have d0 := (hT.cell (p := ⟨w.heap.size, 0, Option.none⟩) (World.block_lt_of_cell? w1 _ c0)).trans c0
      exact OpOk.run (v := fptr p) (W' := W) (by simp [execOp, e0, d0, go_sem]) ⟨rfl, Stay.refl _⟩
    · intro ev W hT hb hk hf
      have e0 : ev (.tmp 3) = .pointer (some ⟨w.heap.size, 0, Option.none⟩) := hk.1
      have d0 := (hT.cell (p := ⟨w.heap.size, 0, Option.none⟩) (World.block_lt_of_cell? w1 _ c0)).trans c0
      have d1 := (hT.cell (p := ⟨w.heap.size, 1, Option.none⟩) (World.block_lt_of_cell? w1 _ c1)).trans c1
      exact OpOk.run (v := bankV (fptr p) first) (W' := W) (by simp [execOp, e0, d0, d1, go_sem]) ⟨rfl, Stay.refl _⟩
    · intro ev W hT hb hk hf
      have e0 : ev (.tmp 17) = bankV (fptr p) first := hf.1
      refine OpOk.enters (f := 64) (args := #[ev (.tmp 17)]) (W' := W) (by simp [execOp, resolve, invoke, hb.2.1, go_sem]) ?_
      rw [e0]
      refine (begin_any (fptr p) first (by omega) W).mono ?_
      rintro e w' ⟨rfl, hs'⟩
      exact ⟨_, rfl, (by simp : Value.int .i64 ((first * 256 : Nat) : Int) = .int .i64 ((first : Int) * 256)), hs'⟩
    · exact fun ev W hT hb hk hf => OpOk.move rfl hk.1 ⟨rfl, Stay.refl _⟩
    · intro ev W hT hb hk hf
      have e0 : ev (.tmp 18) = .int .i64 ((first : Int) * 256) := hf.1
      have e1 : ev (.tmp 19) = .int .i64 (a : Int) := hf.2.1
      exact OpOk.run (v := .int .i64 ((first : Int) * 256 + (a : Int))) (W' := W) (by simp [execOp, e0, e1, a1, go_sem]) ⟨rfl, Stay.refl _⟩
    · exact fun ev W hT hb hk hf => OpOk.move rfl hk.1 ⟨rfl, Stay.refl _⟩
    · intro ev W hT hb hk hf
      have e0 : ev (.tmp 16) = fptr p := hf.1
      have e1 : ev (.tmp 20) = .int .i64 ((first : Int) * 256 + (a : Int)) := hf.2.1
      have e2 : ev (.tmp 21) = .int .i64 (n : Int) := hf.2.2.1
      refine OpOk.enters (f := 33) (args := #[ev (.tmp 16), ev (.tmp 20), ev (.tmp 21)]) (W' := W) (by simp [execOp, resolve, invoke, hb.2.1, go_sem]) ?_
      rw [e0, e1, e2, show ((first : Int) * 256 + (a : Int)) = ((first * 256 + a : Nat) : Int) by simp]
      refine (flread_any p s F W (HFl.out.below hT) ok hoff (first * 256 + a) n (by omega)).mono ?_
      rw [HBs.out]
      rintro e w' ⟨v', rfl, ho', hs'⟩
      exact ⟨_, rfl, on_all_to ho' ((on_all w1).below hT), all_below ho'.right hs'⟩
    · intro ev W hT hb hk hf
      obtain ⟨x, e0, ho⟩ := readQ.out (show (readQ bs (ev (.tmp 22)) * all w1).on W from hf.1)
      exact OpOk.run (v := x) (W' := W) (by simp [execOp, e0, go_sem]) ⟨ho, Stay.refl _⟩
    · intro ev W hT hb hk hf
      obtain ⟨x, e0, ho⟩ := readQ.out (show (readQ bs (ev (.tmp 22)) * all w1).on W from hf.1)
      exact OpOk.run (v := .int .i64 0) (W' := W) (by simp [execOp, e0, go_sem]) ⟨rfl, Stay.refl _⟩
    · exact fun ev W hT hb hk hf => OpOk.assign rfl rfl ⟨hf.1, Stay.refl _⟩
    · exact fun ev W hT hb hk hf => OpOk.assign rfl hf.1 ⟨rfl, Stay.refl _⟩
  case rest =>
    intro W hT
    rintro _ rfl _ rfl _ rfl _ rfl _ rfl _ rfl _ rfl v22 - v23 - _ rfl v6 ho _ rfl
    have HS := hide (Str.below (HB.out.trans (hT.mono HB.out.size)))
    have HO := hide (on_all_to ho ((on_all w).below HB.out))
    clear ho hT
    go_wp2
    refine Rest.done ?_
    go_wp2_with fail
    go_ret2
    refine ⟨_, rfl, ?_, HS.out⟩
    rw [HBs.out]
    exact readQ.in HO.out

/-- parts, one behind the other, up to a whole word -/
def padW (l : List UInt8) : List UInt8 := l ++ List.replicate ((4 - l.length % 4) % 4) 255
end Go.Proofs.YtgmpmlneoiagdaaGreatDoor

/- bank: pages are erased, bytes are written, whatever comes of it. -/
namespace Go.Proofs.YtgmpmlneoiagdaaGreatDoor
open Go.ChangeShapes Go.WideShapes Go.ChangeAt Go.RowKit
set_option linter.unusedVariables false
set_option linter.unusedSimpArgs false

/-- so many pages of a bank are erased, from one on -/
def FlS.clr (s : FlS) (first a : Nat) : Nat → FlS × Nat
  | 0 => (s, 0)
  | k + 1 => if (s.era (first + a)).2 = 0 then (s.era (first + a)).1.clr first (a + 1) k else s.era (first + a)
end Go.Proofs.YtgmpmlneoiagdaaGreatDoor
