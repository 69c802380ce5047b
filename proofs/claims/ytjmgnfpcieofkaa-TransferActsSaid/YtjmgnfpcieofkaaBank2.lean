/- bank: bytes of an image, and what is written. -/
import Derived.Test.YtjmgnfpcieofkaaBank
namespace Go.Proofs.Ytjmgnfpcieofkaa
open Go.ChangeShapes Go.WideShapes Go.ChangeAt Go.RowKit
set_option linter.unusedVariables false

def zdig : Array Value := Array.replicate 32 (.int .u8 0)
theorem zdig_size : zdig.size = 32 := by simp [zdig]
theorem zdig_one : zdig.all (·.oneCell') = true := by unfold zdig; kernel_rfl
set_option maxRecDepth 100000 in
set_option maxHeartbeats 2000000 in
theorem bytes_any (p : Nat) (s : FlS) (F : SP) (w : World) (h : (Flash p s * F).on w) (ok : s.Ok) (hoff : s.off = false) (first a n : Nat) (hf : first + 16 ≤ s.worn.length) (han : a + n ≤ 4096) :
    Calls Try.prog 63 #[bankV (fptr p) first, .int .i64 a, .int .i64 n] w (Makes w (readQ ((s.B.drop (first * 256 + a)).take n))) := by
  have hm := ok.most
  have hp := ok.pages
  have hE := exists_any p s F _ (h.alloc' (.cells #[fptr p, .int .i64 first] 113)) ok first hf
  go_enter Try.func63, Try.ntmps63
  go_wp2_with fail
  refine hE.mono ?_
  rintro e w1 ⟨rfl, hb1⟩
  have hbl := (hb1.block w.heap.size (by simp)).trans (heap_alloc_new w (.cells #[fptr p, .int .i64 first] 113))
  have HB := hide (Below.trans new1 (hb1.mono (by simp)))
  have HI := hide (inside_no a n w1 (by omega) (by omega) (by omega) (by omega))
  clear hE hb1
  go_wp2_with fail
  refine HI.out.mono ?_
  rintro e w2 ⟨rfl, rfl⟩
  have HFl := hide (h.below HB.out)
  have c0 := cell_of_row w1 w.heap.size 0 _ _ _ hbl
  have c1 := cell_of_row w1 w.heap.size 1 _ _ _ hbl
  simp only [List.getElem?_toArray, List.getElem?_cons_zero, List.getElem?_cons_succ] at c0 c1
  clear hbl
  go_wp2_with fail
  have a1 : IntKind.i64.wrap ((first : Int) * 256 + (a : Int)) = (first : Int) * 256 + (a : Int) := by rw [IntWalk.i64_in _ (by omega)]
  generalize hB : (s.B.drop (first * 256 + a)).take n = bs
  have HBs := hide hB
  clear hB
  refine wp_region_vs [isV (.pointer (some ⟨w.heap.size, 0, Option.none⟩)), isV (fptr p), isV (bankV (fptr p) first), isV (.int .i64 ((first : Int) * 256)), isV (.int .i64 (a : Int)), isV (.int .i64 ((first : Int) * 256 + (a : Int))), isV (.int .i64 (n : Int)),
    (fun v w => (readQ bs v * all w1).on w), (fun v w => (ownBy v bs * all w1).on w), isV (.int .i64 0), (fun v w => (ownBy v bs * all w1).on w), isV (.int .i64 0)] (by kernel_rfl) (by kernel_rfl) rfl ?keep ?todo ?rest
  case keep =>
    exact ⟨Keep.isV _, Keep.isV _, Keep.isV _, Keep.isV _, Keep.isV _, Keep.isV _, Keep.isV _, fun _ _ _ h k => SP.on.below h k, fun _ _ _ h k => SP.on.below h k, Keep.isV _, fun _ _ _ h k => SP.on.below h k, Keep.isV _, trivial⟩
  case todo =>
    refine ⟨?_, ?_, ?_, ?_, ?_, ?_, ?_, ?_, ?_, ?_, ?_, ?_, trivial⟩
    · intro ev W hT hb hk hf
      have e0 : ev (.tmp 3) = .pointer (some ⟨w.heap.size, 0, Option.none⟩) := hk.1
      exact OpOk.run (v := .pointer (some ⟨w.heap.size, 0, Option.none⟩)) (W' := W) (by simp [execOp, e0, go_sem]) ⟨rfl, Stay.refl _⟩
    · intro ev W hT hb hk hf
      have e0 : ev (.tmp 15) = .pointer (some ⟨w.heap.size, 0, Option.none⟩) := hf.1
      have d0 := (hT.cell (p := ⟨w.heap.size, 0, Option.none⟩) (World.block_lt_of_cell? w1 _ c0)).trans c0
      exact OpOk.run (v := fptr p) (W' := W) (by simp [execOp, e0, d0, go_sem]) ⟨rfl, Stay.refl _⟩
    · intro ev W hT hb hk hf
      have e0 : ev (.tmp 3) = .pointer (some ⟨w.heap.size, 0, Option.none⟩) := hk.1
      have d0 := (hT.cell (p := ⟨w.heap.size, 0, Option.none⟩) (World.block_lt_of_cell? w1 _ c0)).trans c0
      have d1 := (hT.cell (p := ⟨w.heap.size, 1, Option.none⟩) (World.block_lt_of_cell? w1 _ c1)).trans c1
      exact OpOk.run (v := bankV (fptr p) first) (W' := W) (by simp [execOp, e0, d0, d1, go_sem]) ⟨rfl, Stay.refl _⟩
    · intro ev W hT hb hk hf
      have e0 : ev (.tmp 17) = bankV (fptr p) first := hf.1
      refine OpOk.enters (f := 94) (args := #[ev (.tmp 17)]) (W' := W) (by simp [execOp, resolve, invoke, hb.2.1, go_sem]) ?_
      rw [e0]
      refine (begin_any (fptr p) first (by omega) W).mono ?_
      rintro e w' ⟨rfl, hs'⟩
      exact ⟨_, rfl, (by simp : Value.int .i64 ((first * 256 : Nat) : Int) = .int .i64 ((first : Int) * 256)), hs'⟩
    · exact fun ev W hT hb hk hf => OpOk.move rfl hk.1 ⟨rfl, Stay.refl _⟩
    · intro ev W hT hb hk hf
      have e0 : ev (.tmp 18) = .int .i64 ((first : Int) * 256) := hf.1
      have e1 : ev (.tmp 19) = .int .i64 (a : Int) := hf.2.1
      exact OpOk.run (v := .int .i64 ((first : Int) * 256 + (a : Int))) (W' := W) (by simp [execOp, e0, e1, a1, go_sem]) ⟨rfl, Stay.refl _⟩
    · exact fun ev W hT hb hk hf => OpOk.move rfl hk.1 ⟨rfl, Stay.refl _⟩
    · intro ev W hT hb hk hf
      have e0 : ev (.tmp 16) = fptr p := hf.1
      have e1 : ev (.tmp 20) = .int .i64 ((first : Int) * 256 + (a : Int)) := hf.2.1
      have e2 : ev (.tmp 21) = .int .i64 (n : Int) := hf.2.2.1
      refine OpOk.enters (f := 13) (args := #[ev (.tmp 16), ev (.tmp 20), ev (.tmp 21)]) (W' := W) (by simp [execOp, resolve, invoke, hb.2.1, go_sem]) ?_
      rw [e0, e1, e2, show ((first : Int) * 256 + (a : Int)) = ((first * 256 + a : Nat) : Int) by simp]
      refine (flread_any p s F W (HFl.out.below hT) ok hoff (first * 256 + a) n (by omega)).mono ?_
      rw [HBs.out]
      rintro e w' ⟨v', rfl, ho', hs'⟩
      exact ⟨_, rfl, on_all_to ho' ((on_all w1).below hT), all_below ho'.right hs'⟩
    · intro ev W hT hb hk hf
      obtain ⟨x, e0, ho⟩ := readQ.out (show (readQ bs (ev (.tmp 22)) * all w1).on W from hf.1)
      exact OpOk.run (v := x) (W' := W) (by simp [execOp, e0, go_sem]) ⟨ho, Stay.refl _⟩
    · intro ev W hT hb hk hf
      obtain ⟨x, e0, ho⟩ := readQ.out (show (readQ bs (ev (.tmp 22)) * all w1).on W from hf.1)
      exact OpOk.run (v := .int .i64 0) (W' := W) (by simp [execOp, e0, go_sem]) ⟨rfl, Stay.refl _⟩
    · exact fun ev W hT hb hk hf => OpOk.assign rfl rfl ⟨hf.1, Stay.refl _⟩
    · exact fun ev W hT hb hk hf => OpOk.assign rfl hf.1 ⟨rfl, Stay.refl _⟩
  case rest =>
    intro W hT
    rintro _ rfl _ rfl _ rfl _ rfl _ rfl _ rfl _ rfl v22 - v23 - _ rfl v6 ho _ rfl
    have HS := hide (Str.below (HB.out.trans (hT.mono HB.out.size)))
    have HO := hide (on_all_to ho ((on_all w).below HB.out))
    clear ho hT
    go_wp2
    refine Rest.done ?_
    go_wp2_with fail
    go_ret2
    refine ⟨_, rfl, ?_, HS.out⟩
    rw [HBs.out]
    exact readQ.in HO.out

def sliceLenB : Value → Nat
  | .slice _ n _ => n
  | _ => 0
/-- parts, one behind the other, up to a whole word -/
def padW (l : List UInt8) : List UInt8 := l ++ List.replicate ((4 - l.length % 4) % 4) 255
set_option maxRecDepth 100000 in
set_option maxHeartbeats 4000000 in
theorem bwrite_any (p : Nat) (s : FlS) (F : SP) (w : World) (h : (Flash p s * F).on w) (ok : s.Ok) (hst : s.steps ≤ 1099511000000) (hoff : s.off = false) (hlk : s.lt = 0) (first a : Nat) (hf : first + 16 ≤ s.worn.length) (ha : a % 4 = 0)
    (v : Value) (ls : List (List UInt8)) (hrd : IsRows w v ls) (hal : a + (padW ls.flatten).length ≤ 4096) :
    Calls Try.prog 61 #[bankV (fptr p) first, .int .i64 a, v] w fun e w' => e = .returned (.int .i64 ((FlS.progW (padW ls.flatten) (first * 256 + a) ((padW ls.flatten).length / 4) 0 s).2 : Int)) ∧ (Flash p (FlS.progW (padW ls.flatten) (first * 256 + a) ((padW ls.flatten).length / 4) 0 s).1 * F).on w' ∧ Str w w' := by
  have hm := ok.most
  have hp := ok.pages
  have hE := exists_any p s F _ (h.alloc' (.cells #[fptr p, .int .i64 first] 113)) ok first hf
  have hu := Try.underlying33
  obtain ⟨va, vc, vs, rfl, hvc, hvm, hvl, hvs, hvin⟩ := hrd
  unfold maxLen at hvm
  have Hvl := hide hvl
  have Hvs := hide hvs
  have Hvin := hide hvin
  have Hlk := hide hlk
  have hpl : ls.flatten.length + (4 - ls.flatten.length % 4) % 4 = (padW ls.flatten).length := by simp [padW]
  have hmod : (padW ls.flatten).length % 4 = 0 := by omega
  have Hpad := hide (show padW ls.flatten = ls.flatten ++ List.replicate ((4 - ls.flatten.length % 4) % 4) 255 from rfl)
  generalize padW ls.flatten = lb at *
  have Hhl := hide (show ∀ k, (ls.take k).flatten.length ≤ ls.flatten.length from fun k => by
    conv => rhs; rw [← List.take_append_drop k ls, List.flatten_append, List.length_append]
    omega)
  clear hvl hvs hvin hlk
  go_enter Try.func61, Try.ntmps61
  go_wp2_with fail
  refine hE.mono ?_
  rintro e w1 ⟨rfl, hb1⟩
  have hbl := (hb1.block w.heap.size (by simp)).trans (heap_alloc_new w (.cells #[fptr p, .int .i64 first] 113))
  have HB := hide (Below.trans new1 (hb1.mono (by simp)))
  have c0 := cell_of_row w1 w.heap.size 0 _ _ _ hbl
  have c1 := cell_of_row w1 w.heap.size 1 _ _ _ hbl
  simp only [List.getElem?_toArray, List.getElem?_cons_zero, List.getElem?_cons_succ] at c0 c1
  have HFl := hide (h.below HB.out)
  have C0 := hide c0
  have C1 := hide c1
  clear hE hb1 hbl c0 c1 h
  go_wp2_with fail
  go_loopw [7, 15] (fun av i wr => ∃ k : Nat, k ≤ ls.length ∧ i = .int .i64 k ∧ (ownBy av (ls.take k).flatten * all w1).on wr ∧ Str w1 wr) (fun _ i _ => ls.length - (intOf i).toNat)
  case atStart => exact ⟨0, by omega, rfl, own_nil _ 1 (on_all w1), Str.refl _⟩
  case round =>
    obtain ⟨k, hk, rfl, how, hstr⟩ := hrel
    have hBr := all_below how.right hstr
    obtain ⟨oa, oc, rfl, _, _, _, _⟩ := own_value how
    have hl1 := Hhl.out k
    by_cases hkl : k < ls.length
    · have hkv : k < vs.length := by rw [Hvs.out]; exact hkl
      obtain ⟨b, off, rfl⟩ := Lay.isAddr Hvl.out k hkv
      have cb := Lay.cell ((Hvl.out.below HB.out).below hBr) k (List.getElem?_eq_getElem hkv)
      have hbx := ((Hvin.out k _ _ (List.getElem?_eq_getElem hkv) (List.getElem?_eq_getElem hkl)).below HB.out).below hBr
      have HS := hide (show (ls.take (k + 1)).flatten = (ls.take k).flatten ++ ls[k] by rw [List.take_succ_eq_append_getElem hkl, List.flatten_append]; simp)
      have hl2 := Hhl.out (k + 1)
      rw [HS.out, List.length_append] at hl2
      generalize vs[k] = vk at *
      generalize ls[k] = x at *
      have Hbx := hide hbx
      have How := hide how
      have Hstr := hide hstr
      obtain ⟨xa, xc, rfl, _, _, _, _⟩ := hbx
      generalize (ls.take k).flatten = fk at *
      clear how hstr hBr
      go_wp2_with (at_builtin; refine wpList_append_bytes (F := all w1) rfl _ _ 33 rfl 5 hu infoByte _ fk x rfl How.out _ rfl Hbx.out (by omega) ?_; intro v2 w2 ho2 hs2)
      exact ⟨⟨k + 1, by omega, by simp, by rw [HS.out]; exact ho2, Hstr.out.trans hs2⟩, by simp [intOf]; omega⟩
    · have hkb : k = ls.length := by omega
      subst hkb
      rw [List.take_length] at how hl1 ⊢
      generalize hfl : ls.flatten = fl at *
      have Hfl := hide hfl
      clear hfl
      have How := hide how
      have Hstr := hide hstr
      have HI := hide (inside_no a fl.length wr (by omega) (by omega) (by omega) (by omega))
      clear how hstr hBr hkl
      go_wp2_with fail
      refine HI.out.mono ?_
      rintro e w2 ⟨rfl, rfl⟩
      go_wp2_with fail
      go_loopw [7] (fun av wr' => ∃ j : Nat, j ≤ (4 - fl.length % 4) % 4 ∧ (ownBy av (fl ++ List.replicate j 255) * all w1).on wr' ∧ Str w1 wr') (fun av _ => fl.length + (4 - fl.length % 4) % 4 - sliceLenB av)
      case atStart => exact ⟨0, by omega, by simpa using How.out, Hstr.out⟩
      case round =>
        obtain ⟨j, hj, how, hstr⟩ := hrel
        obtain ⟨oa2, oc2, rfl, _, _, _, _⟩ := own_value how
        have hacl : (fl ++ List.replicate j (255 : UInt8)).length = fl.length + j := by simp
        have HSn := hide (show fl ++ List.replicate (j + 1) (255 : UInt8) = (fl ++ List.replicate j 255) ++ [255] by rw [List.replicate_succ', List.append_assoc])
        by_cases hjl : j < (4 - fl.length % 4) % 4
        · have e1 : (((fl ++ List.replicate j (255 : UInt8)).length : Int) % 4 != 0) = true := by rw [hacl]; simp; omega
          generalize fl ++ List.replicate j (255 : UInt8) = acc at *
          have How := hide how
          have Hstr := hide hstr
          have Hacl := hide hacl
          have hal2 : acc.length ≤ 8192 := by omega
          clear how hstr hacl
          go_wp2_with (at_builtin; refine wpList_append_bytes (F := all w1) rfl _ _ 33 rfl 5 hu infoByte _ acc [255] rfl (How.out.alloc' _) _ rfl (IsBytes.new _ [255] (by simp [maxLen]) 5) (by simp; omega) ?_; intro v2 w2 ho2 hs2)
          obtain ⟨oa3, oc3, rfl, _, _, _, _⟩ := own_value ho2
          refine ⟨⟨j + 1, by omega, by rw [HSn.out]; exact ho2, (Hstr.out.alloc _).trans hs2⟩, ?_⟩
          have := Hacl.out
          simp only [sliceLenB, List.length_append, List.length_cons, List.length_nil]
          omega
        · have hjr : j = (4 - fl.length % 4) % 4 := by omega
          have hacc : fl ++ List.replicate j (255 : UInt8) = lb := by rw [Hpad.out, hjr]
          rw [hacc] at how hacl ⊢
          have e1 : ((lb.length : Int) % 4 != 0) = false := by simp; omega
          have How := hide how
          have Hstr := hide hstr
          clear how hstr HSn hacc hacl
          go_wp2_with fail
          have a1 : IntKind.i64.wrap ((first : Int) * 256 + (a : Int)) = (first : Int) * 256 + (a : Int) := by rw [IntWalk.i64_in _ (by omega)]
          have hBr := hide (all_below How.out.right Hstr.out)
          refine wp_region_tail 7 [isV (.pointer (some ⟨w.heap.size, 0, Option.none⟩)), isV (fptr p), isV (bankV (fptr p) first), isV (.int .i64 ((first : Int) * 256)), isV (.int .i64 (a : Int)), isV (.int .i64 ((first : Int) * 256 + (a : Int))), isV (.slice oa2 lb.length oc2)]
            (by simp only [List.take_succ_cons, List.take_zero]; rfl) (by simp only [List.drop_succ_cons, List.drop_zero]; rfl) (by kernel_rfl) (by kernel_rfl) (by kernel_rfl) (by decide) rfl ?keep ?todo ?rest
          case keep => exact ⟨Keep.isV _, Keep.isV _, Keep.isV _, Keep.isV _, Keep.isV _, Keep.isV _, Keep.isV _, trivial⟩
          case todo =>
            refine ⟨?_, ?_, ?_, ?_, ?_, ?_, ?_, trivial⟩
            · intro ev W hT hb hk hf
              have e0 : ev (.tmp 3) = .pointer (some ⟨w.heap.size, 0, Option.none⟩) := hk.1
              exact OpOk.run (v := .pointer (some ⟨w.heap.size, 0, Option.none⟩)) (W' := W) (by simp [execOp, e0, go_sem]) ⟨rfl, Stay.refl _⟩
            · intro ev W hT hb hk hf
              have e0 : ev (.tmp 35) = .pointer (some ⟨w.heap.size, 0, Option.none⟩) := hf.1
              have hBW := hBr.out.trans (hT.mono hBr.out.size)
              have d0 := (hBW.cell (p := ⟨w.heap.size, 0, Option.none⟩) (World.block_lt_of_cell? w1 _ C0.out)).trans C0.out
              exact OpOk.run (v := fptr p) (W' := W) (by simp [execOp, e0, d0, go_sem]) ⟨rfl, Stay.refl _⟩
            · intro ev W hT hb hk hf
              have e0 : ev (.tmp 3) = .pointer (some ⟨w.heap.size, 0, Option.none⟩) := hk.1
              have hBW := hBr.out.trans (hT.mono hBr.out.size)
              have d0 := (hBW.cell (p := ⟨w.heap.size, 0, Option.none⟩) (World.block_lt_of_cell? w1 _ C0.out)).trans C0.out
              have d1 := (hBW.cell (p := ⟨w.heap.size, 1, Option.none⟩) (World.block_lt_of_cell? w1 _ C1.out)).trans C1.out
              exact OpOk.run (v := bankV (fptr p) first) (W' := W) (by simp [execOp, e0, d0, d1, go_sem]) ⟨rfl, Stay.refl _⟩
            · intro ev W hT hb hk hf
              have e0 : ev (.tmp 37) = bankV (fptr p) first := hf.1
              refine OpOk.enters (f := 94) (args := #[ev (.tmp 37)]) (W' := W) (by simp [execOp, resolve, invoke, hb.2.1, go_sem]) ?_
              rw [e0]
              refine (begin_any (fptr p) first (by omega) W).mono ?_
              rintro e w' ⟨rfl, hs'⟩
              exact ⟨_, rfl, (by simp : Value.int .i64 ((first * 256 : Nat) : Int) = .int .i64 ((first : Int) * 256)), hs'⟩
            · exact fun ev W hT hb hk hf => OpOk.move rfl hk.1 ⟨rfl, Stay.refl _⟩
            · intro ev W hT hb hk hf
              have e0 : ev (.tmp 38) = .int .i64 ((first : Int) * 256) := hf.1
              have e1 : ev (.tmp 39) = .int .i64 (a : Int) := hf.2.1
              exact OpOk.run (v := .int .i64 ((first : Int) * 256 + (a : Int))) (W' := W) (by simp [execOp, e0, e1, a1, go_sem]) ⟨rfl, Stay.refl _⟩
            · exact fun ev W hT hb hk hf => OpOk.move rfl hk.1 ⟨rfl, Stay.refl _⟩
          case rest =>
            intro W hT
            rintro _ rfl _ rfl _ rfl _ rfl _ rfl _ rfl _ rfl
            have h1 := (on_all_to How.out HFl.out).below hT
            rw [SP.mul_left_comm] at h1
            have HP := hide (program_any p s _ W h1 ok hst hoff (first * 256 + a) (.slice oa2 lb.length oc2) lb (lb.length / 4) (by omega) (by omega) (by omega) (fun i _ => by
              have h9 := Hlk.out
              simp only [FlS.locked, h9, Bool.and_eq_false_iff, decide_eq_false_iff_not]
              right; omega) (fun w' h' => own_bytes h'))
            have HsT := hide (Str.trans (Str.below HB.out) (Hstr.out.trans (Str.below hT)))
            clear h1 hT
            go_wp2
            refine Rest.done ?_
            go_wp2_with fail
            rw [show ((first : Int) * 256 + (a : Int)) = ((first * 256 + a : Nat) : Int) by simp]
            refine HP.out.mono ?_
            rintro e w9 ⟨rfl, h9, hs9⟩
            rw [SP.mul_left_comm] at h9
            have H9 := hide h9.right
            have HS9 := hide (HsT.out.trans hs9)
            clear h9 hs9 HP
            go_wp2_with fail
            go_ret
            exact ⟨rfl, H9.out, HS9.out⟩
end Go.Proofs.Ytjmgnfpcieofkaa
