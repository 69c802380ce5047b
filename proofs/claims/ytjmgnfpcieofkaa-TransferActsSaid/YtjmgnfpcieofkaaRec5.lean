/- record: the document's own encoding. -/
import Derived.Test.YtjmgnfpcieofkaaRec4
namespace Go.Proofs.Ytjmgnfpcieofkaa
open Go.ChangeShapes Go.WideShapes Go.ChangeAt Go.RowKit
set_option linter.unusedVariables false
set_option linter.unusedSimpArgs false

theorem rboxCells {w' : World} {b : Nat} {s : RecS} {iv : Value} {t : TypeId} (h : w'.heap[b]? = some (.cells (refCells s iv) t)) :
    w'.cell? ⟨b, 0, Option.none⟩ = some (u32v s.seq) ∧ w'.cell? ⟨b, 1, Option.none⟩ = some (u32v s.floor) ∧ w'.cell? ⟨b, 2, Option.none⟩ = some (u32v s.bytes) ∧ w'.cell? ⟨b, 3, Option.none⟩ = some (u32v s.sum) ∧
    w'.cell? ⟨b, 4, Option.none⟩ = some (u32v s.done) ∧ w'.cell? ⟨b, 5, Option.none⟩ = some (vb s.phase) ∧ w'.cell? ⟨b, 6, Option.none⟩ = some iv := by
  refine ⟨?_, ?_, ?_, ?_, ?_, ?_, ?_⟩ <;> (rw [cell_of_row _ _ _ _ _ _ h]; rfl)

def sliceLenR : Value → Nat
  | .slice _ n _ => n
  | _ => 0
def RefBox (W : World) (b : Nat) (s : RecS) (iv : Value) (t : TypeId) : Prop := ∀ w', (all W).on w' → Str W w' → w'.heap[b]? = some (.cells (refCells s iv) t)
/-- bytes of one's own behind W -/
def At (W : World) (v : Value) (l : List UInt8) (w : World) : Prop := (ownR v l * all W).on w ∧ Str W w
theorem At.len {W : World} {v : Value} {l m : List UInt8} {w : World} (h : At W v l w) (e : l = m) : At W v m w := e ▸ h

set_option maxRecDepth 100000 in
set_option maxHeartbeats 8000000 in
theorem rrencode_any (s : RecS) (iv : Value) (w : World) (ok : s.Ok) (h : IsBytes w iv s.init) :
    Calls Try.prog 80 #[.agg (refCells s iv)] w (RecEnd s w) := by
  have hR := rright_any s iv (w.alloc (.cells (refCells s iv) 60)) ok (h.below alloc1)
  cases hr : s.right with
  | false =>
    rw [hr] at hR
    have Hr := hide hr
    clear hr
    go_enter Try.func80, Try.ntmps80
    go_wp2_with fail
    refine hR.mono ?_
    rintro e w1 ⟨rfl, hb1⟩
    go_wp2_with fail
    go_ret2
    exact .inr ⟨Hr.out, rfl, alloc1.trans (hb1.mono (by simp))⟩
  | true =>
    rw [hr] at hR
    have Hr := hide hr
    have h128 : s.init.length ≤ 128 := by simp only [RecS.right, decide_eq_true_eq] at hr; omega
    clear hr
    obtain ⟨o1, o2, o3, o4, o5, _⟩ := ok
    have Hib := hide h
    obtain ⟨ia, ic, rfl, hic, him, hil, hin⟩ := h
    clear hil hin
    unfold maxLen at him
    have hu := Try.underlying33
    go_enter Try.func80, Try.ntmps80
    go_wp2_with fail
    refine hR.mono ?_
    rintro e W ⟨rfl, hbW⟩
    have hsz : w.heap.size < W.heap.size := by have := hbW.size; simp only [World.size_alloc] at this; omega
    have hbox := (hbW.block w.heap.size (by simp)).trans (heap_alloc_new w (.cells (refCells s (.slice ia s.init.length ic)) 60))
    have HW := hide (Below.trans alloc1 (hbW.mono (by simp)))
    have Hbx : Hid (RefBox W w.heap.size s (.slice ia s.init.length ic) 60) := hide fun w' h1 h2 => ((all_below h1 h2).block _ hsz).trans hbox
    clear hR hbW hbox
    have hc0 := hide (rboxCells (Hbx.out W (on_all W) (Str.refl _))).1
    go_wp2_with fail
    refine wp_region_tail 4 [(fun v w => (ownR v (wordB 827216706) * all W).on w), isV (.pointer (some ⟨w.heap.size, 0, Option.none⟩)), isV (u32v s.seq), (fun v w => (ownR v (wordB s.seq) * all W).on w)]
      (by simp only [List.take_succ_cons, List.take_zero]; rfl) (by simp only [List.drop_succ_cons, List.drop_zero]; rfl) (by kernel_rfl) (by kernel_rfl) (by kernel_rfl) (by decide) rfl ?keep ?todo ?rest
    case keep => exact ⟨fun _ _ _ h k => SP.on.below h k, Keep.isV _, Keep.isV _, fun _ _ _ h k => SP.on.below h k, trivial⟩
    case todo =>
      refine ⟨?_, ?_, ?_, ?_, trivial⟩
      · intro ev X hT hb hk hf
        refine OpOk.enters (f := 72) (args := #[u32v 827216706]) (W' := X) (by simp [execOp, resolve, invoke, hb.1, hb.2.1, go_sem]) ((rword_any 827216706 (by omega) X).mono ?_)
        rintro e X2 ⟨v, rfl, h1, h2⟩
        exact ⟨v, rfl, on_all_to h1 ((on_all W).below hT), (all_below h1.right h2)⟩
      · intro ev X hT hb hk hf
        have e0 : ev (.tmp 1) = .pointer (some ⟨w.heap.size, 0, Option.none⟩) := hk.1
        exact OpOk.run (v := .pointer (some ⟨w.heap.size, 0, Option.none⟩)) (W' := X) (by simp [execOp, e0, go_sem]) ⟨rfl, Stay.refl _⟩
      · intro ev X hT hb hk hf
        have e0 : ev (.tmp 11) = .pointer (some ⟨w.heap.size, 0, Option.none⟩) := hf.1
        have cW := (hT.cell (p := ⟨w.heap.size, 0, Option.none⟩) (World.block_lt_of_cell? W _ hc0.out)).trans hc0.out
        exact OpOk.run (v := u32v s.seq) (W' := X) (by simp [execOp, e0, cW, go_sem]) ⟨rfl, Stay.refl _⟩
      · intro ev X hT hb hk hf
        have e0 : ev (.tmp 12) = u32v s.seq := hf.1
        refine OpOk.enters (f := 72) (args := #[u32v s.seq]) (W' := X) (by simp [execOp, resolve, invoke, e0, hb.2.1, go_sem]) ((rword_any s.seq o1 X).mono ?_)
        rintro e X2 ⟨v, rfl, h1, h2⟩
        exact ⟨v, rfl, on_all_to h1 ((on_all W).below hT), (all_below h1.right h2)⟩
    case rest =>
      intro X hT
      rintro v10 h10 _ rfl _ rfl v13 h13
      obtain ⟨a10, c10, rfl, _, _, _, _⟩ := own_value h10
      have H13 := hide (own_bytes h13)
      obtain ⟨a13, c13, rfl, _, _, _, _⟩ := own_value h13
      have Ho1 := hide h10
      have Hn1 := H13
      have Hs1 := hide (Str.below hT)
      have Hl1 : Hid ((wordB 827216706).length = 4) := hide rfl
      clear h10 h13 hT
      have hvl : (vbs [UInt8.ofNat s.init.length]).toArray = #[.int .u8 (s.init.length : Int)] := by simp [vbs, vb]; omega
      have Hvl := hide hvl
      clear hvl
      go_wp2
      refine Rest.done ?_
      go_wp2_with (at_builtin; refine wpList_append_bytes (F := all W) rfl _ _ 33 rfl 5 hu infoR _ (wordB 827216706) (wordB s.seq) rfl Ho1.out _ rfl Hn1.out (by have h1 := Hl1.out; simp only [wordB_len, List.length_cons, List.length_nil]; omega) ?_; intro v w2 ho hs; generalize hq : (wordB 827216706) ++ (wordB s.seq) = acc2 at ho; have Hq2 := hide hq; have Hl2 : Hid (acc2.length = 8) := hide (by have h1 := Hl1.out; rw [← hq, List.length_append, h1]; rfl); clear hq; have Hs2 := hide (Str.trans Hs1.out hs); obtain ⟨b0, b1, b2, b3, b4, b5, b6⟩ := rboxCells (Hbx.out w2 ho.right Hs2.out); obtain ⟨a2, c2, rfl, _, _, _, _⟩ := own_value ho; have Ho2 := hide ho; clear ho hs)
      refine (rword_any s.floor o2 _).mono ?_
      rintro e x2 ⟨v2, rfl, h2, k2⟩
      have Hn2 := hide (own_bytes h2)
      have Hp2 := hide (SP.on.below Ho2.out (all_below h2.right k2))
      have Ht2 := hide (Hs2.out.trans k2)
      obtain ⟨d2, e2, rfl, _, _, _, _⟩ := own_value h2
      clear h2 k2 b0 b1 b2 b3 b4 b5 b6
      go_wp2_with (at_builtin; refine wpList_append_bytes (F := all W) rfl _ _ 33 rfl 5 hu infoR _ acc2 (wordB s.floor) rfl Hp2.out _ rfl Hn2.out (by have h1 := Hl2.out; simp only [wordB_len, List.length_cons, List.length_nil]; omega) ?_; intro v w3 ho hs; generalize hq : acc2 ++ (wordB s.floor) = acc3 at ho; have Hq3 := hide hq; have Hl3 : Hid (acc3.length = 12) := hide (by have h1 := Hl2.out; rw [← hq, List.length_append, h1]; rfl); clear hq; have Hs3 := hide (Str.trans Ht2.out hs); obtain ⟨b0, b1, b2, b3, b4, b5, b6⟩ := rboxCells (Hbx.out w3 ho.right Hs3.out); obtain ⟨a3, c3, rfl, _, _, _, _⟩ := own_value ho; have Ho3 := hide ho; clear ho hs)
      refine (rword_any s.bytes o3 _).mono ?_
      rintro e x3 ⟨v3, rfl, h3, k3⟩
      have Hn3 := hide (own_bytes h3)
      have Hp3 := hide (SP.on.below Ho3.out (all_below h3.right k3))
      have Ht3 := hide (Hs3.out.trans k3)
      obtain ⟨d3, e3, rfl, _, _, _, _⟩ := own_value h3
      clear h3 k3 b0 b1 b2 b3 b4 b5 b6
      go_wp2_with (at_builtin; refine wpList_append_bytes (F := all W) rfl _ _ 33 rfl 5 hu infoR _ acc3 (wordB s.bytes) rfl Hp3.out _ rfl Hn3.out (by have h1 := Hl3.out; simp only [wordB_len, List.length_cons, List.length_nil]; omega) ?_; intro v w4 ho hs; generalize hq : acc3 ++ (wordB s.bytes) = acc4 at ho; have Hq4 := hide hq; have Hl4 : Hid (acc4.length = 16) := hide (by have h1 := Hl3.out; rw [← hq, List.length_append, h1]; rfl); clear hq; have Hs4 := hide (Str.trans Ht3.out hs); obtain ⟨b0, b1, b2, b3, b4, b5, b6⟩ := rboxCells (Hbx.out w4 ho.right Hs4.out); obtain ⟨a4, c4, rfl, _, _, _, _⟩ := own_value ho; have Ho4 := hide ho; clear ho hs)
      refine (rword_any s.sum o4 _).mono ?_
      rintro e x4 ⟨v4, rfl, h4, k4⟩
      have Hn4 := hide (own_bytes h4)
      have Hp4 := hide (SP.on.below Ho4.out (all_below h4.right k4))
      have Ht4 := hide (Hs4.out.trans k4)
      obtain ⟨d4, e4, rfl, _, _, _, _⟩ := own_value h4
      clear h4 k4 b0 b1 b2 b3 b4 b5 b6
      go_wp2_with (first
        | (at_builtin; refine wpList_append_bytes (F := all W) rfl _ _ 33 rfl 5 hu infoR _ acc8 [0] rfl (Ho8.out.alloc' _) _ rfl (by have h1 := IsBytes.new w8 [0] (by simp [maxLen]) 5; exact h1) (by have h1 := Hl8.out; simp only [wordB_len, List.length_cons, List.length_nil]; omega) ?_; clear b0 b1 b2 b3 b4 b5 b6; intro v w9 ho hs; generalize hq : acc8 ++ [0] = acc9 at ho; have Hq9 := hide hq; have Hl9 : Hid (acc9.length = 24) := hide (by have h1 := Hl8.out; rw [← hq, List.length_append, h1]; rfl); clear hq; have Hs9 := hide (Str.trans (Hs8.out.alloc _) hs); obtain ⟨b0, b1, b2, b3, b4, b5, b6⟩ := rboxCells (Hbx.out w9 ho.right Hs9.out); obtain ⟨a9, c9, rfl, _, _, _, _⟩ := own_value ho; have Ho9 := hide ho; clear ho hs)
        | (at_builtin; refine wpList_append_bytes (F := all W) rfl _ _ 33 rfl 5 hu infoR _ acc7 [0] rfl (Ho7.out.alloc' _) _ rfl (by have h1 := IsBytes.new w7 [0] (by simp [maxLen]) 5; exact h1) (by have h1 := Hl7.out; simp only [wordB_len, List.length_cons, List.length_nil]; omega) ?_; clear b0 b1 b2 b3 b4 b5 b6; intro v w8 ho hs; generalize hq : acc7 ++ [0] = acc8 at ho; have Hq8 := hide hq; have Hl8 : Hid (acc8.length = 23) := hide (by have h1 := Hl7.out; rw [← hq, List.length_append, h1]; rfl); clear hq; have Hs8 := hide (Str.trans (Hs7.out.alloc _) hs); obtain ⟨b0, b1, b2, b3, b4, b5, b6⟩ := rboxCells (Hbx.out w8 ho.right Hs8.out); obtain ⟨a8, c8, rfl, _, _, _, _⟩ := own_value ho; have Ho8 := hide ho; clear ho hs)
        | (at_builtin; refine wpList_append_bytes (F := all W) rfl _ _ 33 rfl 5 hu infoR _ acc6 [UInt8.ofNat s.init.length] rfl (Ho6.out.alloc' _) _ rfl (by have h1 := IsBytes.new w6 [UInt8.ofNat s.init.length] (by simp [maxLen]) 5; rw [Hvl.out] at h1; exact h1) (by have h1 := Hl6.out; simp only [wordB_len, List.length_cons, List.length_nil]; omega) ?_; clear b0 b1 b2 b3 b4 b5 b6; intro v w7 ho hs; generalize hq : acc6 ++ [UInt8.ofNat s.init.length] = acc7 at ho; have Hq7 := hide hq; have Hl7 : Hid (acc7.length = 22) := hide (by have h1 := Hl6.out; rw [← hq, List.length_append, h1]; rfl); clear hq; have Hs7 := hide (Str.trans (Hs6.out.alloc _) hs); obtain ⟨b0, b1, b2, b3, b4, b5, b6⟩ := rboxCells (Hbx.out w7 ho.right Hs7.out); obtain ⟨a7, c7, rfl, _, _, _, _⟩ := own_value ho; have Ho7 := hide ho; clear ho hs)
        | (at_builtin; refine wpList_append_bytes (F := all W) rfl _ _ 33 rfl 5 hu infoR _ acc5 [s.phase] rfl (Ho5.out.alloc' _) _ rfl (by have h1 := IsBytes.new w5 [s.phase] (by simp [maxLen]) 5; exact h1) (by have h1 := Hl5.out; simp only [wordB_len, List.length_cons, List.length_nil]; omega) ?_; clear b0 b1 b2 b3 b4 b5 b6; intro v w6 ho hs; generalize hq : acc5 ++ [s.phase] = acc6 at ho; have Hq6 := hide hq; have Hl6 : Hid (acc6.length = 21) := hide (by have h1 := Hl5.out; rw [← hq, List.length_append, h1]; rfl); clear hq; have Hs6 := hide (Str.trans (Hs5.out.alloc _) hs); obtain ⟨b0, b1, b2, b3, b4, b5, b6⟩ := rboxCells (Hbx.out w6 ho.right Hs6.out); obtain ⟨a6, c6, rfl, _, _, _, _⟩ := own_value ho; have Ho6 := hide ho; clear ho hs)
        | (at_builtin; refine wpList_append_bytes (F := all W) rfl _ _ 33 rfl 5 hu infoR _ acc4 (wordB s.sum) rfl Hp4.out _ rfl Hn4.out (by have h1 := Hl4.out; simp only [wordB_len, List.length_cons, List.length_nil]; omega) ?_; intro v w5 ho hs; generalize hq : acc4 ++ (wordB s.sum) = acc5 at ho; have Hq5 := hide hq; have Hl5 : Hid (acc5.length = 20) := hide (by have h1 := Hl4.out; rw [← hq, List.length_append, h1]; rfl); clear hq; have Hs5 := hide (Str.trans Ht4.out hs); obtain ⟨b0, b1, b2, b3, b4, b5, b6⟩ := rboxCells (Hbx.out w5 ho.right Hs5.out); obtain ⟨a5, c5, rfl, _, _, _, _⟩ := own_value ho; have Ho5 := hide ho; clear ho hs))
      refine (rword_any s.done o5 _).mono ?_
      rintro e x9 ⟨v9, rfl, h9, k9⟩
      have Hn9 := hide (own_bytes h9)
      have Hp9 := hide (SP.on.below Ho9.out (all_below h9.right k9))
      have Ht9 := hide (Hs9.out.trans k9)
      obtain ⟨d9, e9, rfl, _, _, _, _⟩ := own_value h9
      clear h9 k9 b0 b1 b2 b3 b4 b5 b6
      go_wp2_with (first
        | (at_builtin; refine wpList_append_bytes (F := all W) rfl _ _ 33 rfl 5 hu infoR _ acc10 s.init rfl Ho10.out _ rfl ((Hib.out.below HW.out).below (all_below Ho10.out.right Hs10.out)) (by have h1 := Hl10.out; omega) ?_; clear b0 b1 b2 b3 b4 b5 b6; intro v w11 ho hs; generalize hq : acc10 ++ s.init = acc11 at ho; have Hq11 := hide hq; have Hl11 : Hid (acc11.length = 28 + s.init.length) := hide (by have h1 := Hl10.out; rw [← hq, List.length_append, h1]); clear hq; have Hs11 := hide (Str.trans Hs10.out hs); obtain ⟨b0, b1, b2, b3, b4, b5, b6⟩ := rboxCells (Hbx.out w11 ho.right Hs11.out); obtain ⟨a11, c11, rfl, _, _, _, _⟩ := own_value ho; have Ho11 := hide ho; clear ho hs)
        | (at_builtin; refine wpList_append_bytes (F := all W) rfl _ _ 33 rfl 5 hu infoR _ acc9 (wordB s.done) rfl Hp9.out _ rfl Hn9.out (by have h1 := Hl9.out; simp only [wordB_len, List.length_cons, List.length_nil]; omega) ?_; intro v w10 ho hs; generalize hq : acc9 ++ (wordB s.done) = acc10 at ho; have Hq10 := hide hq; have Hl10 : Hid (acc10.length = 28) := hide (by have h1 := Hl9.out; rw [← hq, List.length_append, h1]; rfl); clear hq; have Hs10 := hide (Str.trans Ht9.out hs); obtain ⟨b0, b1, b2, b3, b4, b5, b6⟩ := rboxCells (Hbx.out w10 ho.right Hs10.out); obtain ⟨a10, c10, rfl, _, _, _, _⟩ := own_value ho; have Ho10 := hide ho; clear ho hs))
      have hH : recHead s = acc11 ++ List.replicate (128 - s.init.length) 0 := by
        unfold recHead
        rw [← Hq11.out, ← Hq10.out, ← Hq9.out, ← Hq8.out, ← Hq7.out, ← Hq6.out, ← Hq5.out, ← Hq4.out, ← Hq3.out, ← Hq2.out]
        simp
      have HH := hide hH
      clear hH Hq11 Hq10 Hq9 Hq8 Hq7 Hq6 Hq5 Hq4 Hq3 Hq2 b0 b1 b2 b3 b4 b5 b6 hc0
      go_loopw [5] (fun v wr => ∃ j : Nat, j ≤ 128 - s.init.length ∧ (ownR v (acc11 ++ List.replicate j 0) * all W).on wr ∧ Str W wr) (fun v _ => 156 - sliceLenR v)
      case atStart => exact ⟨0, by omega, by have h1 := Ho11.out; simpa using h1, Hs11.out⟩
      case round =>
        obtain ⟨j, hj, how, hstr⟩ := hrel
        have hal : (acc11 ++ List.replicate j (0 : UInt8)).length = 28 + s.init.length + j := by rw [List.length_append, Hl11.out, List.length_replicate]
        by_cases hlt : j < 128 - s.init.length
        · have HR := hide (show acc11 ++ List.replicate (j + 1) (0 : UInt8) = (acc11 ++ List.replicate j 0) ++ [0] by rw [List.replicate_succ', List.append_assoc])
          generalize acc11 ++ List.replicate j (0 : UInt8) = acc at *
          have Hal := hide hal
          have hlt2 : acc.length < 156 := by omega
          clear hal
          obtain ⟨oa, oc, rfl, _, _, _, _⟩ := own_value how
          have How := hide how
          have Hstr := hide hstr
          clear how hstr
          go_wp2_with (at_builtin; refine wpList_append_bytes (F := all W) rfl _ _ 33 rfl 5 hu infoR _ acc [0] rfl (How.out.alloc' _) _ rfl (IsBytes.new wr [0] (by simp [maxLen]) 5) (by simp; omega) ?_; intro v2 w2 ho2 hs2)
          obtain ⟨oa3, oc3, rfl, _, _, _, _⟩ := own_value ho2
          refine ⟨⟨j + 1, by omega, by rw [HR.out]; exact ho2, (Hstr.out.alloc _).trans hs2⟩, ?_⟩
          simp only [sliceLenR, List.length_append, List.length_cons, List.length_nil]
          omega
        · obtain rfl : j = 128 - s.init.length := by omega
          rw [← HH.out] at how hal
          have hl156 : (recHead s).length = 156 := recHead_len s h128
          obtain ⟨oa, oc, rfl, _, _, _, _⟩ := own_value how
          have hchk := chkN_lt (recHead s)
          have hsum := rchk_any _ _ wr (own_bytes how)
          have How := hide how
          have Hstr := hide hstr
          have HB := hide (show recBytes s = recHead s ++ wordB (chkN (recHead s)) from rfl)
          generalize chkN (recHead s) = ck at *
          generalize recHead s = hd at *
          have Hl156 := hide hl156
          have hd1 : ¬ hd.length < 156 := by omega
          clear how hstr hal hl156 hlt hj
          go_wp2_with fail
          refine hsum.mono ?_
          clear hsum
          rintro e _ ⟨rfl, rfl⟩
          go_wp2_with fail
          refine (rword_any ck hchk _).mono ?_
          rintro e x12 ⟨v12, rfl, h12, k12⟩
          have Hn12 := hide (own_bytes h12)
          have Hp12 := hide (SP.on.below How.out (all_below h12.right k12))
          have Ht12 := hide (Hstr.out.trans k12)
          obtain ⟨d12, e12, rfl, _, _, _, _⟩ := own_value h12
          clear h12 k12
          go_wp2_with (at_builtin; refine wpList_append_bytes (F := all W) rfl _ _ 33 rfl 5 hu infoR _ hd (wordB ck) rfl Hp12.out _ rfl Hn12.out (by have h1 := Hl156.out; simp only [wordB_len]; omega) ?_; intro v w13 ho hs; have Ho13 := hide ho; have Hs13 := hide (Ht12.out.trans hs); clear ho hs)
          go_ret2
          refine .inl ⟨Hr.out, _, rfl, ?_, (Str.below HW.out).trans Hs13.out⟩
          rw [HB.out]
          exact on_all_to Ho13.out ((on_all w).below HW.out)
end Go.Proofs.Ytjmgnfpcieofkaa
