/- record: equal bytes, and the check sum. -/
import Derived.Test.YtjmgnfpcieofkaaRec2
import Derived.Deep.OwnRows
import Derived.Laws.CopyOwn
namespace Go.Proofs.Ytjmgnfpcieofkaa
open Go.ChangeShapes Go.WideShapes Go.ChangeAt Go.RowKit
set_option linter.unusedVariables false
set_option linter.unusedSimpArgs false

theorem equal_any (v1 v2 : Value) (l1 l2 : List UInt8) (w : World) (h1 : IsBytes w v1 l1) (h2 : IsBytes w v2 l2) :
    Calls Try.prog 56 #[v1, v2] w fun e w' => e = .returned (.bool (decide (l1 = l2))) ∧ w = w' := by
  have hsu := Try.underlying33
  have hsb := Try.underlying5
  have hst := Try.underlying9
  obtain ⟨a1, c1, rfl, _, _, hl1, _⟩ := h1
  obtain ⟨a2, c2, rfl, _, _, hl2, _⟩ := h2
  have k1 := run_string_of (P := Try.prog) (w := w) (c := c1) hsu hsb hl1 _ hst
  have k2 := run_string_of (P := Try.prog) (w := w) (c := c2) hsu hsb hl2 _ hst
  clear hl1 hl2
  by_cases he : l1 = l2
  · subst he
    have hd : decide (l1 = l1) = true := by simp
    rw [hd]
    go_enter Try.func56, Try.ntmps56
    go_wp2_with fail
    go_ret
    exact ⟨rfl, rfl⟩
  · have hd : decide (l1 = l2) = false := by simpa using he
    rw [hd]
    have hs : (l1 == l2) = false := by rw [beq_eq_false_iff_ne]; exact he
    go_enter Try.func56, Try.ntmps56
    go_wp2_with fail
    go_ret
    exact ⟨rfl, rfl⟩
/-- the check sum of a record's bytes -/
def chkN (l : List UInt8) : Nat := if crcUpd 0 l = 4294967295 then 0 else crcUpd 0 l
theorem chkN_lt (l : List UInt8) : chkN l < 4294967296 := by unfold chkN; have := crcUpd_lt 0 l; split <;> omega
theorem check_any (v : Value) (l : List UInt8) (w : World) (h : IsBytes w v l) (hl : l.length = 160) :
    Calls Try.prog 88 #[v] w fun e w' => e = .returned (u32v (chkN (l.take 156))) ∧ Below w.heap.size w w' := by
  have H := hide h
  obtain ⟨a, c, rfl, hc, hm, hla, _⟩ := h
  obtain ⟨g, o, rfl⟩ := Lay.isAddr hla 0 (by simp; omega)
  rw [hl] at hc ⊢
  have hb : IsBytes w (.slice (some ⟨g, o, Option.none⟩) 156 c) (l.take 156) := by
    refine ⟨_, _, by rw [List.length_take, hl]; rfl, by rw [List.length_take, hl]; simp; omega, hm, ?_, by simp⟩
    have := hla.take 156
    rwa [← List.map_take] at this
  unfold maxLen at hm
  have hr := IsRows.one hb 33
  have HS := hide (sum_any _ [l.take 156] _ hr)
  simp only [List.flatten_cons, List.flatten_nil, List.append_nil] at HS
  have hq := crcUpd_lt 0 (l.take 156)
  have HC := hide (show chkN (l.take 156) = if crcUpd 0 (l.take 156) = 4294967295 then 0 else crcUpd 0 (l.take 156) from rfl)
  generalize crcUpd 0 (l.take 156) = q at *
  generalize chkN (l.take 156) = ck at *
  clear hla hb hr
  have hm2 : (156 : Int) ≤ (c : Int) := by omega
  go_enter Try.func88, Try.ntmps88
  go_wp2_with fail
  refine HS.out.mono ?_
  rintro e w1 ⟨rfl, hb1⟩
  have HB := hide (Below.trans alloc1 (hb1.mono (by simp)))
  clear hb1
  by_cases hx : q = 4294967295
  · have hck := HC.out
    rw [if_pos hx] at hck
    have e1 : ((q : Int) == 4294967295) = true := by rw [beq_iff_eq]; omega
    clear hx
    subst hck
    go_wp2_with fail
    go_ret
    exact ⟨rfl, HB.out⟩
  · have hck := HC.out
    rw [if_neg hx] at hck
    have e1 : ((q : Int) == 4294967295) = false := by rw [beq_eq_false_iff_ne]; omega
    clear hx
    subst hck
    go_wp2_with fail
    go_ret
    exact ⟨rfl, HB.out⟩

/-- a new block, and all that was -/
theorem blk_all {W w' : World} {g : Nat} {o : Obj} (hg : w'.heap[g]? = some o) (hb : Below W.heap.size W w') (h : W.heap.size ≤ g) : (blk g o * all W).on w' := by
  refine SP.on_mul.2 ⟨fun k => if k = g then some o else Option.none, fun k => if k < W.heap.size then W.heap[k]? else Option.none, ?_, ?_, ?_, by simp [blk], ?_⟩
  · intro k
    by_cases hk : k = g
    · right; simp; omega
    · left; simp [hk]
  · intro k x hx
    by_cases hk : k = g
    · subst hk; simp at hx; subst hx; exact hg
    · simp [hk] at hx
  · intro k x hx
    by_cases hk : k < W.heap.size
    · simp only [hk, if_true] at hx
      exact (hb.block k hk).trans hx
    · simp [hk] at hx
  · intro k hk
    simp [hk]

/-- a record's bytes ahead of the check sum -/
def recHead (s : RecS) : List UInt8 := wordB 827216706 ++ wordB s.seq ++ wordB s.floor ++ wordB s.bytes ++ wordB s.sum ++ [s.phase, UInt8.ofNat s.init.length, 0, 0] ++ wordB s.done ++ s.init ++ List.replicate (128 - s.init.length) 0
def recBytes (s : RecS) : List UInt8 := recHead s ++ wordB (chkN (recHead s))
theorem recHead_len (s : RecS) (h : s.init.length ≤ 128) : (recHead s).length = 156 := by
  simp only [recHead, List.length_append, wordB_len, List.length_cons, List.length_nil, List.length_replicate]
  omega
theorem recBytes_len (s : RecS) (h : s.init.length ≤ 128) : (recBytes s).length = 160 := by
  rw [recBytes, List.length_append, recHead_len s h, wordB_len]

abbrev R160 (g : Nat) (l : List UInt8) : SP := own 5 1 (.slice (some ⟨g, 0, Option.none⟩) 160 160) 160 (vbs l)
theorem put160 (g : Nat) (l : List UInt8) (hl : l.length = 160) (at' n : Nat) (hn : n < 4294967296) (ha : at' + 4 ≤ 160) (F : SP) (w : World) (h : (R160 g l * F).on w) :
    Calls Try.prog 87 #[.slice (some ⟨g, 0, Option.none⟩) 160 160, .int .i64 at', .int .u32 n] w fun e w' => (∃ v, e = .returned v) ∧ (R160 g (putL l at' n 4) * F).on w' ∧ Str w w' := by
  have h2 := put_any g 160 l at' n hn (by omega) (by omega) F w (by unfold ownR; rw [hl]; exact h)
  unfold ownR at h2
  rw [putL_len, hl] at h2
  exact h2

/-- how an encoding ends -/
def RecEnd (s : RecS) (w : World) (e : Ending) (w' : World) : Prop := (s.right = true ∧ ∃ out, e = .returned (.tuple #[out, .int .i64 0]) ∧ (ownR out (recBytes s) * all w).on w' ∧ Str w w') ∨
  (s.right = false ∧ e = .returned (.tuple #[.slice Option.none 0 0, .int .i64 1]) ∧ Below w.heap.size w w')

theorem mades_one (z : Value) (n : Nat) : madeCells #[z] n = (List.replicate n z).toArray := by
  apply Array.ext
  · simp [size_madeCells]
  · intro i h1 h2
    simp [madeCells, Nat.mod_one]
theorem boxCells {w' : World} {b : Nat} {s : RecS} {iv : Value} {t : TypeId} (h : w'.heap[b]? = some (.cells (recCells s iv) t)) :
    w'.cell? ⟨b, 0, Option.none⟩ = some (u32v s.seq) ∧ w'.cell? ⟨b, 1, Option.none⟩ = some (u32v s.floor) ∧ w'.cell? ⟨b, 2, Option.none⟩ = some (u32v s.bytes) ∧ w'.cell? ⟨b, 3, Option.none⟩ = some (u32v s.sum) ∧
    w'.cell? ⟨b, 4, Option.none⟩ = some (vb s.phase) ∧ w'.cell? ⟨b, 5, Option.none⟩ = some (u32v s.done) ∧ w'.cell? ⟨b, 6, Option.none⟩ = some iv := by
  refine ⟨?_, ?_, ?_, ?_, ?_, ?_, ?_⟩ <;> (rw [cell_of_row _ _ _ _ _ _ h]; rfl)
theorem splice_vbs (A I : List UInt8) (m : Nat) (h : I.length ≤ m) (i : Nat) (hi : A.length = i) : splice (vbs (A ++ List.replicate (m + 4) 0)) i (vbs I) = vbs ((A ++ I ++ List.replicate (m - I.length) 0) ++ List.replicate 4 0) := by
  subst hi
  have e : vbs (A ++ List.replicate (m + 4) 0) = vbs A ++ vbs (List.replicate (m + 4) 0) := by simp
  unfold splice
  rw [e, List.take_left' (by simp), List.drop_append, List.drop_of_length_le (by simp)]
  have e2 : m + 4 - I.length = (m - I.length) + 4 := by omega
  have e3 : List.replicate ((m - I.length) + 4) (0 : UInt8) = List.replicate (m - I.length) 0 ++ List.replicate 4 0 := by rw [List.replicate_append_replicate]
  have hv : (vbs I).length = I.length := by simp
  have hv2 : (vbs A).length = A.length := by simp
  have e4 : List.drop I.length (vbs (List.replicate (m + 4) 0)) = vbs (List.replicate (m - I.length) 0 ++ List.replicate 4 0) := by
    rw [← e3, ← e2, vbs, ← List.map_drop, List.drop_replicate]
  rw [hv, hv2, Nat.add_sub_cancel_left, e4]
  simp only [vbs, List.map_append, List.nil_append, List.append_assoc]
/-- the next number is put behind what is there -/
theorem putz (g : Nat) (A : List UInt8) (i n m : Nat) (ai ni : Int) (hai : ai = (i : Nat)) (hni : ni = (n : Nat)) (hA : A.length = i) (hm : i + 4 + m = 160) (hn : n < 4294967296) (F : SP) (w0 w : World) (h : (R160 g (A ++ List.replicate (m + 4) 0) * F).on w) (hs : Str w0 w) :
    Calls Try.prog 87 #[.slice (some ⟨g, 0, Option.none⟩) 160 160, .int .i64 ai, .int .u32 ni] w fun e w' => (∃ v, e = .returned v) ∧ (R160 g ((A ++ wordB n) ++ List.replicate m 0) * F).on w' ∧ Str w0 w' := by
  subst hai hni
  have h2 := put160 g _ (by simp; omega) i n hn (by omega) F w h
  rw [putL_zeros A i n m hA.symm] at h2
  exact h2.mono fun e w' ⟨h1, h2, h3⟩ => ⟨h1, h2, hs.trans h3⟩
theorem storez {g : Nat} {A : List UInt8} {i m : Nat} {c : UInt8} (hA : A.length = i) (hm : i + 1 + m = 160) {F : SP} {w : World} (h : (R160 g (A ++ List.replicate (m + 1) 0) * F).on w) :
    (R160 g ((A ++ [c]) ++ List.replicate m 0) * F).on (w.setCell ⟨g, i, Option.none⟩ (vb c)) := by
  have h2 := own_store h (j := i) (by omega) (vb c)
  rw [vbs_set, set_zeros A i m c hA.symm] at h2
  exact h2

set_option maxRecDepth 100000 in
set_option maxHeartbeats 8000000 in
theorem rencode_any (s : RecS) (iv : Value) (w : World) (ok : s.Ok) (h : IsBytes w iv s.init) :
    Calls Try.prog 54 #[.agg (recCells s iv)] w (RecEnd s w) := by
  have hR := right_any s iv (w.alloc (.cells (recCells s iv) 35)) ok (h.below alloc1)
  cases hr : s.right with
  | false =>
    rw [hr] at hR
    have Hr := hide hr
    clear hr
    go_enter Try.func54, Try.ntmps54
    go_wp2_with fail
    refine hR.mono ?_
    rintro e w1 ⟨rfl, hb1⟩
    go_wp2_with fail
    go_ret2
    exact .inr ⟨Hr.out, rfl, alloc1.trans (hb1.mono (by simp))⟩
  | true =>
    rw [hr] at hR
    have Hr := hide hr
    have h128 : s.init.length ≤ 128 := by simp only [RecS.right, decide_eq_true_eq] at hr; omega
    clear hr
    obtain ⟨o1, o2, o3, o4, o5, _⟩ := ok
    obtain ⟨ia, ic, rfl, hic, him, hil, hin⟩ := h
    have Hil := hide hil
    have Hin := hide hin
    clear hil hin
    unfold maxLen at him
    go_enter Try.func54, Try.ntmps54
    go_wp2_with fail
    refine hR.mono ?_
    rintro e W ⟨rfl, hbW⟩
    have hsz : w.heap.size < W.heap.size := by have := hbW.size; simp only [World.size_alloc] at this; omega
    have hbox := (hbW.block w.heap.size (by simp)).trans (heap_alloc_new w (.cells (recCells s (.slice ia s.init.length ic)) 35))
    have HW := hide (Below.trans alloc1 (hbW.mono (by simp)))
    have Hbox := hide hbox
    have hmk : (Instr.makeSlice 33 (.int .i64 160) (.int .i64 160)).run Try.prog W = .ok (.slice (some ⟨W.heap.size, 0, Option.none⟩) 160 160) (W.alloc (.cells (vbs (List.replicate 160 0)).toArray 5)) :=
      (run_make_row' (P := Try.prog) 33 5 (.int .u8 0) 1 Try.underlying33 infoR rfl .i64 .i64 160 (by omega) (by omega) W).trans (by rw [mades_one]; rfl)
    have hw0 : (R160 W.heap.size ([] ++ List.replicate (156 + 4) 0) * all W).on (W.alloc (.cells (vbs (List.replicate 160 0)).toArray 5)) := own_new 5 1 160 _ (on_all W) (by simp) (by decide)
    have hbx : ∀ w', (all W).on w' → Str W w' → w'.heap[w.heap.size]? = some (.cells (recCells s (.slice ia s.init.length ic)) 35) := fun w' h1 h2 => ((all_below h1 h2).block _ hsz).trans hbox
    have Hbx := hide hbx
    have hp0 := putz W.heap.size [] 0 827216706 156 0 827216706 rfl rfl rfl rfl (by omega) (all W) W _ hw0 ((Str.refl _).alloc _)
    clear hR hbW hbox hbx hw0
    generalize (W.alloc (.cells (vbs (List.replicate 160 0)).toArray 5)) = w1 at *
    go_wp2_with fail
    refine hp0.mono ?_
    clear hp0 hmk
    rintro e w1 ⟨⟨v, rfl⟩, hw1, hs1⟩
    obtain ⟨b0, b1, b2, b3, b4, b5, b6⟩ := boxCells (Hbx.out _ hw1.right hs1)
    have hp1 := putz W.heap.size _ 4 s.seq 152 4 s.seq rfl rfl (by simp [wordB_len]) rfl o1 (all W) W _ hw1 hs1
    clear hw1 hs1
    go_wp2_with fail
    refine hp1.mono ?_
    clear hp1 b0 b1 b2 b3 b4 b5 b6
    rintro e w2 ⟨⟨v1, rfl⟩, hw2, hs2⟩
    obtain ⟨b0, b1, b2, b3, b4, b5, b6⟩ := boxCells (Hbx.out _ hw2.right hs2)
    have hp2 := putz W.heap.size _ 8 s.floor 148 8 s.floor rfl rfl (by simp [wordB_len]) rfl o2 (all W) W _ hw2 hs2
    clear hw2 hs2
    go_wp2_with fail
    refine hp2.mono ?_
    clear hp2 b0 b1 b2 b3 b4 b5 b6
    rintro e w3 ⟨⟨v2, rfl⟩, hw3, hs3⟩
    obtain ⟨b0, b1, b2, b3, b4, b5, b6⟩ := boxCells (Hbx.out _ hw3.right hs3)
    have hp3 := putz W.heap.size _ 12 s.bytes 144 12 s.bytes rfl rfl (by simp [wordB_len]) rfl o3 (all W) W _ hw3 hs3
    clear hw3 hs3
    go_wp2_with fail
    refine hp3.mono ?_
    clear hp3 b0 b1 b2 b3 b4 b5 b6
    rintro e w4 ⟨⟨v3, rfl⟩, hw4, hs4⟩
    obtain ⟨b0, b1, b2, b3, b4, b5, b6⟩ := boxCells (Hbx.out _ hw4.right hs4)
    have hp4 := putz W.heap.size _ 16 s.sum 140 16 s.sum rfl rfl (by simp [wordB_len]) rfl o4 (all W) W _ hw4 hs4
    clear hw4 hs4
    go_wp2_with fail
    refine hp4.mono ?_
    clear hp4 b0 b1 b2 b3 b4 b5 b6
    rintro e w5 ⟨⟨v4, rfl⟩, hw5, hs5⟩
    obtain ⟨b0, b1, b2, b3, b4, b5, b6⟩ := boxCells (Hbx.out _ hw5.right hs5)
    have fr5 := own_free hw5 20
    have ce5 := own_cell hw5 20 (.int .u8 0) rfl
    have hw6 := storez (i := 20) (m := 139) (c := s.phase) (by simp [wordB_len]) rfl hw5
    have hs6 := hs5.setCell ⟨W.heap.size, 20, Option.none⟩ (vb s.phase)
    have fr6 := own_free hw6 21
    have ce6 := own_cell hw6 21 (.int .u8 0) rfl
    obtain ⟨_, _, _, _, _, _, c6⟩ := boxCells (Hbx.out _ hw6.right hs6)
    have hw7 := storez (i := 21) (m := 138) (c := UInt8.ofNat s.init.length) (by simp [wordB_len]) rfl hw6
    have hs7 := hs6.setCell ⟨W.heap.size, 21, Option.none⟩ (vb (UInt8.ofNat s.init.length))
    have hvl : vb (UInt8.ofNat s.init.length) = .int .u8 (s.init.length : Int) := by simp [vb]; omega
    rw [hvl] at hw7 hs7
    obtain ⟨_, _, _, _, _, c7, _⟩ := boxCells (Hbx.out _ hw7.right hs7)
    clear hvl
    have e138 : ∀ A : List UInt8, A ++ List.replicate 138 0 = (A ++ [0, 0]) ++ List.replicate (132 + 4) 0 := fun A => by simp [List.replicate_succ]
    rw [e138] at hw7
    have hp7 := putz W.heap.size _ 24 s.done 132 24 s.done rfl rfl (by simp [wordB_len]) rfl o5 (all W) W _ hw7 hs7
    clear hw5 hs5 hw6 hs6 hw7 hs7 e138
    go_wp2_with fail
    refine hp7.mono ?_
    clear hp7 c6 c7 fr5 ce5 fr6 ce6 b0 b1 b2 b3 b4 b5 b6
    rintro e w8 ⟨⟨v8, rfl⟩, hw8, hs8⟩
    have hA8 : ((((((((([] : List UInt8) ++ wordB 827216706) ++ wordB s.seq) ++ wordB s.floor) ++ wordB s.bytes) ++ wordB s.sum) ++ [s.phase]) ++ [UInt8.ofNat s.init.length]) ++ [0, 0]) ++ wordB s.done =
      wordB 827216706 ++ wordB s.seq ++ wordB s.floor ++ wordB s.bytes ++ wordB s.sum ++ [s.phase, UInt8.ofNat s.init.length, 0, 0] ++ wordB s.done := by simp
    rw [hA8] at hw8
    clear hA8
    have hAl : (wordB 827216706 ++ wordB s.seq ++ wordB s.floor ++ wordB s.bytes ++ wordB s.sum ++ [s.phase, UInt8.ofNat s.init.length, 0, 0] ++ wordB s.done).length = 28 := by simp [wordB_len]
    have HH := hide (show recHead s = (wordB 827216706 ++ wordB s.seq ++ wordB s.floor ++ wordB s.bytes ++ wordB s.sum ++ [s.phase, UInt8.ofNat s.init.length, 0, 0] ++ wordB s.done) ++ s.init ++ List.replicate (128 - s.init.length) 0 from rfl)
    generalize (wordB 827216706 ++ wordB s.seq ++ wordB s.floor ++ wordB s.bytes ++ wordB s.sum ++ [s.phase, UInt8.ofNat s.init.length, 0, 0] ++ wordB s.done) = A at *
    have hblk : w8.heap[W.heap.size]? = some (.cells (vbs (A ++ List.replicate 132 0)).toArray 5 (0, 0)) := by
      obtain ⟨hx, hv⟩ := own_cases hw8
      rcases hv with ⟨hv, _⟩ | ⟨g, cap, cur, hv, e2, e3, e4, e5, e6⟩
      · cases hv
      · simp only [Value.slice.injEq, Option.some.injEq] at hv
        obtain ⟨hv, _, rfl⟩ := hv
        cases hv
        rw [on_blk_mul e6, ← e5, List.take_of_length_le (by simp [e4])]
    have hb8 := all_below hw8.right hs8
    obtain ⟨_, _, _, _, _, _, c8⟩ := boxCells (Hbx.out _ hw8.right hs8)
    have Hb8 := hide hb8
    have Hblk := hide hblk
    have hgs : W.heap.size < w8.heap.size := (Array.getElem?_eq_some_iff.1 hblk).1
    have HA := hide hAl
    have hc8 := hide c8
    clear hw8 hs8 hblk hb8 hAl c8
    go_wp2
    refine wp_region_tail 4 [isV (.slice (some ⟨W.heap.size, 0, Option.none⟩) 160 160), isV (.slice (some ⟨W.heap.size, 28, Option.none⟩) 128 132), isV (.pointer (some ⟨w.heap.size, 6, Option.none⟩)), isV (.slice ia s.init.length ic)]
      (by simp only [List.take_succ_cons, List.take_zero]; rfl) (by simp only [List.drop_succ_cons, List.drop_zero]; rfl) (by kernel_rfl) (by kernel_rfl) (by kernel_rfl) (by decide) rfl ?keep ?todo ?rest
    case keep => exact ⟨Keep.isV _, Keep.isV _, Keep.isV _, Keep.isV _, trivial⟩
    case todo =>
      refine ⟨?_, ?_, ?_, ?_, trivial⟩
      · exact fun ev W hT hb hk hf => OpOk.move rfl hk.1 ⟨rfl, Stay.refl _⟩
      · intro ev X hT hb hk hf
        have e0 : ev (.tmp 41) = .slice (some ⟨W.heap.size, 0, Option.none⟩) 160 160 := hf.1
        exact OpOk.run (v := .slice (some ⟨W.heap.size, 28, Option.none⟩) 128 132) (W' := X) (by simp [execOp, e0, hb.1, go_sem]) ⟨rfl, Stay.refl _⟩
      · intro ev X hT hb hk hf
        have e0 : ev (.tmp 1) = .pointer (some ⟨w.heap.size, 0, Option.none⟩) := hk.1
        exact OpOk.run (v := .pointer (some ⟨w.heap.size, 6, Option.none⟩)) (W' := X) (by simp [execOp, e0, go_sem]) ⟨rfl, Stay.refl _⟩
      · intro ev X hT hb hk hf
        have e0 : ev (.tmp 43) = .pointer (some ⟨w.heap.size, 6, Option.none⟩) := hf.1
        have cW := (hT.cell (p := ⟨w.heap.size, 6, Option.none⟩) (World.block_lt_of_cell? w8 _ hc8.out)).trans hc8.out
        exact OpOk.run (v := .slice ia s.init.length ic) (W' := X) (by simp [execOp, e0, cW, go_sem]) ⟨rfl, Stay.refl _⟩
    case rest =>
      intro X hT
      rintro _ rfl _ rfl _ rfl _ rfl
      have hbX := Hb8.out.trans (hT.mono (by omega))
      have hgX := (hT.block _ hgs).trans Hblk.out
      have hlX : Lay X ia (vbs s.init) := ((Hil.out.below (HW.out)).below hbX)
      refine Rest.done ?_
      refine wpList_copy_splice rfl _ _ _ _ rfl 5 Try.underlying33 (by kernel_rfl) _ _ _ _ _ _ rfl rfl W.heap.size 28 (vbs (A ++ List.replicate 132 0)) 5 hgX (vbs s.init) (by simp [Nat.min_def, h128]) ?_ (by simp [HA.out]; omega) (vbs_one _) W.heap.size W hbX (Nat.le_refl _) ?_
      · intro hp
        obtain ⟨b, off, rfl⟩ := hlX.isAddr 0 hp
        refine ⟨rfl, _, rfl, ?_⟩
        intro j v hv
        have := Lay.cell hlX j hv
        have ea : (⟨b, off, Option.none⟩ : Addr).add j = ⟨b, off + j, Option.none⟩ := by unfold Addr.add; split <;> simp_all
        rw [ea]; exact this
      · intro w9 hg9 hb9
        rw [splice_vbs A s.init 128 h128 28 HA.out, ← HH.out] at hg9
        have hl9 := recHead_len s h128
        have hw9 : (R160 W.heap.size (recHead s ++ List.replicate 4 0) * all W).on w9 := own_of_blk (blk_all hg9.out hb9 (Nat.le_refl _)) (by simp [hl9]) (by omega) (by decide) (by simp [hl9]) (List.take_of_length_le (by simp [hl9]))
        have hc9 := check_any _ _ w9 (own_bytes hw9) (by simp [hl9])
        rw [List.take_left' hl9] at hc9
        have Hw9 := hide hw9
        have Hb9 := hide hb9
        have Hl9 := hide hl9
        clear hw9 hb9 hg9 hl9 hlX hgX hbX hT
        simp only [wpList]
        go_wp2_with fail
        refine hc9.mono ?_
        clear hc9
        rintro e w10 ⟨rfl, hb10⟩
        have hw10 := SP.on.below Hw9.out hb10
        have hs10 := (Str.below Hb9.out).trans (Str.below hb10)
        have hp10 := putz W.heap.size _ 156 (chkN (recHead s)) 0 156 (chkN (recHead s)) rfl rfl Hl9.out rfl (chkN_lt _) (all W) W _ hw10 hs10
        clear hw10 hs10 hb10
        go_wp2_with fail
        refine hp10.mono ?_
        clear hp10
        rintro e w11 ⟨⟨v11, rfl⟩, hw11, hs11⟩
        have Hw11 := hide hw11
        have Hs11 := hide hs11
        clear hw11 hs11
        go_wp2_with fail
        go_ret2
        refine .inl ⟨Hr.out, _, rfl, ?_, (Str.below HW.out).trans Hs11.out⟩
        have h12 := on_all_to Hw11.out ((on_all w).below HW.out)
        unfold ownR recBytes
        rw [List.length_append, Hl9.out, wordB_len]
        rw [List.replicate_zero, List.append_nil] at h12
        exact h12
end Go.Proofs.Ytjmgnfpcieofkaa
