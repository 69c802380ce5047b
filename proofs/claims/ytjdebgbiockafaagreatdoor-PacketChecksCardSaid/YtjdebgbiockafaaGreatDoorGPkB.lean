/- A part. -/
import Derived.Test.YtjdebgbiockafaaGreatDoorGPkA
import Derived.Deep.QuietTactic
import Derived.BigQuiet
import Derived.Lib.LaidTab
import Derived.LaidSub
import Derived.MakeChecks
import Derived.Laws.StructEq
set_option linter.unusedVariables false
set_option linter.unusedSimpArgs false
set_option maxRecDepth 100000
set_option maxHeartbeats 8000000
namespace Go.Proofs.YtjdebgbiockafaaGreatDoor
open Go.ChangeShapes Go.WideShapes Go.ChangeAt Go.RowKit
theorem put12_any (v1 v2 : Value) (b l : List UInt8) (tag : UInt8) (w : World) (h1 : IsBytes w v1 b) (h2 : IsBytes w v2 l) (hb : b.length ≤ 100000) (hl : l.length < 256) :
  Calls Tryz.prog 24 #[v1, vb tag, v2] w (Makes w fun v => ownT v (b ++ tag :: UInt8.ofNat l.length :: l)) := by
 have hu := Tryz.underlying35
 have H1 := hide h1
 have H2 := hide h2
 obtain ⟨a1, c1, rfl, hc1, hm1, _, _⟩ := h1
 obtain ⟨a2, c2, rfl, hc2, hm2, _, _⟩ := h2
 unfold maxLen at hm1 hm2
 have H0 := hide (own_new 5 1 0 [] (on_all w) rfl (by decide))
 have H8 := hide (show (UInt8.ofNat l.length).toNat = l.length by simp; omega)
 have HN : Hid ((vbs [UInt8.ofNat l.length]).toArray = #[.int .u8 (l.length : Int)]) := hide (by simp [vbs, vb, H8.out])
 have HE : Hid (b ++ tag :: UInt8.ofNat l.length :: l = ((b ++ [tag]) ++ [UInt8.ofNat l.length]) ++ l) := hide (by simp)
 have htg : tag.toNat < 256 := UInt8.toNat_lt tag
 go_enter Tryz.func24, Tryz.ntmps24
 go_wp2_with (first
  | (at_builtin; refine wpList_append_bytes (F := all w) rfl _ _ 35 rfl 5 hu infoT _ b5 l rfl Ho5.out _ rfl (H2.out.below (all_below Ho5.out.right Hs5.out)) (by omega) ?_; intro v6 w6 ho6 hs6; have hl6 : (b5 ++ l).length ≤ b5.length + l.length := by simp
     generalize hq6 : b5 ++ l = b6 at ho6 hl6; have Hq6 := hide hq6; clear hq6; obtain ⟨oa6, oc6, rfl, _, _, _, _⟩ := own_value ho6; have Ho6 := hide ho6; have Hs6 := hide (Hs5.out.trans hs6); clear ho6 hs6)
  | (at_builtin; refine wpList_append_bytes (F := all w) rfl _ _ 35 rfl 5 hu infoT _ b4 [UInt8.ofNat l.length] rfl (Ho4.out.alloc' _) _ rfl (by have := IsBytes.new w4 [UInt8.ofNat l.length] (by simp [maxLen]) 5; rw [HN.out] at this; exact this) (by simp; omega) ?_; intro v5 w5 ho5 hs5
     have hl5 : (b4 ++ [UInt8.ofNat l.length]).length ≤ b4.length + 1 := by simp
     generalize hq5 : b4 ++ [UInt8.ofNat l.length] = b5 at ho5 hl5; have Hq5 := hide hq5; clear hq5
     obtain ⟨oa5, oc5, rfl, _, _, _, _⟩ := own_value ho5; have Ho5 := hide ho5; have Hs5 := hide ((Hs4.out.alloc _).trans hs5); clear ho5 hs5)
  | (at_builtin; refine wpList_append_bytes (F := all w) rfl _ _ 35 rfl 5 hu infoT _ b [tag] rfl (Ho3.out.alloc' _) _ rfl (IsBytes.new w3 [tag] (by simp [maxLen]) 5) (by simp; omega) ?_; intro v4 w4 ho4 hs4
     have hl4 : (b ++ [tag]).length ≤ b.length + 1 := by simp
     generalize hq4 : b ++ [tag] = b4 at ho4 hl4; have Hq4 := hide hq4; clear hq4
     obtain ⟨oa4, oc4, rfl, _, _, _, _⟩ := own_value ho4; have Ho4 := hide ho4; have Hs4 := hide ((Hs3.out.alloc _).trans hs4); clear ho4 hs4)
  | (at_builtin; go_loud (refine wpList_append_bytes (F := all w) rfl _ _ 35 rfl 5 hu infoT _ [] b rfl H0.out _ rfl (H1.out.below ((Below.refl _ _).alloc (Nat.le_refl _) _)) (by simp; omega) ?_); intro v3 w3 ho3 hs3; rw [List.nil_append] at ho3; obtain ⟨oa3, oc3, rfl, _, _, _, _⟩ := own_value ho3; have Ho3 := hide ho3; have Hs3 := hide (((Str.refl w).alloc _).trans hs3); clear ho3 hs3))
 go_ret
 refine ⟨_, rfl, ?_, Hs6.out⟩
 rw [HE.out, Hq4.out, Hq5.out, Hq6.out]
 exact Ho6.out
theorem put12_n (v1 v2 : Value) (b l : List UInt8) (tag : UInt8) (n : Nat) (w : World) (h1 : IsBytes w v1 b) (h2 : IsBytes w v2 l) (hb : b.length ≤ 100000) (hl : l.length = n) (hn : n < 256) :
  Calls Tryz.prog 24 #[v1, vb tag, v2] w (Makes w fun v => ownT v (b ++ tag :: UInt8.ofNat n :: l)) := by
 have h := put12_any v1 v2 b l tag w h1 h2 hb (by omega)
 rw [hl] at h
 exact h
theorem rsigned_any (p : PkS) (hpk : p.Ok) (w : World) : Calls Tryz.prog 7 #[.agg (rpC p)] w (Makes w fun v => ownT v (signedB p)) := by
 have hud := Tryz.underlying22
 have hHw := hide hpk.hw
 have hVer := hide hpk.ver
 have hSz := hide hpk.sz
 have hr := heap_alloc_new w (.cells (rpC p) 38)
 have HC : Hid (∀ X, Stay (w.alloc (.cells (rpC p) 38)) X → X.cell? ⟨w.heap.size, 0, .none⟩ = some (.int .u32 p.hw) ∧ X.cell? ⟨w.heap.size, 1, .none⟩ = some (.int .u32 p.ver) ∧ X.cell? ⟨w.heap.size, 2, .none⟩ = some (.int .u32 p.sz) ∧ X.cell? ⟨w.heap.size, 3, .none⟩ = some (vb p.ty)) := hide fun X hT => rp_cells p X w.heap.size _ ((hT.block _ (by simp)).trans hr)
 have HH : Hid (∀ X, Stay (w.alloc (.cells (rpC p) 38)) X → IsBytes X (.slice (some ⟨w.heap.size, 4, .none⟩) 32 32) p.hash) := hide fun X hT => ⟨_, _, by rw [hpk.hash], by rw [hpk.hash]; omega, by decide, rp_hash hpk X w.heap.size _ ((hT.block _ (by simp)).trans hr), fun h => (nomatch h)⟩
 have HA := hide ((on_all w).alloc (.cells (rpC p) 38)).right
 have HSt := hide ((Str.refl w).alloc (.cells (rpC p) 38))
 have hE1 := rword12_any p.hw hHw.out (w.alloc (.cells (rpC p) 38))
 have c0 := (HC.out _ (Stay.refl _)).1
 clear hr
 have Hl := hide (show p.hash.length = 32 from hpk.hash)
 go_enter Tryz.func7, Tryz.ntmps7
 go_wp2_with fail
 generalize w.alloc (.cells (rpC p) 38) = w1 at *
 refine hE1.mono ?_
 clear hE1 c0
 rintro e x1 ⟨v1, rfl, ho, hs⟩
 obtain ⟨a1, d1, rfl, _, _, _, _⟩ := own_value ho
 have HB1 := hide (all_below ho.right hs)
 have hE := put12_n (.slice Option.none 0 0) _ [] (wordB p.hw) 1 4 x1 (IsBytes.nil _) (own_bytes ho) (by simp) (wordB_len _) (by decide)
 clear ho hs
 obtain ⟨B2, hB2⟩ : ∃ B : List UInt8, B = [] ++ 1 :: UInt8.ofNat 4 :: wordB p.hw := ⟨_, rfl⟩
 rw [← hB2] at hE
 have lB2 : B2.length ≤ 200 := by rw [hB2]; simp [wordB_len]
 have HQ2 := hide hB2
 clear hB2
 go_wp2_with fail
 refine hE.mono ?_
 clear hE
 rintro e x2 ⟨v2, rfl, ho, hs⟩
 obtain ⟨a2, d2, rfl, _, _, _, _⟩ := own_value ho
 have HB2 := hide (HB1.out.trans ((all_below ho.right hs).mono HB1.out.size))
 have Ho2 := hide (own_bytes ho)
 clear ho hs
 have cT := (HC.out x2 HB2.out).2.2.2
 have HBa := hide (HB2.out.alloc HB2.out.size (.cells #[vb p.ty] 5))
 have hE := put12_n _ (.slice (some ⟨x2.heap.size, 0, .none⟩) 1 1) _ [p.ty] 2 1 (x2.alloc (.cells #[vb p.ty] 5)) (Ho2.out.below ((Below.refl _ _).alloc (Nat.le_refl _) _)) (IsBytes.new x2 [p.ty] (by simp [maxLen]) 5) (by omega) rfl (by decide)
 have htg : p.ty.toNat < 256 := UInt8.toNat_lt p.ty
 obtain ⟨B3, hB3⟩ : ∃ B : List UInt8, B = B2 ++ 2 :: UInt8.ofNat 1 :: [p.ty] := ⟨_, rfl⟩
 rw [← hB3] at hE
 have lB3 : B3.length ≤ 300 := by rw [hB3]; simp [wordB_len]; omega
 have HQ3 := hide hB3
 clear hB3
 go_wp2_with fail
 refine hE.mono ?_
 clear hE
 rintro e x3 ⟨v3, rfl, ho, hs⟩
 obtain ⟨a3, d3, rfl, _, _, _, _⟩ := own_value ho
 have HB3 := hide (HBa.out.trans ((all_below ho.right hs).mono HBa.out.size))
 have Ho3 := hide (own_bytes ho)
 clear ho hs
 clear cT
 have cT := (HC.out x3 HB3.out).2.1
 have hE := rword12_any p.ver hVer.out x3
 go_wp2_with fail
 refine hE.mono ?_
 clear hE cT
 rintro e y3 ⟨q3, rfl, ho, hs⟩
 obtain ⟨b3, e3, rfl, _, _, _, _⟩ := own_value ho
 have HC3 := hide (HB3.out.trans ((all_below ho.right hs).mono HB3.out.size))
 have hE := put12_n _ _ _ (wordB p.ver) 3 4 y3 (Ho3.out.below (all_below ho.right hs)) (own_bytes ho) (by omega) (wordB_len _) (by decide)
 clear ho hs
 obtain ⟨B4, hB4⟩ : ∃ B : List UInt8, B = B3 ++ 3 :: UInt8.ofNat 4 :: wordB p.ver := ⟨_, rfl⟩
 rw [← hB4] at hE
 have lB4 : B4.length ≤ 400 := by rw [hB4]; simp [wordB_len]; omega
 have HQ4 := hide hB4
 clear hB4
 go_wp2_with fail
 refine hE.mono ?_
 clear hE
 rintro e x4 ⟨v4, rfl, ho, hs⟩
 obtain ⟨a4, d4, rfl, _, _, _, _⟩ := own_value ho
 have HB4 := hide (HC3.out.trans ((all_below ho.right hs).mono HC3.out.size))
 have Ho4 := hide (own_bytes ho)
 clear ho hs
 have cT := (HC.out x4 HB4.out).2.2.1
 have hE := rword12_any p.sz hSz.out x4
 go_wp2_with fail
 refine hE.mono ?_
 clear hE cT
 rintro e y4 ⟨q4, rfl, ho, hs⟩
 obtain ⟨b4, e4, rfl, _, _, _, _⟩ := own_value ho
 have HC4 := hide (HB4.out.trans ((all_below ho.right hs).mono HB4.out.size))
 have hE := put12_n _ _ _ (wordB p.sz) 4 4 y4 (Ho4.out.below (all_below ho.right hs)) (own_bytes ho) (by omega) (wordB_len _) (by decide)
 clear ho hs
 obtain ⟨B5, hB5⟩ : ∃ B : List UInt8, B = B4 ++ 4 :: UInt8.ofNat 4 :: wordB p.sz := ⟨_, rfl⟩
 rw [← hB5] at hE
 have lB5 : B5.length ≤ 500 := by rw [hB5]; simp [wordB_len]; omega
 have HQ5 := hide hB5
 clear hB5
 go_wp2_with fail
 refine hE.mono ?_
 clear hE
 rintro e x5 ⟨v5, rfl, ho, hs⟩
 obtain ⟨a5, d5, rfl, _, _, _, _⟩ := own_value ho
 have HB5 := hide (HC4.out.trans ((all_below ho.right hs).mono HC4.out.size))
 have Ho5 := hide (own_bytes ho)
 clear ho hs
 have hE := put12_n _ _ _ p.hash 5 32 x5 Ho5.out (HH.out x5 HB5.out) (by omega) Hl.out (by decide)
 obtain ⟨B6, hB6⟩ : ∃ B : List UInt8, B = B5 ++ 5 :: UInt8.ofNat 32 :: p.hash := ⟨_, rfl⟩
 rw [← hB6] at hE
 have HQ6 := hide hB6
 clear hB6
 have h9 := arr_whole 22 32 hud w.heap.size 4 x5
 go_wp2_with fail
 refine hE.mono ?_
 clear hE h9
 rintro e x6 ⟨v6, rfl, ho, hs⟩
 obtain ⟨a6, d6, rfl, _, _, _, _⟩ := own_value ho
 have H6 := hide (on_all_to ho (SP.on.below HA.out HB5.out))
 have HS6 := hide ((HSt.out.trans (Str.below HB5.out)).trans hs)
 clear ho hs
 go_wp2
 go_ret
 rw [show signedB p = B6 by rw [HQ6.out, HQ5.out, HQ4.out, HQ3.out, HQ2.out]; rfl]
 exact ⟨_, rfl, H6.out, HS6.out⟩
theorem rpencode_any (p : PkS) (hpk : p.Ok) (w : World) : Calls Tryz.prog 56 #[.agg (rpC p)] w (Makes w fun v => ownT v (pkB p)) := by
 have hup := Tryz.underlying38
 have hus := Tryz.underlying25
 have HSz : Hid ((Tryz.prog.info? 38).map (·.size) = some (rpC p).size) := hide (by rw [rpC_size hpk]; kernel_rfl)
 have hr := heap_alloc_new w (.cells (rpC p) 38)
 have HG : Hid (∀ X, Stay (w.alloc (.cells (rpC p) 38)) X → X.heap[w.heap.size]? = some (.cells (rpC p) 38 (0, 0))) := hide fun X hT => (hT.block _ (by simp)).trans hr
 have HH : Hid (∀ X, Stay (w.alloc (.cells (rpC p) 38)) X → IsBytes X (.slice (some ⟨w.heap.size, 36, .none⟩) 64 64) p.sig) := hide fun X hT => ⟨_, _, by rw [hpk.sig], by rw [hpk.sig]; omega, by decide, rp_sig hpk X w.heap.size _ ((hT.block _ (by simp)).trans hr), fun h => (nomatch h)⟩
 have HA := hide ((on_all w).alloc (.cells (rpC p) 38)).right
 have HSt := hide ((Str.refl w).alloc (.cells (rpC p) 38))
 clear hr
 go_enter Tryz.func56, Tryz.ntmps56
 go_wp2_with fail
 refine rV [isV (.agg (rpC p)), fun v X => IsBytes X v (signedB p), isV (.pointer (some ⟨w.heap.size, 36, .none⟩)), isV (.slice (some ⟨w.heap.size, 36, .none⟩) 64 64), fun v X => MadeP w (pkB p) v X, fun v X => MadeP w (pkB p) v X] ?t73 ?r85 (hk := ?keep)
 case keep => exact ⟨Keep.isV _, fun _ _ _ h k => IsBytes.below h k, Keep.isV _, Keep.isV _, fun _ _ _ h k => MadeP.below h k, fun _ _ _ h k => MadeP.below h k, trivial⟩
 case' t73 => refine ⟨?_, ?_, ?_, ?_, ?_, ?_, trivial⟩ <;> intro ev X hT hb hk hf
 ·exact OpOk.lp (fV ev 1 (.pointer (some ⟨w.heap.size, 0, .none⟩)) hk.1) (part_at (HG.out X hT)) hup HSz.out
 ·refine OpOk.enters (by simp [execOp, resolve, invoke, fX ev 3 hf.1, hb.1, hb.2.1, go_sem]) ((rsigned_any p hpk X).mono ?_)
  rintro e X2 ⟨v5, rfl, h5, h6⟩
  exact ⟨_, rfl, own_bytes h5, all_below h5.right h6⟩
 ·exact OpOk.s (fV ev 1 (.pointer (some ⟨w.heap.size, 0, .none⟩)) hk.1) hb
 ·exact OpOk.r (by have h9 := arr_whole 25 64 hus w.heap.size 36 X; simp [execOp, fX ev 5 hf.1, hb.1, h9, go_sem])
 ·have e0 : IsBytes X (ev (.tmp 4)) (signedB p) := hf.1
  refine OpOk.enters (by simp [execOp, resolve, invoke, fX ev 6 hf.2.1, hb.1, hb.2.1, go_sem]) ((put12_n _ _ _ p.sig 6 64 X e0 (HH.out X hT) (by rw [signedB_len hpk]; decide) hpk.sig (by decide)).mono ?_)
  rintro e X2 ⟨v5, rfl, h5, h6⟩
  exact ⟨_, rfl, ⟨on_all_to h5 (SP.on.below HA.out hT), (HSt.out.trans (Str.below hT)).trans h6⟩, all_below h5.right h6⟩
 ·have e0 : MadeP w (pkB p) (ev (.tmp 7)) X := hf.1
  exact OpOk.assign rfl rfl ⟨e0, Stay.refl _⟩
 intro X hT
 rintro _ rfl _ - _ rfl _ rfl v7 h7 v8 h8
 have h9 : MadeP w (pkB p) v8 X := h8
 have H9 := hide h9
 obtain ⟨va, vc, rfl, _, _, _, _⟩ := own_value h9.1
 clear hT h7 h8 h9
 go_wp2
 refine Rest.done ?_
 go_wp2
 go_ret
 exact ⟨_, rfl, H9.out.1, H9.out.2⟩
theorem foldl_set (off : Nat) : ∀ (l : List Value) (k : Nat) (cs : Array Value), off + k + l.length ≤ cs.size →
  ((l.zipIdx k).foldl (fun cs (x : Value × Nat) => cs.setIfInBounds (off + x.2) x.1) cs).toList = cs.toList.take (off + k) ++ l ++ cs.toList.drop (off + k + l.length)
 | [], k, cs, h => by simp
 | v :: l, k, cs, h => by
  simp only [List.length_cons] at h
  simp only [List.zipIdx_cons, List.foldl_cons]
  rw [foldl_set off l (k + 1) _ (by simp; omega)]
  have hk : off + k < cs.toList.length := by simp; omega
  rw [Array.toList_setIfInBounds, show off + (k + 1) = off + k + 1 by omega, List.take_succ_eq_append_getElem (by simpa using hk)]
  rw [List.take_set_of_le (by omega), List.getElem_set_self, List.drop_set_of_lt (by omega)]
  simp [Nat.add_assoc, Nat.add_comm, Nat.add_left_comm]
theorem fill_cons (place : Nat → Option (Nat × Nat)) (cells : Array Value) (i : Nat) (v : Value) (rest : List (Nat × Value)) (off size : Nat) (l : List Value) (hp : place i = some (off, size)) (hv : v.cells = l.toArray) (hs : l.length = size) (hb : off + size ≤ cells.size) (cs' : Array Value)
  (hc : cells.toList.take off ++ l ++ cells.toList.drop (off + size) = cs'.toList) : Instr.fill place cells ((i, v) :: rest) = Instr.fill place cs' rest := by
 have e : v.cells.zipIdx.foldl (fun cs (x : Value × Nat) => cs.setIfInBounds (off + x.2) x.1) cells = cs' := by
  apply Array.toList_inj.1
  rw [← hc, hv, ← Array.foldl_toList, Array.toList_zipIdx]
  have := foldl_set off l 0 cells (by omega)
  simp only [Nat.add_zero, hs] at this
  exact this
 have h1 : ¬(v.cells.size ≠ size ∨ off + v.cells.size > cells.size) := by rw [hv]; simp; omega
 simp only [Instr.fill, hp]
 split
 ·rename_i h2
  simp only [Bool.or_eq_true, decide_eq_true_eq] at h2
  exact absurd (by simpa using h2) h1
 exact congrArg (Instr.fill place · rest) e
theorem build_step {P : Program} {w : World} (m : Sem (Array (Nat × Nat))) (pl : Array (Nat × Nat)) (zero : Array Value) (parts : List (Nat × Value)) (cs : Array Value) (err : Sem Value) (hm : m.run P w = .ok pl w) (hf : Instr.fill (pl[·]?) zero parts = some cs) :
  (do
   let places ← m
   let some cells := Instr.fill (places[·]?) zero parts | err
   Pure.pure (Value.agg cells) : Sem Value).run P w = .ok (.agg cs) w := by
 rw [Sem.run_bind, hm, Result.andThen_ok, hf]
 rfl
theorem rp_hz (w : World) : (zeroValue 38).run Tryz.prog w = .ok (.agg (rpC zP)) w := by kernel_rfl
theorem rpC_sz (a b c : Nat) (t : UInt8) (h s : List UInt8) (e1 : h.length = 32) (e2 : s.length = 64) : (rpC ⟨a, t, b, c, h, s⟩).size = 100 := by simp [rpC, rpL, e1, e2]
theorem rp_fill (p : PkS) (h : p.Ok) : Instr.fill (#[(0, 1), (1, 1), (2, 1), (3, 1), (4, 32), (36, 64)][·]?) (rpC zP) [(0, .int .u32 p.hw), (1, .int .u32 p.ver), (2, .int .u32 p.sz), (3, vb p.ty), (4, .agg (vbs p.hash).toArray), (5, .agg (vbs p.sig).toArray)] = some (rpC p) := by
 have e1 : (vbs p.hash).length = 32 := by simp [h.hash]
 have e2 : (vbs p.sig).length = 64 := by simp [h.sig]
 rw [fill_cons _ _ _ _ _ 0 1 [.int .u32 p.hw] rfl rfl rfl (by rw [show (rpC zP).size = 100 from rpC_sz _ _ _ _ _ _ rfl rfl]; decide) (rpC ⟨p.hw, 0, 0, 0, List.replicate 32 0, List.replicate 64 0⟩) rfl]
 rw [fill_cons _ _ _ _ _ 1 1 [.int .u32 p.ver] rfl rfl rfl (by rw [show (rpC ⟨p.hw, 0, 0, 0, List.replicate 32 0, List.replicate 64 0⟩).size = 100 from rpC_sz _ _ _ _ _ _ rfl rfl]; decide) (rpC ⟨p.hw, 0, p.ver, 0, List.replicate 32 0, List.replicate 64 0⟩) rfl]
 rw [fill_cons _ _ _ _ _ 2 1 [.int .u32 p.sz] rfl rfl rfl (by rw [show (rpC ⟨p.hw, 0, p.ver, 0, List.replicate 32 0, List.replicate 64 0⟩).size = 100 from rpC_sz _ _ _ _ _ _ rfl rfl]; decide) (rpC ⟨p.hw, 0, p.ver, p.sz, List.replicate 32 0, List.replicate 64 0⟩) rfl]
 rw [fill_cons _ _ _ _ _ 3 1 [vb p.ty] rfl rfl rfl (by rw [show (rpC ⟨p.hw, 0, p.ver, p.sz, List.replicate 32 0, List.replicate 64 0⟩).size = 100 from rpC_sz _ _ _ _ _ _ rfl rfl]; decide) (rpC ⟨p.hw, p.ty, p.ver, p.sz, List.replicate 32 0, List.replicate 64 0⟩) rfl]
 rw [fill_cons _ _ _ _ _ 4 32 (vbs p.hash) rfl rfl e1 (by rw [show (rpC ⟨p.hw, p.ty, p.ver, p.sz, List.replicate 32 0, List.replicate 64 0⟩).size = 100 from rpC_sz _ _ _ _ _ _ rfl rfl]; decide) (rpC ⟨p.hw, p.ty, p.ver, p.sz, p.hash, List.replicate 64 0⟩) rfl]
 rw [fill_cons _ _ _ _ _ 36 64 (vbs p.sig) rfl rfl e2 (by rw [show (rpC ⟨p.hw, p.ty, p.ver, p.sz, p.hash, List.replicate 64 0⟩).size = 100 from rpC_sz _ _ _ _ _ _ h.hash rfl]; decide) (rpC p) (by
  show ([Value.int .u32 p.hw, .int .u32 p.ver, .int .u32 p.sz, vb p.ty] ++ (vbs p.hash ++ vbs (List.replicate 64 0))).take 36 ++ vbs p.sig ++ ([Value.int .u32 p.hw, .int .u32 p.ver, .int .u32 p.sz, vb p.ty] ++ (vbs p.hash ++ vbs (List.replicate 64 0))).drop (36 + 64) = [Value.int .u32 p.hw, .int .u32 p.ver, .int .u32 p.sz, vb p.ty] ++ (vbs p.hash ++ vbs p.sig)
  rw [← List.append_assoc [_, _, _, _] (vbs p.hash) (vbs (List.replicate 64 0)), List.take_left' (by simp [h.hash]), List.drop_eq_nil_of_le (by simp [h.hash]), List.append_nil]
  exact List.append_assoc _ _ _)]
 rfl
theorem wpList_build_rp {ops : Array Oper} {rest : List Oper} {o : Oper} {a : Act} {w : World} {Q : Exit → Act → World → Prop} (hgd : o.guard = Option.none) (x0 x1 x2 x3 x4 x5 : Operand) (ho : o.op = .build 38 #[(0, x0), (1, x1), (2, x2), (3, x3), (4, x4), (5, x5)]) (p : PkS) (h : p.Ok)
  (h0 : a.eval x0 = .int .u32 p.hw) (h1 : a.eval x1 = .int .u32 p.ver) (h2 : a.eval x2 = .int .u32 p.sz) (h3 : a.eval x3 = vb p.ty) (h4 : a.eval x4 = .agg (vbs p.hash).toArray) (h5 : a.eval x5 = .agg (vbs p.sig).toArray)
  (hk : wpList Tryz.prog ops Q rest (a.put o.dst (.agg (rpC p))) w) : wpList Tryz.prog ops Q (o :: rest) a w := by
 have hr : (execOp a.eval o).run Tryz.prog w = .ok (.value (.agg (rpC p))) w := by
  have hb : (Instr.build 38 #[(0, .int .u32 p.hw), (1, .int .u32 p.ver), (2, .int .u32 p.sz), (3, vb p.ty), (4, .agg (vbs p.hash).toArray), (5, .agg (vbs p.sig).toArray)]).run Tryz.prog w = .ok (.agg (rpC p)) w := by
   unfold Instr.build
   rw [Sem.run_bind, rp_hz, Result.andThen_ok, Sem.run_bind, run_underlying Tryz.underlying38 w, Result.andThen_ok]
   exact build_step _ _ _ _ _ _ (by kernel_rfl) (rp_fill p h)
  unfold execOp
  rw [ho]
  simp only [List.map_toArray, List.map_cons, List.map_nil, h0, h1, h2, h3, h4, h5]
  rw [Sem.run_bind, hb]
  rfl
 exact wpList_plain hgd fun _ hK => by
  unfold Oper.wp
  simp only [hr]
  exact hK _ _ hk
theorem of12_any (p : PkS) (hpk : p.Ok) (w : World) :
  Calls Tryz.prog 8 #[.agg (pkC p)] w fun e w' => e = .returned (.agg (rpC p)) ∧ Below w.heap.size w w' := by
 have hur := Tryz.underlying38
 have hud := Tryz.underlying24
 have hus := Tryz.underlying26
 have hsr : (Tryz.prog.info? 38).map (·.size) = some (rpC p).size := by rw [rpC_size hpk]; kernel_rfl
 have hsd : (Tryz.prog.info? 24).map (·.size) = some (vbs p.hash).toArray.size := by rw [show (vbs p.hash).toArray.size = 32 by simp [hpk.hash]]; kernel_rfl
 have hss : (Tryz.prog.info? 26).map (·.size) = some (vbs p.sig).toArray.size := by rw [show (vbs p.sig).toArray.size = 64 by simp [hpk.sig]]; kernel_rfl
 have hg := heap_alloc2_old w (.cells (pkC p) 28) (.cells (rpC zP) 38)
 have hr := heap_alloc2_new w (.cells (pkC p) 28) (.cells (rpC zP) 38)
 have hB : Below w.heap.size w ((w.alloc (.cells (pkC p) 28)).alloc (.cells (rpC zP) 38)) := ((Below.refl _ _).alloc (Nat.le_refl _) _).alloc (by simp) _
 obtain ⟨c0, c1, c2, c3⟩ := pk_cells p _ _ _ hg
 have hla := pk_hash hpk _ _ _ hg
 have hlb := pk_sig hpk _ _ _ hg
 have hz := rp_hz
 have hzz : (rpC zP).size = (rpC p).size := by rw [rpC_size hpk]; rfl
 have hone := rpC_one p
 have HB := hide hB
 have HK := hide hpk
 have Hr := hide hr
 have Hla : Hid (∀ j v, (vbs p.hash).toArray[j]? = some v → ((w.alloc (.cells (pkC p) 28)).alloc (.cells (rpC zP) 38)).cell? ⟨w.heap.size, 4 + j, .none⟩ = some v) := hide fun j v h => Lay.cell hla j (by simpa using h)
 have Hlb : Hid (∀ j v, (vbs p.sig).toArray[j]? = some v → ((w.alloc (.cells (pkC p) 28)).alloc (.cells (rpC zP) 38)).cell? ⟨w.heap.size, 36 + j, .none⟩ = some v) := hide fun j v h => Lay.cell hlb j (by simpa using h)
 have Hsr := hide hsr
 have Hsd := hide hsd
 have Hss := hide hss
 have Hzz := hide hzz
 have Hone := hide hone
 clear hB hpk hr hla hlb hsr hsd hss hzz hone hg
 have hsz0 : (Tryz.prog.info? 38).map (·.size) = some 100 := by kernel_rfl
 clear hsz0
 go_enter Tryz.func8, Tryz.ntmps8
 generalize hZ : rpC zP = Z at *
 generalize hP : pkC p = CP at *
 go_wp2_with (first
  | (refine wpList_load_part rfl _ _ rfl w.heap.size 4 rfl (vbs p.hash).toArray _ Hla.out hud rfl Hsd ?_)
  | (refine wpList_load_part rfl _ _ rfl w.heap.size 36 rfl (vbs p.sig).toArray _ Hlb.out hus rfl Hss ?_)
  | (refine wpList_build_rp rfl _ _ _ _ _ _ rfl p HK.out rfl rfl rfl rfl rfl rfl ?_)
  | (refine wpList_store_row rfl _ _ _ rfl (w.heap.size + 1) (rpC p) rfl rfl _ _ Hr.out Hsr Hzz Hone ?_))
 refine bodyPost_ret (v := .agg (rpC p)) (results_cell_row Tryz.results8 _ _ (w.heap.size + 1) _ (rpC p) (0, 0) _ rfl (setRow_heap_same _ _ _ _ _ _ Hr.out) hur rfl Hsr.out) rfl ⟨rfl, below_setRow HB.out (by omega) _⟩
theorem rpC_0 (p : PkS) (n : Nat) : (rpC p).setIfInBounds 0 (.int .u32 n) = rpC { p with hw := n } := by simp [rpC, rpL]
theorem rpC_1 (p : PkS) (n : Nat) : (rpC p).setIfInBounds 1 (.int .u32 n) = rpC { p with ver := n } := by simp [rpC, rpL]
theorem rpC_2 (p : PkS) (n : Nat) : (rpC p).setIfInBounds 2 (.int .u32 n) = rpC { p with sz := n } := by simp [rpC, rpL]
theorem rpC_3 (p : PkS) (t : UInt8) : (rpC p).setIfInBounds 3 (vb t) = rpC { p with ty := t } := by simp [rpC, rpL]
theorem rpC_4 (p : PkS) (k : Nat) (x : UInt8) (h : k < p.hash.length) : (rpC p).setIfInBounds (4 + k) (vb x) = rpC { p with hash := p.hash.set k x } := by
 apply Array.toList_inj.1
 simp only [rpC, rpL, Array.toList_setIfInBounds]
 rw [List.set_append_right _ _ (by simp), List.set_append_left _ _ (by simp; omega)]
 simp [vbs, List.map_set]
theorem rpC_36 (p : PkS) (k : Nat) (x : UInt8) (h : p.hash.length = 32) : (rpC p).setIfInBounds (36 + k) (vb x) = rpC { p with sig := p.sig.set k x } := by
 apply Array.toList_inj.1
 simp only [rpC, rpL, Array.toList_setIfInBounds]
 rw [List.set_append_right _ _ (by simp; omega), List.set_append_right _ _ (by simp [h]; omega)]
 simp only [List.length_cons, List.length_nil, List.length_map, h]
 rw [show 36 + k - (0 + 1 + 1 + 1 + 1) - 32 = k by omega]
 simp [vbs, List.map_set]
theorem set_take (s z : List UInt8) (k : Nat) (x : UInt8) (hx : s[k]? = some x) (hz : k < z.length) : (s.take k ++ z.drop k).set k x = s.take (k + 1) ++ z.drop (k + 1) := by
 obtain ⟨hs, rfl⟩ := List.getElem?_eq_some_iff.1 hx
 have hl : (s.take k).length = k := by rw [List.length_take]; omega
 rw [List.set_append_right _ _ (by omega), hl, Nat.sub_self, List.drop_eq_getElem_cons hz, List.set_cons_zero, List.take_succ_eq_append_getElem hs, List.append_assoc]
 rfl
theorem rp_cell (p : PkS) (X : World) (g : Nat) (t : TypeId) (hX : X.heap[g]? = some (.cells (rpC p) t (0, 0))) (k : Nat) (hk : k < (rpC p).size) : ∃ v, X.cell? ⟨g, k, .none⟩ = some v := by
 refine ⟨(rpC p)[k], ?_⟩
 rw [cell_of_row _ _ _ _ _ _ hX]
 simp [hk]
theorem rpparse_any (v : Value) (b : List UInt8) (w : World) (h : IsBytes w v b) (hlen : b.length ≤ 1000000) :
  Calls Tryz.prog 29 #[v] w (PkEnd rpC (pparse b) w) := by
 have hup := Tryz.underlying38
 have hz := rp_hz
 have hzs : (Tryz.prog.info? 38).map (·.size) = some (rpC zP).size := by kernel_rfl
 have hzo := rpC_one zP
 have HT := hide h
 obtain ⟨a, c, rfl, hc, hm, hla, hn⟩ := h
 unfold maxLen at hm
 have h0 := ((on_all w).alloc (.cells (rpC zP) 38)).alloc (.cells (rpC zP) 38)
 rw [World.size_alloc] at h0
 have hs0 := ((Str.refl w).alloc (.cells (rpC zP) 38)).alloc (.cells (rpC zP) 38)
 have H0 := hide h0
 have HS0 := hide hs0
 have hR0 := on_blk_mul h0.right
 have hP0 := on_blk_mul h0
 have hT := rtparse_any _ b _ (HT.out.below (all_below h0.right.right hs0)) hlen
 by_cases h128 : 128 < b.length
 ·have HP := hide (show pparse b = (zP, 17) by unfold pparse; rw [if_pos h128])
  clear hT h0 hs0
  generalize hZ : rpC zP = Z at *
  have HZ := hide hZ
  clear hZ
  go_enter Tryz.func29, Tryz.ntmps29
  go_wp2_with (first
   | (refine wS hR0 hzs rfl hzo ?_)
   | (refine wL hP0 hup hzs ?_))
  refine rT Tryz.results29 hR0 hup hzs (.int .i64 17) ?_
  refine ⟨?_, below_setRow (all_below H0.out.right.right HS0.out) (Nat.le_refl _) _⟩
  rw [HP.out, HZ.out]
  rfl
 generalize hZ : rpC zP = Z at *
 have HZ := hide hZ
 clear hZ
 by_cases he : (parseF b.length b 0 []).2 = 0
 ·by_cases h121 : b.length = 121
  ·have hb := HT.out.below (all_below h0.right.right hs0)
   obtain ⟨bg, bo, rfl⟩ := Lay.isAddr hla 0 (by simp; omega)
   have HEe := hide he
   rw [h121] at hb hc hT HT HEe ⊢
   have z2 : c ≠ 2 := by omega
   have z11 : c ≠ 11 := by omega
   have z17 : c ≠ 17 := by omega
   have y2 : (6 : Int) ≤ (c : Int) := by omega
   have y11 : (15 : Int) ≤ (c : Int) := by omega
   have y17 : (21 : Int) ≤ (c : Int) := by omega
   have HN : Hid (∀ (k : Nat) W, k + 4 ≤ 121 → IsBytes W (.slice (some ⟨bg, bo, .none⟩) 121 c) b → Calls Tryz.prog 55 #[.slice (some ⟨bg, bo + k, .none⟩) 4 (c - k)] W fun e w' => e = .returned (n32v (numS b k 4)) ∧ W = w') := hide fun k W hk hW => by
    have h1 := hW.mid12 k 4 (by omega)
    have h2 := rnumber12_any _ _ W h1 (by simp; omega)
    rw [numS_sub12 b k (by omega)] at h2
    exact h2
   have HP := hide (show pparse b = if pkB (pkAt b) = b then (pkAt b, 0) else (zP, 7) by
    unfold pparse
    rw [if_neg h128, if_neg (by simp [he])]
    by_cases hh : pkB (pkAt b) = b
    ·rw [if_pos ⟨h121, hh⟩, if_pos hh]
    rw [if_neg (fun e => hh e.2), if_neg hh])
   have H121 := hide h121
   have HC : Hid (∀ X, IsBytes X (.slice (some ⟨bg, bo, .none⟩) 121 c) b → ∀ k x, b[k]? = some x → X.cell? ⟨bg, bo + k, .none⟩ = some (vb x)) := hide fun X hX k x hx => by
    obtain ⟨_, _, e, _, _, hl, _⟩ := hX
    simp only [Value.slice.injEq] at e
    obtain ⟨rfl, _, rfl⟩ := e
    refine Lay.cell hl k ?_
    simp [vbs, hx]
   have HX : Hid (∀ k, k < 121 → ∃ x, b[k]? = some x) := hide fun k hk => ⟨_, List.getElem?_eq_getElem (by omega)⟩
   clear h0 hs0 hla hn hb h121 he h128 hlen
   go_enter Tryz.func29, Tryz.ntmps29
   go_wp2_with fail
   refine hT.mono ?_
   clear hT
   rintro e w2 ⟨out, L, rfl, hL, ho, hs2⟩
   rw [HEe.out]
   have HB2 := hide (all_below ho.right hs2)
   have HX0 := hide (H0.out.below HB2.out)
   have HS2 := hide (HS0.out.trans (Str.below HB2.out))
   obtain ⟨la, lc, rfl, _, _, _, _⟩ := Its.lay ho
   clear ho hs2 hL HB2 H0 HS0 hR0 hP0
   have eZ := HZ.out
   clear HZ
   subst eZ
   have hb1 := HT.out.below (all_below HX0.out.right.right HS2.out)
   have fr1 := frozen_of_row w2 (w.heap.size + 1) 0 _ _ (on_blk_mul HX0.out)
   have cc1 := (rp_cells _ w2 (w.heap.size + 1) _ (on_blk_mul HX0.out)).1
   have hN1 := HN.out 2 w2 (by omega) hb1
   go_wp2_with fail
   refine hN1.mono ?_
   clear hN1
   rintro e _ ⟨rfl, rfl⟩
   have hX1 := SP.on.setCell (i := 0) HX0.out (.int .u32 (numS b 2 4 : Nat))
   rw [rpC_0] at hX1
   have hSX1 := HS2.out.setCell ⟨w.heap.size + 1, 0, .none⟩ (.int .u32 (numS b 2 4 : Nat))
   have hb2 := HT.out.below (all_below hX1.right.right hSX1)
   have fr2 := frozen_of_row _ (w.heap.size + 1) 3 _ _ (on_blk_mul hX1)
   have cc2 := (rp_cells _ _ (w.heap.size + 1) _ (on_blk_mul hX1)).2.2.2
   obtain ⟨x8, hx8⟩ := HX.out 8 (by decide)
   have c8 := HC.out _ hb2 8 x8 hx8
   have Hx8 := hide hx8
   clear hx8
   have hX2 := SP.on.setCell (i := 3) hX1 (vb x8)
   rw [rpC_3] at hX2
   have HX2 := hide hX2
   have HSX2 := hide (hSX1.setCell ⟨w.heap.size + 1, 3, .none⟩ (vb x8))
   clear hX1 hX2 hSX1 hb1
   go_wp2_with fail
   clear fr1 cc1 hb2 fr2 cc2 c8
   generalize (w2.setCell ⟨w.heap.size + 1, 0, .none⟩ (.int .u32 (numS b 2 4 : Nat))).setCell ⟨w.heap.size + 1, 3, .none⟩ (vb x8) = X2 at *
   clear HX0 HS2
   have hb3 := HT.out.below (all_below HX2.out.right.right HSX2.out)
   have fr3 := frozen_of_row X2 (w.heap.size + 1) 1 _ _ (on_blk_mul HX2.out)
   have cc3 := (rp_cells _ X2 (w.heap.size + 1) _ (on_blk_mul HX2.out)).2.1
   have hN3 := HN.out 11 X2 (by omega) hb3
   go_wp2_with fail
   refine hN3.mono ?_
   clear hN3
   rintro e _ ⟨rfl, rfl⟩
   go_wp2_with fail
   have hX3 := SP.on.setCell (i := 1) HX2.out (.int .u32 (numS b 11 4 : Nat))
   rw [rpC_1] at hX3
   have HX3 := hide hX3
   have HSX3 := hide (HSX2.out.setCell ⟨w.heap.size + 1, 1, .none⟩ (.int .u32 (numS b 11 4 : Nat)))
   clear hX3 hb3 fr3 cc3 
   generalize X2.setCell ⟨w.heap.size + 1, 1, .none⟩ (.int .u32 (numS b 11 4 : Nat)) = X3 at *
   clear HX2 HSX2
   have hb4 := HT.out.below (all_below HX3.out.right.right HSX3.out)
   have fr4 := frozen_of_row X3 (w.heap.size + 1) 2 _ _ (on_blk_mul HX3.out)
   have cc4 := (rp_cells _ X3 (w.heap.size + 1) _ (on_blk_mul HX3.out)).2.2.1
   have hN4 := HN.out 17 X3 (by omega) hb4
   go_wp2_with fail
   refine hN4.mono ?_
   clear hN4
   rintro e _ ⟨rfl, rfl⟩
   go_wp2_with fail
   have hX4 := SP.on.setCell (i := 2) HX3.out (.int .u32 (numS b 17 4 : Nat))
   rw [rpC_2] at hX4
   have HX4 := hide hX4
   have HSX4 := hide (HSX3.out.setCell ⟨w.heap.size + 1, 2, .none⟩ (.int .u32 (numS b 17 4 : Nat)))
   clear hX4 hb4 fr4 cc4 
   generalize X3.setCell ⟨w.heap.size + 1, 2, .none⟩ (.int .u32 (numS b 17 4 : Nat)) = X4 at *
   clear HX3 HSX3
   obtain ⟨q, hq⟩ : ∃ q : PkS, q = { zP with hw := numS b 2 4, ty := x8, ver := numS b 11 4, sz := numS b 17 4 } := ⟨_, rfl⟩
   have HX5 : Hid ((blk (w.heap.size + 1) (.cells (rpC q) 38 (0, 0)) * (blk w.heap.size (.cells (rpC zP) 38 (0, 0)) * all w)).on X4) := hide (by rw [hq]; exact HX4.out)
   have hqh : q.hash = List.replicate 32 0 := by rw [hq]; rfl
   have hqs : q.sig = List.replicate 64 0 := by rw [hq]; rfl
   have Hqh := hide hqh
   have Hqs := hide hqs
   have Hq := hide hq
   clear hq hqh hqs HX4
   go_wp2_with fail
   go_loopw [7] (fun i wr => ∃ k : Nat, k ≤ 32 ∧ i = .int .i64 k ∧ (blk (w.heap.size + 1) (.cells (rpC { q with hash := (b.drop 23).take k ++ (List.replicate 32 0).drop k }) 38 (0, 0)) * (blk w.heap.size (.cells (rpC zP) 38 (0, 0)) * all w)).on wr ∧ Str w wr) (fun i _ => 32 - (intOf i).toNat)
   case atStart =>
    refine ⟨0, by omega, rfl, ?_, HSX4.out⟩
    have := HX5.out
    rw [show ({ q with hash := (b.drop 23).take 0 ++ (List.replicate 32 0).drop 0 } : PkS) = q by rw [← Hqh.out]; rfl]
    exact this
   obtain ⟨k, hk, rfl, hX, hS⟩ := hrel
   have HXk := hide hX
   have HSk := hide hS
   clear hX hS HX5 HSX4
   by_cases hlt : k < 32
   ·obtain ⟨x, hx⟩ := HX.out (23 + k) (by omega)
    have cx := HC.out _ (HT.out.below (all_below HXk.out.right.right HSk.out)) (23 + k) x hx
    have hx' : (b.drop 23)[k]? = some x := by rw [List.getElem?_drop]; exact hx
    have hlk : ((b.drop 23).take k ++ (List.replicate 32 (0 : UInt8)).drop k).length = 32 := by rw [List.length_append, List.length_take, List.length_drop, H121.out, List.length_drop, List.length_replicate]; omega
    have Hnext := hide (set_take (b.drop 23) (List.replicate 32 0) k x hx' (by simp; omega))
    have Hlk := hide hlk
    generalize (b.drop 23).take k ++ (List.replicate 32 (0 : UInt8)).drop k = hs at *
    have hsz : (rpC { q with hash := hs }).size = 100 := by simp [rpC, rpL, Hlk.out, Hqs.out]
    obtain ⟨old, hold⟩ := rp_cell { q with hash := hs } wr _ _ (on_blk_mul HXk.out) (4 + k) (by rw [hsz]; omega)
    have fr := frozen_of_row wr (w.heap.size + 1) (4 + k) _ _ (on_blk_mul HXk.out)
    rw [show bo + (23 + k) = bo + (k + 23) by omega] at cx
    have cx2 := cx
    rw [show bo + (k + 23) = bo + (23 + k) by omega] at cx2
    clear hx hx' hlk hsz
    go_wp2_with fail
    have h2 := SP.on.setCell (i := 4 + k) HXk.out (vb x)
    rw [rpC_4 _ k x (by show k < hs.length; rw [Hlk.out]; omega)] at h2
    refine ⟨⟨k + 1, by omega, by simp, ?_, HSk.out.setCell _ _⟩, by simp [intOf]; omega⟩
    rw [← Hnext.out]
    exact h2
   obtain rfl : k = 32 := by omega
   have h23 : (b.drop 23).take 32 ++ (List.replicate 32 (0 : UInt8)).drop 32 = (b.drop 23).take 32 := by simp
   rw [h23] at HXk
   obtain ⟨q2, hq2⟩ : ∃ q2 : PkS, q2 = { q with hash := (b.drop 23).take 32 } := ⟨_, rfl⟩
   rw [← hq2] at HXk
   have Hq2h : Hid (q2.hash.length = 32) := hide (by rw [hq2]; show ((b.drop 23).take 32).length = 32; rw [List.length_take, List.length_drop, H121.out]; rfl)
   have Hq2s : Hid (q2.sig = List.replicate 64 0) := hide (by rw [hq2]; exact Hqs.out)
   have Hq2 := hide hq2
   clear hq2 h23 hlt hk
   go_wp2_with fail
   go_loopw [8] (fun i wr => ∃ k : Nat, k ≤ 64 ∧ i = .int .i64 k ∧ (blk (w.heap.size + 1) (.cells (rpC { q2 with sig := (b.drop 57).take k ++ (List.replicate 64 0).drop k }) 38 (0, 0)) * (blk w.heap.size (.cells (rpC zP) 38 (0, 0)) * all w)).on wr ∧ Str w wr) (fun i _ => 64 - (intOf i).toNat)
   case atStart =>
    refine ⟨0, by omega, rfl, ?_, HSk.out⟩
    have := HXk.out
    rw [show ({ q2 with sig := (b.drop 57).take 0 ++ (List.replicate 64 0).drop 0 } : PkS) = q2 by rw [← Hq2s.out]; rfl]
    exact this
   obtain ⟨k, hk, rfl, hX, hS⟩ := hrel
   have HXm := hide hX
   have HSm := hide hS
   clear hX hS HXk HSk
   by_cases hlt : k < 64
   ·obtain ⟨x, hx⟩ := HX.out (57 + k) (by omega)
    have cx := HC.out _ (HT.out.below (all_below HXm.out.right.right HSm.out)) (57 + k) x hx
    have hx' : (b.drop 57)[k]? = some x := by rw [List.getElem?_drop]; exact hx
    have hlk : ((b.drop 57).take k ++ (List.replicate 64 (0 : UInt8)).drop k).length = 64 := by rw [List.length_append, List.length_take, List.length_drop, H121.out, List.length_drop, List.length_replicate]; omega
    have Hnext := hide (set_take (b.drop 57) (List.replicate 64 0) k x hx' (by simp; omega))
    have Hlk := hide hlk
    generalize (b.drop 57).take k ++ (List.replicate 64 (0 : UInt8)).drop k = hs at *
    have hsz : (rpC { q2 with sig := hs }).size = 100 := by simp [rpC, rpL, Hlk.out, Hq2h.out]
    obtain ⟨old, hold⟩ := rp_cell { q2 with sig := hs } wr _ _ (on_blk_mul HXm.out) (36 + k) (by rw [hsz]; omega)
    have fr := frozen_of_row wr (w.heap.size + 1) (36 + k) _ _ (on_blk_mul HXm.out)
    clear hx hx' hlk hsz
    go_wp2_with fail
    have h2 := SP.on.setCell (i := 36 + k) HXm.out (vb x)
    rw [rpC_36 _ k x (by exact Hq2h.out)] at h2
    refine ⟨⟨k + 1, by omega, by simp, ?_, HSm.out.setCell _ _⟩, by simp [intOf]; omega⟩
    rw [← Hnext.out]
    exact h2
   obtain rfl : k = 64 := by omega
   have h57 : (b.drop 57).take 64 ++ (List.replicate 64 (0 : UInt8)).drop 64 = (b.drop 57).take 64 := by simp
   rw [h57] at HXm
   have hall : ({ q2 with sig := (b.drop 57).take 64 } : PkS) = pkAt b := by
    rw [Hq2.out, Hq.out]
    unfold pkAt
    have : b.getD 8 0 = x8 := by rw [List.getD_eq_getElem?_getD, Hx8.out]; rfl
    rw [this]
   rw [hall] at HXm
   have hok := pkAt_ok H121.out
   clear h57 hall hlt hk Hq Hqh Hqs Hq2 Hq2s Hq2h Hx8
   generalize pkAt b = R at *
   have Hok := hide hok
   have hsz : (Tryz.prog.info? 38).map (·.size) = some (rpC R).size := by rw [rpC_size hok]; kernel_rfl
   have hzr : (rpC zP).size = (rpC R).size := by rw [rpC_size hok]; rfl
   have Hsz := hide hsz
   have Hzr := hide hzr
   have Hone := hide (rpC_one R)
   have hgp := on_blk_mul HXm.out
   have hE := rpencode_any R hok wr
   clear hok hsz hzr
   generalize hRC : rpC R = RC at *
   have HRC := hide hRC
   clear hRC
   go_wp2_with (refine wL hgp hup Hsz ?_)
   refine hE.mono ?_
   clear hE hgp
   rintro e w5 ⟨out5, rfl, ho5, hs5⟩
   have HF := hide (on_all_to ho5 HXm.out)
   have HS5 := hide (HSm.out.trans hs5)
   have Hlo := hide (pkB_len Hok.out)
   clear ho5 hs5 HXm HSm
   unfold ownT at HF
   rw [Hlo.out] at HF
   generalize pkB R = outl at *
   obtain ⟨og, oc5, rfl, hc5, _⟩ := own_block HF.out (by omega)
   go_wp2_with fail
   go_loopw [10] (fun i wr => ∃ k : Nat, k ≤ 121 ∧ i = .int .i64 k ∧ (∀ j, j < k → b[j]? = outl[j]?) ∧ (own 5 1 (.slice (some ⟨og, 0, .none⟩) 121 oc5) 121 (vbs outl) * (blk (w.heap.size + 1) (.cells RC 38 (0, 0)) * (blk w.heap.size (.cells (rpC zP) 38 (0, 0)) * all w))).on wr ∧ Str w wr) (fun i _ => 121 - (intOf i).toNat)
   case atStart => exact ⟨0, by omega, rfl, fun j hj => by omega, HF.out, HS5.out⟩
   obtain ⟨k, hk, rfl, hpre, hF, hstr⟩ := hrel
   have Hpre := hide hpre
   have HF2 := hide hF
   have Hstr := hide hstr
   clear hpre hF hstr HF HS5
   by_cases hlt : k < 121
   ·obtain ⟨x, hx⟩ := HX.out k hlt
    have c1 := HC.out _ (HT.out.below (all_below HF2.out.right.right.right Hstr.out)) k x hx
    obtain ⟨y, hy⟩ : ∃ y, outl[k]? = some y := ⟨_, List.getElem?_eq_getElem (by rw [Hlo.out]; exact hlt)⟩
    have c2 := own_cell HF2.out k (vb y) (by simp [vbs, hy])
    have hkc : (k : Int) < 121 := by omega
    have hk0 : (0 : Int) ≤ (k : Int) := by omega
    have Hx := hide hx
    have Hy := hide hy
    clear hx hy
    by_cases hxy : x = y
    ·have exy : (((x.toNat : Nat) : Int) != ((y.toNat : Nat) : Int)) = false := by rw [hxy]; simp
     have Hxy := hide hxy
     clear hxy
     go_wp2_with fail
     go_quiet (fail)
     go_wp2
     refine ⟨⟨k + 1, by omega, by simp, ?_, HF2.out.drewN _, Hstr.out.drewN _⟩, by simp [intOf]; omega⟩
     intro j hj
     by_cases hjk : j < k
     ·exact Hpre.out j hjk
     obtain rfl : j = k := by omega
     rw [Hx.out, Hy.out, Hxy.out]
    have exy : (((x.toNat : Nat) : Int) != ((y.toNat : Nat) : Int)) = true := by
     have : x.toNat ≠ y.toNat := fun h => hxy (UInt8.toNat_inj.1 h)
     simp; omega
    have HE7 := hide (show pparse b = (zP, 7) by
     rw [HP.out, if_neg]
     intro e
     have h1 := Hx.out
     rw [← e, Hy.out] at h1
     exact hxy (Option.some.inj h1).symm)
    clear hxy
    go_wp2_with fail
    go_quiet (fail)
    have hF7 := HF2.out.drewN nq
    have h0' := on_blk_mul hF7.right.right
    have HB7 := hide (all_below hF7.right.right.right (Hstr.out.drewN nq))
    clear hF7
    generalize wr.drewN nq = X7 at *
    generalize hZ2 : rpC zP = Z2 at *
    have HZ2 := hide hZ2
    clear hZ2
    go_wp2_with (refine wpList_store_row rfl _ _ _ rfl w.heap.size Z2 rfl rfl _ _ h0' hzs rfl hzo ?_)
    refine bodyPost_ret (v := .tuple #[.agg Z2, .int .i64 7]) (results_cell_row_tmp Tryz.results29 _ _ w.heap.size _ Z2 (0, 0) _ rfl (setRow_heap_same _ _ _ _ _ _ h0') hup rfl hzs (.int .i64 7) rfl) rfl ?_
    refine ⟨?_, below_setRow HB7.out (Nat.le_refl _) _⟩
    rw [HE7.out, HZ2.out]
    rfl
   obtain rfl : k = 121 := by omega
   have heq : outl = b := List.ext_getElem? fun j => by
    rcases Nat.lt_or_ge j 121 with hj | hj
    ·exact (Hpre.out j hj).symm
    rw [List.getElem?_eq_none (by rw [Hlo.out]; exact hj), List.getElem?_eq_none (by rw [H121.out]; exact hj)]
   have HE0 := hide (show pparse b = (R, 0) by rw [HP.out, if_pos heq])
   have hgp := on_blk_mul HF2.out.right
   have hgr := on_blk_mul HF2.out.right.right
   have HB9 := hide (all_below HF2.out.right.right.right Hstr.out)
   clear heq Hpre hlt hk
   have Hzr2 : Hid ((rpC zP).size = RC.size) := hide (by rw [Hzr.out])
   generalize rpC zP = Z2 at *
   go_wp2_with (first
    | (refine wS hgr Hsz Hzr2 Hone ?_)
    | (refine wL hgp hup Hsz ?_))
   refine rT Tryz.results29 hgr hup Hsz.out (.int .i64 0) ?_
   refine ⟨?_, below_setRow HB9.out (Nat.le_refl _) _⟩
   rw [HE0.out, HRC.out]
   rfl
  have HP := hide (show pparse b = (zP, 7) by unfold pparse; rw [if_neg h128, if_neg (by simp [he]), if_neg (fun hh => h121 hh.1)])
  have e1 : (((b.length : Nat) : Int) != 121) = true := by simp; omega
  have HEe := hide he
  clear h0 hs0 h121 he hR0 hP0
  go_enter Tryz.func29, Tryz.ntmps29
  go_wp2_with fail
  refine hT.mono ?_
  clear hT
  rintro e w2 ⟨out, L, rfl, hL, ho, hs2⟩
  rw [HEe.out]
  have HB2 := hide (all_below ho.right hs2)
  have h2 := H0.out.below HB2.out
  have hR2 := on_blk_mul h2.right
  have hP2 := on_blk_mul h2
  have HS2 := hide (HS0.out.trans (Str.below HB2.out))
  have H2 := hide h2
  obtain ⟨la, lc, rfl, _, _, _, _⟩ := Its.lay ho
  clear ho hs2 h2 hL
  go_wp2_with (first
   | (refine wS hR2 hzs rfl hzo ?_)
   | (refine wL hP2 hup hzs ?_))
  refine rT Tryz.results29 hR2 hup hzs (.int .i64 7) ?_
  refine ⟨?_, below_setRow (all_below H2.out.right.right HS2.out) (Nat.le_refl _) _⟩
  rw [HP.out, HZ.out]
  rfl
 have HP := hide (show pparse b = (zP, (parseF b.length b 0 []).2) by unfold pparse; rw [if_neg h128, if_pos (by simp [he])])
 generalize hE : (parseF b.length b 0 []).2 = er at *
 have hei : (((er : Nat) : Int) != 0) = true := by simp; omega
 have HEr := hide hE
 clear h0 hs0 hE hR0 hP0
 go_enter Tryz.func29, Tryz.ntmps29
 go_wp2_with fail
 refine hT.mono ?_
 clear hT
 rintro e w2 ⟨out, L, rfl, hL, ho, hs2⟩
 rw [HEr.out]
 have HB2 := hide (all_below ho.right hs2)
 have h2 := H0.out.below HB2.out
 have hR2 := on_blk_mul h2.right
 have hP2 := on_blk_mul h2
 have HS2 := hide (HS0.out.trans (Str.below HB2.out))
 have H2 := hide h2
 obtain ⟨la, lc, rfl, _, _, _, _⟩ := Its.lay ho
 clear ho hs2 h2 hL he
 go_wp2_with (first
  | (refine wS hR2 hzs rfl hzo ?_)
  | (refine wL hP2 hup hzs ?_))
 refine rT Tryz.results29 hR2 hup hzs (.int .i64 (er : Nat)) ?_
 refine ⟨?_, below_setRow (all_below H2.out.right.right HS2.out) (Nat.le_refl _) _⟩
 rw [HP.out, HZ.out]
theorem lens_of_tab {W : World} (hL : laidMet Tryz.prog [("bosun/packet.lengths", Lib.tabData .i64 lensL)] W) : Lens W := by
 have t1 := Lib.tabIs_of_head (g := 0) (t := 112) (e := 3) (n := 7) (by kernel_rfl) (by kernel_rfl) Tryz.underlying112 Tryz.underlying3 (by kernel_rfl) (by kernel_rfl) hL
 intro i hi
 have := t1.cell (g := 0) (by kernel_rfl) i (by show i < 7; exact hi)
 rw [this]
theorem lens_of_laid {W : World} (hL : laidMetH Tryz.prog [("bosun/packet.lengths", Rows.laid_bosun_packet_lengths)] W) : Lens W := by
 rw [MakeChecks.laidMetH_plain _ _ _ (by kernel_rfl)] at hL
 have e1 : (Rows.laid_bosun_packet_lengths : DataW Unit) = Lib.tabData .i64 lensL := by kernel_rfl
 rw [e1] at hL
 exact lens_of_tab hL
theorem run_part_arr {P : Program} (w : World) (e : TypeId) (n : Nat) (e' : TypeId) (he : P.underlying e = some (.array n e')) (hi : (P.info? e).map (·.size) = some n) (cs : Array Value) (i : Nat) : (part e cs i).run P w = .ok (.agg (cs.extract i (i + n))) w := by
 have hagg : (isAgg e).run P w = .ok true w := by
  unfold isAgg
  rw [Sem.run_bind, run_underlying he w]
  simp
 cases hq : P.info? e with
 | none => simp [hq] at hi
 | some inf =>
  have h1 : inf.size = n := by simpa [hq] using hi
  simp [part, hagg, sizeOf, typeInfo, hq, h1]
theorem pk_ext1 {p : PkS} (h : p.Ok) : (pkC p).extract 4 (4 + 32) = (vbs p.hash).toArray ∧ (rpC p).extract 4 (4 + 32) = (vbs p.hash).toArray := by
 constructor <;>
 ·apply Array.toList_inj.1
  rw [Array.toList_extract]
  simp only [List.extract, pkC, rpC, pkL, rpL, drop4]
  exact List.take_left' (by simp [h.hash])
theorem pk_ext2 {p : PkS} (h : p.Ok) : (pkC p).extract 36 (36 + 64) = (vbs p.sig).toArray ∧ (rpC p).extract 36 (36 + 64) = (vbs p.sig).toArray := by
 constructor <;>
 ·apply Array.toList_inj.1
  rw [Array.toList_extract]
  simp only [List.extract, pkC, rpC, pkL, rpL]
  rw [← List.append_assoc, List.drop_left' (by simp [h.hash])]
  exact List.take_of_length_le (by simp [h.sig])
theorem eqFields_true {P : Program} (w : World) (d : Nat) (xs ys : Array Value) : ∀ (fs : List Field), (∀ f ∈ fs, f.name ≠ "_" ∧ ∃ a b, (part f.type xs f.offset).run P w = .ok a w ∧ (part f.type ys f.offset).run P w = .ok b w ∧ (Op.equalIn d f.type a b).run P w = .ok true w) →
  (Op.eqFields d xs ys fs).run P w = .ok true w
 | [], _ => by simp [Op.eqFields]
 | f :: fs, h => by
  obtain ⟨hn, a, b, h1, h2, h3⟩ := h f (by simp)
  have ih := eqFields_true w d xs ys fs (fun g hg => h g (by simp [hg]))
  simp only [Op.eqFields, hn, ne_eq, not_false_eq_true, if_true, Sem.run_bind, h1, h2, h3, Result.andThen_ok, Bool.not_true, Bool.false_eq_true, if_false, ih]
theorem eq_pk_d (d : Nat) (w : World) (p : PkS) (h : p.Ok) : (Op.equalIn (d + 3) 28 (.agg (pkC p)) (.agg (pkC p))).run Tryz.prog w = .ok true w := by
 have hu := Tryz.underlying28
 have hs : Tryz.prog.stoodInHeld 28 = false := by kernel_rfl
 obtain ⟨x1, _⟩ := pk_ext1 h
 obtain ⟨x2, _⟩ := pk_ext2 h
 have p0 := run_part_int (P := Tryz.prog) w 23 .u32 Tryz.underlying23 (pkC p) 0 (.int .u32 p.hw) rfl
 have p1 := run_part_int (P := Tryz.prog) w 5 .u8 Tryz.underlying5 (pkC p) 1 (vb p.ty) rfl
 have p2 := run_part_int (P := Tryz.prog) w 23 .u32 Tryz.underlying23 (pkC p) 2 (.int .u32 p.ver) rfl
 have p3 := run_part_int (P := Tryz.prog) w 23 .u32 Tryz.underlying23 (pkC p) 3 (.int .u32 p.sz) rfl
 have p4 := run_part_arr (P := Tryz.prog) w 24 32 5 Tryz.underlying24 (by kernel_rfl) (pkC p) 4
 have p5 := run_part_arr (P := Tryz.prog) w 26 64 5 Tryz.underlying26 (by kernel_rfl) (pkC p) 36
 rw [x1] at p4
 rw [x2] at p5
 have q0 := run_eq_int (P := Tryz.prog) w (d + 1) 23 .u32 Tryz.underlying23 p.hw p.hw
 have q1 := run_eq_int (P := Tryz.prog) w (d + 1) 5 .u8 Tryz.underlying5 p.ty.toNat p.ty.toNat
 have q2 := run_eq_int (P := Tryz.prog) w (d + 1) 23 .u32 Tryz.underlying23 p.ver p.ver
 have q3 := run_eq_int (P := Tryz.prog) w (d + 1) 23 .u32 Tryz.underlying23 p.sz p.sz
 have q4 := run_eq_bytes (P := Tryz.prog) w d 24 5 32 Tryz.underlying24 Tryz.underlying5 (by kernel_rfl) p.hash p.hash h.hash h.hash
 have q5 := run_eq_bytes (P := Tryz.prog) w d 26 5 64 Tryz.underlying26 Tryz.underlying5 (by kernel_rfl) p.sig p.sig h.sig h.sig
 rw [decide_eq_true rfl] at q4 q5
 rw [beq_self_eq_true] at q0 q1 q2 q3
 have hf : Tryz.prog.underlying 28 = some (.struct (Tryz.prog.fieldsOf 28)) := by kernel_rfl
 have e := hf.symm.trans hu
 injection e with e
 injection e with e
 rw [run_equalIn_struct w (d + 2) _ _ _ hf hs, e]
 refine eqFields_true _ _ _ _ _ ?_
 intro f hm
 simp only [List.mem_cons, List.not_mem_nil, or_false] at hm
 rcases hm with rfl | rfl | rfl | rfl | rfl | rfl
 ·exact ⟨by decide, _, _, p0, p0, q0⟩
 ·exact ⟨by decide, _, _, p1, p1, q1⟩
 ·exact ⟨by decide, _, _, p2, p2, q2⟩
 ·exact ⟨by decide, _, _, p3, p3, q3⟩
 ·exact ⟨by decide, _, _, p4, p4, q4⟩
 exact ⟨by decide, _, _, p5, p5, q5⟩
theorem eq_pk (w : World) (p : PkS) (h : p.Ok) : (Op.equalIn 10000 28 (.agg (pkC p)) (.agg (pkC p))).run Tryz.prog w = .ok true w := eq_pk_d 9997 w p h
theorem eq_rp_d (d : Nat) (w : World) (p : PkS) (h : p.Ok) : (Op.equalIn (d + 3) 38 (.agg (rpC p)) (.agg (rpC p))).run Tryz.prog w = .ok true w := by
 have hu := Tryz.underlying38
 have hs : Tryz.prog.stoodInHeld 38 = false := by kernel_rfl
 obtain ⟨_, x1⟩ := pk_ext1 h
 obtain ⟨_, x2⟩ := pk_ext2 h
 have p0 := run_part_int (P := Tryz.prog) w 23 .u32 Tryz.underlying23 (rpC p) 0 (.int .u32 p.hw) rfl
 have p1 := run_part_int (P := Tryz.prog) w 23 .u32 Tryz.underlying23 (rpC p) 1 (.int .u32 p.ver) rfl
 have p2 := run_part_int (P := Tryz.prog) w 23 .u32 Tryz.underlying23 (rpC p) 2 (.int .u32 p.sz) rfl
 have p3 := run_part_int (P := Tryz.prog) w 5 .u8 Tryz.underlying5 (rpC p) 3 (vb p.ty) rfl
 have p4 := run_part_arr (P := Tryz.prog) w 22 32 5 Tryz.underlying22 (by kernel_rfl) (rpC p) 4
 have p5 := run_part_arr (P := Tryz.prog) w 25 64 5 Tryz.underlying25 (by kernel_rfl) (rpC p) 36
 rw [x1] at p4
 rw [x2] at p5
 have q0 := run_eq_int (P := Tryz.prog) w (d + 1) 23 .u32 Tryz.underlying23 p.hw p.hw
 have q1 := run_eq_int (P := Tryz.prog) w (d + 1) 23 .u32 Tryz.underlying23 p.ver p.ver
 have q2 := run_eq_int (P := Tryz.prog) w (d + 1) 23 .u32 Tryz.underlying23 p.sz p.sz
 have q3 := run_eq_int (P := Tryz.prog) w (d + 1) 5 .u8 Tryz.underlying5 p.ty.toNat p.ty.toNat
 have q4 := run_eq_bytes (P := Tryz.prog) w d 22 5 32 Tryz.underlying22 Tryz.underlying5 (by kernel_rfl) p.hash p.hash h.hash h.hash
 have q5 := run_eq_bytes (P := Tryz.prog) w d 25 5 64 Tryz.underlying25 Tryz.underlying5 (by kernel_rfl) p.sig p.sig h.sig h.sig
 rw [decide_eq_true rfl] at q4 q5
 rw [beq_self_eq_true] at q0 q1 q2 q3
 have hf : Tryz.prog.underlying 38 = some (.struct (Tryz.prog.fieldsOf 38)) := by kernel_rfl
 have e := hf.symm.trans hu
 injection e with e
 injection e with e
 rw [run_equalIn_struct w (d + 2) _ _ _ hf hs, e]
 refine eqFields_true _ _ _ _ _ ?_
 intro f hm
 simp only [List.mem_cons, List.not_mem_nil, or_false] at hm
 rcases hm with rfl | rfl | rfl | rfl | rfl | rfl
 ·exact ⟨by decide, _, _, p0, p0, q0⟩
 ·exact ⟨by decide, _, _, p1, p1, q1⟩
 ·exact ⟨by decide, _, _, p2, p2, q2⟩
 ·exact ⟨by decide, _, _, p3, p3, q3⟩
 ·exact ⟨by decide, _, _, p4, p4, q4⟩
 exact ⟨by decide, _, _, p5, p5, q5⟩
theorem eq_rp (w : World) (p : PkS) (h : p.Ok) : (Op.equalIn 10000 38 (.agg (rpC p)) (.agg (rpC p))).run Tryz.prog w = .ok true w := eq_rp_d 9997 w p h
section
variable {H : Type} {enc : TypeId × Value → H} {w : World} {base : Nat} {spare : Nat → Bool} {held : Bool}
theorem trod_n32 {P : Program} {t : TypeId} {fuel : Nat} {cs : List Value} {x : DataW H × List MemPlace} (ht : P.underlying t = some (.int .u32)) (h : DataW.trod enc P w base spare held fuel t cs = some x) : ∃ c : Nat, c < 4294967296 ∧ cs = [n32v c] := by
 obtain ⟨n, rfl, _, hw⟩ := DataW.trod_int ht h
 obtain ⟨h0, h1⟩ := wf_u32 hw
 obtain ⟨m, rfl⟩ := Int.eq_ofNat_of_zero_le h0
 exact ⟨m, by omega, rfl⟩
theorem trod_n8 {P : Program} {t : TypeId} {fuel : Nat} {cs : List Value} {x : DataW H × List MemPlace} (ht : P.underlying t = some (.int .u8)) (h : DataW.trod enc P w base spare held fuel t cs = some x) : ∃ c : UInt8, cs = [vb c] := by
 obtain ⟨n, rfl, _, hw⟩ := DataW.trod_int ht h
 obtain ⟨h0, h1⟩ := wf_u8 hw
 refine ⟨UInt8.ofNat n.toNat, ?_⟩
 have : (UInt8.ofNat n.toNat).toNat = n.toNat := by simp; omega
 simp only [vb, this]
 rw [Int.toNat_of_nonneg h0]
theorem all_vb : ∀ (cs : List Value), (∀ i, i < cs.length → ∃ c : UInt8, cs[i]? = some (vb c)) → ∃ l : List UInt8, cs = vbs l
 | [], _ => ⟨[], rfl⟩
 | v :: cs, h => by
  obtain ⟨c, hc⟩ := h 0 (by simp)
  obtain ⟨l, rfl⟩ := all_vb cs (fun i hi => by have := h (i + 1) (by simp; omega); simpa using this)
  simp at hc
  exact ⟨c :: l, by rw [hc]; rfl⟩
theorem trod_arr8 {P : Program} {t e : TypeId} {n fuel : Nat} {cs : List Value} {x : DataW H × List MemPlace} (ht : P.underlying t = some (.array n e)) (he : P.underlying e = some (.int .u8)) (hc : P.cellsOf e = 1) (hn : P.cellsOf t = n)
  (h : DataW.trod enc P w base spare held fuel t cs = some x) : ∃ l : List UInt8, l.length = n ∧ cs = vbs l := by
 obtain ⟨xs, m, _, _, hl, hxl, hf⟩ := DataW.trod_array ht h
 rw [hn] at hl
 obtain ⟨l, rfl⟩ := all_vb cs (fun i hi => by
  have h1 := hf i (by omega)
  rw [hc, Nat.mul_one] at h1
  rw [List.getElem?_eq_getElem (by omega)] at h1
  obtain ⟨c, e⟩ := trod_n8 he h1
  have h2 := congrArg (fun l => l[0]?) e
  simp only [List.getElem?_take, List.getElem?_drop, Nat.add_zero, Nat.zero_lt_one, if_true] at h2
  exact ⟨c, by simpa using h2⟩)
 exact ⟨l, by simpa using hl, rfl⟩
theorem cutL (l : List Value) (a k : Nat) : l.drop a = (l.drop a).take k ++ l.drop (a + k) := by
 rw [← List.drop_drop]
 exact (List.take_append_drop _ _).symm
theorem open_pk {v : Value} {d : DataW H} {p : List MemPlace} {r : _} {base' : Nat} (hv : Value.okWide Tryz.prog w r base' 28 v) (h : DataW.Trod enc Tryz.prog w base spare held 28 v d p) : ∃ s : PkS, v = .agg (pkC s) ∧ s.Ok := by
 have hu := Tryz.underlying28
 have h32 := Tryz.underlying23
 have h8 := Tryz.underlying5
 have hd := Tryz.underlying24
 have hs := Tryz.underlying26
 have c32 : Tryz.prog.cellsOf 23 = 1 := by kernel_rfl
 have c8 : Tryz.prog.cellsOf 5 = 1 := by kernel_rfl
 have cd : Tryz.prog.cellsOf 24 = 32 := by kernel_rfl
 have cs' : Tryz.prog.cellsOf 26 = 64 := by kernel_rfl
 have c100 : Tryz.prog.cellsOf 28 = 100 := by kernel_rfl
 obtain ⟨cs, rfl, hsz⟩ := okWide_struct hu hv
 obtain ⟨fuel, hf⟩ := h
 obtain ⟨xs, n, rfl, _, hl, hxl, hfs⟩ := DataW.trod_struct hu hf
 rw [c100] at hsz
 match xs, hxl with
 | [x0, x1, x2, x3, x4, x5], _ =>
  have g0 := hfs 0 _ rfl
  have g1 := hfs 1 _ rfl
  have g2 := hfs 2 _ rfl
  have g3 := hfs 3 _ rfl
  have g4 := hfs 4 _ rfl
  have g5 := hfs 5 _ rfl
  simp only [Value.cells] at g0 g1 g2 g3 g4 g5
  obtain ⟨n0, b0, e0⟩ := trod_n32 h32 g0
  obtain ⟨n1, e1⟩ := trod_n8 h8 g1
  obtain ⟨n2, b2, e2⟩ := trod_n32 h32 g2
  obtain ⟨n3, b3, e3⟩ := trod_n32 h32 g3
  obtain ⟨l4, q4, e4⟩ := trod_arr8 hd h8 c8 cd g4
  obtain ⟨l5, q5, e5⟩ := trod_arr8 hs h8 c8 cs' g5
  refine ⟨⟨n0, n1, n2, n3, l4, l5⟩, ?_, ⟨b0, b2, b3, q4, q5⟩⟩
  change List.take (Tryz.prog.cellsOf 23) _ = _ at e0
  rw [c32] at e0
  change List.take (Tryz.prog.cellsOf 5) _ = _ at e1
  rw [c8] at e1
  change List.take (Tryz.prog.cellsOf 23) _ = _ at e2
  rw [c32] at e2
  change List.take (Tryz.prog.cellsOf 23) _ = _ at e3
  rw [c32] at e3
  change List.take (Tryz.prog.cellsOf 24) _ = _ at e4
  rw [cd] at e4
  change List.take (Tryz.prog.cellsOf 26) _ = _ at e5
  rw [cs'] at e5
  clear g0 g1 g2 g3 g4 g5 hfs hf hl hv
  obtain ⟨L⟩ := cs
  have hL : L.length = 100 := by simpa using hsz
  have e0 : List.take 1 (List.drop 0 L) = [n32v n0] := e0
  have e1 : List.take 1 (List.drop (0 + 1) L) = [vb n1] := e1
  have e2 : List.take 1 (List.drop (1 + 1) L) = [n32v n2] := e2
  have e3 : List.take 1 (List.drop (2 + 1) L) = [n32v n3] := e3
  have e4 : List.take 32 (List.drop (3 + 1) L) = vbs l4 := e4
  have e5 : List.take 64 (List.drop (4 + 32) L) = vbs l5 := e5
  have d100 : L.drop (36 + 64) = [] := List.drop_eq_nil_of_le (by omega)
  have d36 : L.drop (4 + 32) = vbs l5 ++ [] := by rw [cutL L (4 + 32) 64, e5, d100]
  have d4 : L.drop (3 + 1) = vbs l4 ++ (vbs l5 ++ []) := by rw [cutL L (3 + 1) 32, e4, d36]
  have d3 : L.drop (2 + 1) = [n32v n3] ++ (vbs l4 ++ (vbs l5 ++ [])) := by rw [cutL L (2 + 1) 1, e3, d4]
  have d2 : L.drop (1 + 1) = [n32v n2] ++ ([n32v n3] ++ (vbs l4 ++ (vbs l5 ++ []))) := by rw [cutL L (1 + 1) 1, e2, d3]
  have d1 : L.drop (0 + 1) = [vb n1] ++ ([n32v n2] ++ ([n32v n3] ++ (vbs l4 ++ (vbs l5 ++ [])))) := by rw [cutL L (0 + 1) 1, e1, d2]
  have d0 : L.drop 0 = [n32v n0] ++ ([vb n1] ++ ([n32v n2] ++ ([n32v n3] ++ (vbs l4 ++ (vbs l5 ++ []))))) := by rw [cutL L 0 1, e0, d1]
  congr 1
  apply Array.toList_inj.1
  show L = _
  rw [List.drop_zero] at d0
  rw [d0, List.append_nil]
  rfl
end
theorem wpList_load_row_g12 {P : Program} {ops : Array Oper} {rest : List Oper} {o : Oper} {a : Act} {w : World} {Q : Exit → Act → World → Prop} (hw : Region.wanted o (yielded ops a.tmps) = true) (ty : TypeId) (x : Operand) (ho : o.op = .load ty x)
  (g : Nat) (hx : a.eval x = .pointer (some ⟨g, 0, .none⟩)) (t : TypeId) (cs : Array Value) (fr : Nat × Nat) (d : TypeDesc) (hg : w.heap[g]? = some (.cells cs t fr))
  (hu : P.underlying ty = some d) (hd : (match d with | .struct _ | .array _ _ => true | _ => false) = true) (hi : (P.info? ty).map (·.size) = some cs.size)
  (h : wpList P ops Q rest (a.put o.dst (.agg cs)) w) : wpList P ops Q (o :: rest) a w :=
 wpList_step fun K hK => by rw [if_pos hw]; exact wp_load_row ty x ho g hx t cs fr d hg hu hd hi (hK _ _ h)
theorem wpList_eql_g {P : Program} {ops : Array Oper} {rest : List Oper} {o : Oper} {a : Act} {w : World} {Q : Exit → Act → World → Prop} (hw : Region.wanted o (yielded ops a.tmps) = true) (t rt : TypeId) (x y : Operand) (ho : o.op = .binOp .eql t x y rt)
  (xs : Array Value) (hx : a.eval x = .agg xs) (hy : a.eval y = .agg xs) (hm : P.eqGuardType P.depth t = false) (he : (Op.equalIn 10000 t (.agg xs) (.agg xs)).run P w = .ok true w)
  (h : wpList P ops Q rest (a.put o.dst (.bool true)) w) : wpList P ops Q (o :: rest) a w :=
 wpList_step fun K hK => by
  rw [if_pos hw]
  have hr : (execOp a.eval o).run P w = .ok (.value (.bool true)) w := by
   unfold execOp
   rw [ho]
   simp only [hx, hy, Sem.run_bind, run_eqGuard_agg w _ _ _ _ _ _ hm, run_eql_struct, he, Result.andThen_ok]
   rfl
  unfold Oper.wp
  simp only [hr]
  exact hK _ _ h
def p0 : PkS := { zP with hw := 7, sz := 9 }
theorem p0_ok : p0.Ok := ⟨by decide, by decide, by decide, rfl, rfl⟩
theorem build_p0 (w : World) : (Instr.build 28 #[(0, .int .u32 7), (3, .int .u32 9)]).run Tryz.prog w = .ok (.agg (pkC p0)) w := by kernel_rfl
theorem wpList_build_p0 {ops : Array Oper} {rest : List Oper} {o : Oper} {a : Act} {w : World} {Q : Exit → Act → World → Prop} (hgd : o.guard = Option.none) (x0 x1 : Operand) (ho : o.op = .build 28 #[(0, x0), (3, x1)])
  (h0 : a.eval x0 = .int .u32 7) (h1 : a.eval x1 = .int .u32 9) (hk : wpList Tryz.prog ops Q rest (a.put o.dst (.agg (pkC p0))) w) : wpList Tryz.prog ops Q (o :: rest) a w := by
 have hr : (execOp a.eval o).run Tryz.prog w = .ok (.value (.agg (pkC p0))) w := by
  unfold execOp
  rw [ho]
  simp only [List.map_toArray, List.map_cons, List.map_nil, h0, h1]
  rw [Sem.run_bind, build_p0]
  rfl
 exact wpList_plain hgd fun _ hK => by
  unfold Oper.wp
  simp only [hr]
  exact hK _ _ hk
theorem lives12_any (w : World) (hLens : Lens w) : Calls Tryz.prog 4 #[] w fun e w' => e = .returned (.bool true) ∧ Below w.heap.size w w' := by
 have hup := Tryz.underlying28
 have Hgd : Hid (Tryz.prog.eqGuardType Tryz.prog.depth 28 = false) := hide (by kernel_rfl)
 have hz := pk_hz
 have Hsz : Hid ((Tryz.prog.info? 28).map (·.size) = some (pkC p0).size) := hide (by rw [pkC_size p0_ok]; kernel_rfl)
 have Hzz : Hid ((pkC zP).size = (pkC p0).size) := hide (by rw [pkC_size p0_ok]; rfl)
 have Hone := hide (pkC_one p0)
 have HE := hide (fun X => pencode_any p0 p0_ok X)
 have HS := hide (fun X => psigned_any p0 p0_ok X)
 have HP : Hid (∀ v X, IsBytes X v (pkB p0) → Lens X → Calls Tryz.prog 12 #[v] X (fun e w' => e = .returned (.tuple #[.agg (pkC p0), .int .i64 (0 : Nat)]) ∧ Below X.heap.size X w')) := hide fun v X h1 h2 => by
  have := pkparse_any v (pkB p0) X h1 (by rw [pkB_len p0_ok]; decide) h2
  rw [pparse_pkB p0_ok] at this
  exact this
 have HQ := hide (fun X => eq_pk X p0 p0_ok)
 have Hl1 := hide (pkB_len p0_ok)
 have Hl2 := hide (signedB_len p0_ok)
 have hr := heap_alloc_new w (.cells (pkC zP) 28)
 have h1 := ((on_all w).alloc (.cells (pkC zP) 28)).setRow (pkC p0)
 have hs1 := ((Str.refl w).alloc (.cells (pkC zP) 28)).setRow w.heap.size (pkC p0)
 have HL := hide hLens
 clear hLens
 generalize hZ : pkC zP = Z at *
 generalize hC : pkC p0 = C at *
 have HC := hide hC
 clear hZ hC
 generalize pkB p0 = g at *
 generalize signedB p0 = g2 at *
 have H1 := hide h1
 have HS1 := hide hs1
 have hg1 := on_blk_mul h1
 clear h1 hs1
 have hE := HE.out ((w.alloc (.cells Z 28)).setRow w.heap.size C)
 go_enter Tryz.func4, Tryz.ntmps4
 go_wp2_with (first
  | (refine wpList_build_p0 rfl _ _ rfl rfl rfl ?_; rw [HC.out])
  | (refine wS hr Hsz Hzz Hone ?_)
  | (refine wL hg1 hup Hsz ?_))
 generalize (w.alloc (.cells Z 28)).setRow w.heap.size C = w1 at *
 refine hE.mono ?_
 clear hE hg1 hr
 rintro e w2 ⟨v, rfl, ho, hs⟩
 have H2 := hide (on_all_to ho H1.out)
 have HS2 := hide (HS1.out.trans hs)
 have hP := HP.out v w2 (own_bytes ho) (HL.out.below (all_below H2.out.right.right HS2.out))
 obtain ⟨a2, c2, rfl, _, _, _, _⟩ := own_value ho
 clear ho hs
 have lg : (((g.length : Nat) : Int) == 121) = true := by rw [Hl1.out]; rfl
 go_wp2_with fail
 refine hP.mono ?_
 clear hP
 rintro e w3 ⟨rfl, hb⟩
 have h3 := H2.out.below hb
 have HS3 := hide (HS2.out.trans (Str.below hb))
 have hr3 := heap_alloc_new w3 (.cells Z 28)
 have h4 := (h3.alloc (.cells Z 28)).setRow C
 have hs4 := (HS3.out.alloc (.cells Z 28)).setRow w3.heap.size C
 have hgA := on_blk_mul h4
 have hgB := on_blk_mul h4.right.right
 have HB4 := hide (all_below h4.right.right.right hs4)
 have hS := HS.out ((w3.alloc (.cells Z 28)).setRow w3.heap.size C)
 have H4 := hide h4
 clear h3 h4 hs4 hb
 go_wp2_with (first
  | (refine wS hr3 Hsz Hzz Hone ?_)
  | (refine wpList_load_row_g12 rfl _ _ rfl w.heap.size rfl _ C _ _ hgB hup rfl Hsz ?_))
 refine hS.mono ?_
 clear hS
 rintro e w5 ⟨v5, rfl, ho5, hs5⟩
 have H5 := hide (on_all_to ho5 H4.out)
 have hgA5 := on_blk_mul H5.out.right
 have hgB5 := on_blk_mul H5.out.right.right.right
 have HB5 := hide (HB4.out.trans (Str.below (all_below ho5.right hs5) |> fun _ => (all_below ho5.right hs5).mono HB4.out.size))
 obtain ⟨a5, c5, rfl, _, _, _, _⟩ := own_value ho5
 have l5 : (((g2.length : Nat) : Int) == 55) = true := by rw [Hl2.out]; rfl
 have hq := HQ.out w5
 clear ho5 hs5 hgA hgB hr3
 go_wp2_with (first
  | (refine wpList_eql_g rfl _ _ _ _ rfl C rfl rfl Hgd.out hq ?_)
  | (refine wpList_load_row_g12 rfl _ _ rfl w3.heap.size rfl _ C _ _ hgA5 hup rfl Hsz ?_)
  | (refine wpList_load_row_g12 rfl _ _ rfl w.heap.size rfl _ C _ _ hgB5 hup rfl Hsz ?_))
 go_ret
 exact ⟨rfl, HB5.out⟩
end Go.Proofs.YtjdebgbiockafaaGreatDoor
