/- The document's packets: their bytes; a packet as the document has it. -/
import Derived.Test.YtdieaegajahdpaaDoorPk4
import Derived.Test.YtdieaegajahdpaaDoorWord12
namespace Go.Proofs.YtdieaegajahdpaaDoor
open Go.ChangeShapes Go.WideShapes Go.ChangeAt Go.RowKit
set_option linter.unusedVariables false
set_option linter.unusedSimpArgs false

set_option maxRecDepth 100000 in
set_option maxHeartbeats 4000000 in
theorem put12_any (v1 v2 : Value) (b l : List UInt8) (tag : UInt8) (w : World) (h1 : IsBytes w v1 b) (h2 : IsBytes w v2 l) (hb : b.length ≤ 100000) (hl : l.length < 256) :
    Calls Tryd.prog 53 #[v1, vb tag, v2] w (Makes w fun v => ownT v (b ++ tag :: UInt8.ofNat l.length :: l)) := by
  have hu := Tryd.underlying22
  have H1 := hide h1
  have H2 := hide h2
  obtain ⟨a1, c1, rfl, hc1, hm1, _, _⟩ := h1
  obtain ⟨a2, c2, rfl, hc2, hm2, _, _⟩ := h2
  unfold maxLen at hm1 hm2
  have H0 := hide (own_new 5 1 0 [] (on_all w) rfl (by decide))
  have H8 := hide (show (UInt8.ofNat l.length).toNat = l.length by simp; omega)
  have HN : Hid ((vbs [UInt8.ofNat l.length]).toArray = #[.int .u8 (l.length : Int)]) := hide (by simp [vbs, vb, H8.out])
  have HE : Hid (b ++ tag :: UInt8.ofNat l.length :: l = ((b ++ [tag]) ++ [UInt8.ofNat l.length]) ++ l) := hide (by simp)
  have htg : tag.toNat < 256 := UInt8.toNat_lt tag
  go_enter Tryd.func53, Tryd.ntmps53
  go_wp2_with (first
    | (at_builtin; refine wpList_append_bytes (F := all w) rfl _ _ 22 rfl 5 hu infoT _ b5 l rfl Ho5.out _ rfl (H2.out.below (all_below Ho5.out.right Hs5.out)) (by omega) ?_; intro v6 w6 ho6 hs6; have hl6 : (b5 ++ l).length ≤ b5.length + l.length := by simp
       generalize hq6 : b5 ++ l = b6 at ho6 hl6; have Hq6 := hide hq6; clear hq6; obtain ⟨oa6, oc6, rfl, _, _, _, _⟩ := own_value ho6; have Ho6 := hide ho6; have Hs6 := hide (Hs5.out.trans hs6); clear ho6 hs6)
    | (at_builtin; refine wpList_append_bytes (F := all w) rfl _ _ 22 rfl 5 hu infoT _ b4 [UInt8.ofNat l.length] rfl (Ho4.out.alloc' _) _ rfl (by have := IsBytes.new w4 [UInt8.ofNat l.length] (by simp [maxLen]) 5; rw [HN.out] at this; exact this) (by simp; omega) ?_; intro v5 w5 ho5 hs5
       have hl5 : (b4 ++ [UInt8.ofNat l.length]).length ≤ b4.length + 1 := by simp
       generalize hq5 : b4 ++ [UInt8.ofNat l.length] = b5 at ho5 hl5; have Hq5 := hide hq5; clear hq5
       obtain ⟨oa5, oc5, rfl, _, _, _, _⟩ := own_value ho5; have Ho5 := hide ho5; have Hs5 := hide ((Hs4.out.alloc _).trans hs5); clear ho5 hs5)
    | (at_builtin; refine wpList_append_bytes (F := all w) rfl _ _ 22 rfl 5 hu infoT _ b [tag] rfl (Ho3.out.alloc' _) _ rfl (IsBytes.new w3 [tag] (by simp [maxLen]) 5) (by simp; omega) ?_; intro v4 w4 ho4 hs4
       have hl4 : (b ++ [tag]).length ≤ b.length + 1 := by simp
       generalize hq4 : b ++ [tag] = b4 at ho4 hl4; have Hq4 := hide hq4; clear hq4
       obtain ⟨oa4, oc4, rfl, _, _, _, _⟩ := own_value ho4; have Ho4 := hide ho4; have Hs4 := hide ((Hs3.out.alloc _).trans hs4); clear ho4 hs4)
    | (at_builtin; go_loud (refine wpList_append_bytes (F := all w) rfl _ _ 22 rfl 5 hu infoT _ [] b rfl H0.out _ rfl (H1.out.below ((Below.refl _ _).alloc (Nat.le_refl _) _)) (by simp; omega) ?_); intro v3 w3 ho3 hs3; rw [List.nil_append] at ho3; obtain ⟨oa3, oc3, rfl, _, _, _, _⟩ := own_value ho3; have Ho3 := hide ho3; have Hs3 := hide (((Str.refl w).alloc _).trans hs3); clear ho3 hs3))
  go_ret
  refine ⟨_, rfl, ?_, Hs6.out⟩
  rw [HE.out, Hq4.out, Hq5.out, Hq6.out]
  exact Ho6.out

theorem put12_n (v1 v2 : Value) (b l : List UInt8) (tag : UInt8) (n : Nat) (w : World) (h1 : IsBytes w v1 b) (h2 : IsBytes w v2 l) (hb : b.length ≤ 100000) (hl : l.length = n) (hn : n < 256) :
    Calls Tryd.prog 53 #[v1, vb tag, v2] w (Makes w fun v => ownT v (b ++ tag :: UInt8.ofNat n :: l)) := by
  have h := put12_any v1 v2 b l tag w h1 h2 hb (by omega)
  rw [hl] at h
  exact h
theorem rpC_box (p : PkS) (w : World) (t : TypeId) : Below w.heap.size w (w.alloc (.cells (rpC p) t)) := (Below.refl _ _).alloc (Nat.le_refl _) _

set_option maxRecDepth 100000 in
set_option maxHeartbeats 4000000 in
theorem rsigned_any (p : PkS) (hpk : p.Ok) (w : World) : Calls Tryd.prog 29 #[.agg (rpC p)] w (Makes w fun v => ownT v (signedB p)) := by
  have hud := Tryd.underlying24
  have hHw := hide hpk.hw
  have hVer := hide hpk.ver
  have hSz := hide hpk.sz
  have hr := heap_alloc_new w (.cells (rpC p) 56)
  have HC : Hid (∀ X, Stay (w.alloc (.cells (rpC p) 56)) X → X.cell? ⟨w.heap.size, 0, Option.none⟩ = some (.int .u32 p.hw) ∧ X.cell? ⟨w.heap.size, 1, Option.none⟩ = some (.int .u32 p.ver) ∧ X.cell? ⟨w.heap.size, 2, Option.none⟩ = some (.int .u32 p.sz) ∧ X.cell? ⟨w.heap.size, 3, Option.none⟩ = some (vb p.ty)) := hide fun X hT => rp_cells p X w.heap.size _ ((hT.block _ (by simp)).trans hr)
  have HH : Hid (∀ X, Stay (w.alloc (.cells (rpC p) 56)) X → IsBytes X (.slice (some ⟨w.heap.size, 4, Option.none⟩) 32 32) p.hash) := hide fun X hT => ⟨_, _, by rw [hpk.hash], by rw [hpk.hash]; omega, by decide, rp_hash hpk X w.heap.size _ ((hT.block _ (by simp)).trans hr), fun h => (nomatch h)⟩
  have HA := hide ((on_all w).alloc (.cells (rpC p) 56)).right
  have HSt := hide ((Str.refl w).alloc (.cells (rpC p) 56))
  have hE1 := rword12_any p.hw hHw.out (w.alloc (.cells (rpC p) 56))
  have c0 := (HC.out _ (Stay.refl _)).1
  clear hr
  have Hl := hide (show p.hash.length = 32 from hpk.hash)
  go_enter Tryd.func29, Tryd.ntmps29
  go_wp2_with fail
  generalize w.alloc (.cells (rpC p) 56) = w1 at *
  refine hE1.mono ?_
  clear hE1 c0
  rintro e x1 ⟨v1, rfl, ho, hs⟩
  obtain ⟨a1, d1, rfl, _, _, _, _⟩ := own_value ho
  have HB1 := hide (all_below ho.right hs)
  have hE := put12_n (.slice Option.none 0 0) _ [] (wordB p.hw) 1 4 x1 (IsBytes.nil _) (own_bytes ho) (by simp) (wordB_len _) (by decide)
  clear ho hs
  obtain ⟨B2, hB2⟩ : ∃ B : List UInt8, B = [] ++ 1 :: UInt8.ofNat 4 :: wordB p.hw := ⟨_, rfl⟩
  rw [← hB2] at hE
  have lB2 : B2.length ≤ 200 := by rw [hB2]; simp [wordB_len]
  have HQ2 := hide hB2
  clear hB2
  go_wp2_with fail
  refine hE.mono ?_
  clear hE
  rintro e x2 ⟨v2, rfl, ho, hs⟩
  obtain ⟨a2, d2, rfl, _, _, _, _⟩ := own_value ho
  have HB2 := hide (HB1.out.trans ((all_below ho.right hs).mono HB1.out.size))
  have Ho2 := hide (own_bytes ho)
  clear ho hs
  have cT := (HC.out x2 HB2.out).2.2.2
  have HBa := hide (HB2.out.alloc HB2.out.size (.cells #[vb p.ty] 5))
  have hE := put12_n _ (.slice (some ⟨x2.heap.size, 0, Option.none⟩) 1 1) _ [p.ty] 2 1 (x2.alloc (.cells #[vb p.ty] 5)) (Ho2.out.below ((Below.refl _ _).alloc (Nat.le_refl _) _)) (IsBytes.new x2 [p.ty] (by simp [maxLen]) 5) (by omega) rfl (by decide)
  have htg : p.ty.toNat < 256 := UInt8.toNat_lt p.ty
  obtain ⟨B3, hB3⟩ : ∃ B : List UInt8, B = B2 ++ 2 :: UInt8.ofNat 1 :: [p.ty] := ⟨_, rfl⟩
  rw [← hB3] at hE
  have lB3 : B3.length ≤ 300 := by rw [hB3]; simp [wordB_len]; omega
  have HQ3 := hide hB3
  clear hB3
  go_wp2_with fail
  refine hE.mono ?_
  clear hE
  rintro e x3 ⟨v3, rfl, ho, hs⟩
  obtain ⟨a3, d3, rfl, _, _, _, _⟩ := own_value ho
  have HB3 := hide (HBa.out.trans ((all_below ho.right hs).mono HBa.out.size))
  have Ho3 := hide (own_bytes ho)
  clear ho hs
  clear cT
  have cT := (HC.out x3 HB3.out).2.1
  have hE := rword12_any p.ver hVer.out x3
  go_wp2_with fail
  refine hE.mono ?_
  clear hE cT
  rintro e y3 ⟨q3, rfl, ho, hs⟩
  obtain ⟨b3, e3, rfl, _, _, _, _⟩ := own_value ho
  have HC3 := hide (HB3.out.trans ((all_below ho.right hs).mono HB3.out.size))
  have hE := put12_n _ _ _ (wordB p.ver) 3 4 y3 (Ho3.out.below (all_below ho.right hs)) (own_bytes ho) (by omega) (wordB_len _) (by decide)
  clear ho hs
  obtain ⟨B4, hB4⟩ : ∃ B : List UInt8, B = B3 ++ 3 :: UInt8.ofNat 4 :: wordB p.ver := ⟨_, rfl⟩
  rw [← hB4] at hE
  have lB4 : B4.length ≤ 400 := by rw [hB4]; simp [wordB_len]; omega
  have HQ4 := hide hB4
  clear hB4
  go_wp2_with fail
  refine hE.mono ?_
  clear hE
  rintro e x4 ⟨v4, rfl, ho, hs⟩
  obtain ⟨a4, d4, rfl, _, _, _, _⟩ := own_value ho
  have HB4 := hide (HC3.out.trans ((all_below ho.right hs).mono HC3.out.size))
  have Ho4 := hide (own_bytes ho)
  clear ho hs
  have cT := (HC.out x4 HB4.out).2.2.1
  have hE := rword12_any p.sz hSz.out x4
  go_wp2_with fail
  refine hE.mono ?_
  clear hE cT
  rintro e y4 ⟨q4, rfl, ho, hs⟩
  obtain ⟨b4, e4, rfl, _, _, _, _⟩ := own_value ho
  have HC4 := hide (HB4.out.trans ((all_below ho.right hs).mono HB4.out.size))
  have hE := put12_n _ _ _ (wordB p.sz) 4 4 y4 (Ho4.out.below (all_below ho.right hs)) (own_bytes ho) (by omega) (wordB_len _) (by decide)
  clear ho hs
  obtain ⟨B5, hB5⟩ : ∃ B : List UInt8, B = B4 ++ 4 :: UInt8.ofNat 4 :: wordB p.sz := ⟨_, rfl⟩
  rw [← hB5] at hE
  have lB5 : B5.length ≤ 500 := by rw [hB5]; simp [wordB_len]; omega
  have HQ5 := hide hB5
  clear hB5
  go_wp2_with fail
  refine hE.mono ?_
  clear hE
  rintro e x5 ⟨v5, rfl, ho, hs⟩
  obtain ⟨a5, d5, rfl, _, _, _, _⟩ := own_value ho
  have HB5 := hide (HC4.out.trans ((all_below ho.right hs).mono HC4.out.size))
  have Ho5 := hide (own_bytes ho)
  clear ho hs
  have hE := put12_n _ _ _ p.hash 5 32 x5 Ho5.out (HH.out x5 HB5.out) (by omega) Hl.out (by decide)
  obtain ⟨B6, hB6⟩ : ∃ B : List UInt8, B = B5 ++ 5 :: UInt8.ofNat 32 :: p.hash := ⟨_, rfl⟩
  rw [← hB6] at hE
  have HQ6 := hide hB6
  clear hB6
  have h9 := arr_whole 24 32 hud w.heap.size 4 x5
  go_wp2_with fail
  refine hE.mono ?_
  clear hE h9
  rintro e x6 ⟨v6, rfl, ho, hs⟩
  obtain ⟨a6, d6, rfl, _, _, _, _⟩ := own_value ho
  have H6 := hide (on_all_to ho (SP.on.below HA.out HB5.out))
  have HS6 := hide ((HSt.out.trans (Str.below HB5.out)).trans hs)
  clear ho hs
  go_wp2_with fail
  go_ret
  rw [show signedB p = B6 by rw [HQ6.out, HQ5.out, HQ4.out, HQ3.out, HQ2.out]; rfl]
  exact ⟨_, rfl, H6.out, HS6.out⟩

set_option maxRecDepth 100000 in
set_option maxHeartbeats 4000000 in
theorem rpencode_any (p : PkS) (hpk : p.Ok) (w : World) : Calls Tryd.prog 26 #[.agg (rpC p)] w (Makes w fun v => ownT v (pkB p)) := by
  have hup := Tryd.underlying56
  have hus := Tryd.underlying40
  have HSz : Hid ((Tryd.prog.info? 56).map (·.size) = some (rpC p).size) := hide (by rw [rpC_size hpk]; kernel_rfl)
  have hr := heap_alloc_new w (.cells (rpC p) 56)
  have HG : Hid (∀ X, Stay (w.alloc (.cells (rpC p) 56)) X → X.heap[w.heap.size]? = some (.cells (rpC p) 56 (0, 0))) := hide fun X hT => (hT.block _ (by simp)).trans hr
  have HH : Hid (∀ X, Stay (w.alloc (.cells (rpC p) 56)) X → IsBytes X (.slice (some ⟨w.heap.size, 36, Option.none⟩) 64 64) p.sig) := hide fun X hT => ⟨_, _, by rw [hpk.sig], by rw [hpk.sig]; omega, by decide, rp_sig hpk X w.heap.size _ ((hT.block _ (by simp)).trans hr), fun h => (nomatch h)⟩
  have HA := hide ((on_all w).alloc (.cells (rpC p) 56)).right
  have HSt := hide ((Str.refl w).alloc (.cells (rpC p) 56))
  clear hr
  go_enter Tryd.func26, Tryd.ntmps26
  go_wp2_with fail
  refine wp_region_vs [isV (.agg (rpC p)), fun v X => IsBytes X v (signedB p), isV (.pointer (some ⟨w.heap.size, 36, Option.none⟩)), isV (.slice (some ⟨w.heap.size, 36, Option.none⟩) 64 64), fun v X => MadeP w (pkB p) v X, fun v X => MadeP w (pkB p) v X]
    (by kernel_rfl) (by kernel_rfl) rfl ?keep ?todo ?rest
  case keep => exact ⟨Keep.isV _, fun _ _ _ h k => IsBytes.below h k, Keep.isV _, Keep.isV _, fun _ _ _ h k => MadeP.below h k, fun _ _ _ h k => MadeP.below h k, trivial⟩
  case todo =>
    refine ⟨?_, ?_, ?_, ?_, ?_, ?_, trivial⟩
    · intro ev X hT hb hk hf
      have e0 : ev (.tmp 1) = .pointer (some ⟨w.heap.size, 0, Option.none⟩) := hk.1
      exact OpOk.load_part _ _ rfl w.heap.size 0 e0 (rpC p) _ (part_at (HG.out X hT)) hup rfl HSz.out ⟨rfl, Stay.refl _⟩
    · intro ev X hT hb hk hf
      have e0 : ev (.tmp 3) = .agg (rpC p) := hf.1
      refine OpOk.enters (f := 29) (args := #[.agg (rpC p)]) (W' := X) (by simp [execOp, resolve, invoke, e0, hb.1, hb.2.1, go_sem]) ((rsigned_any p hpk X).mono ?_)
      rintro e X2 ⟨v5, rfl, h5, h6⟩
      exact ⟨_, rfl, own_bytes h5, all_below h5.right h6⟩
    · intro ev X hT hb hk hf
      have e0 : ev (.tmp 1) = .pointer (some ⟨w.heap.size, 0, Option.none⟩) := hk.1
      exact OpOk.run (v := .pointer (some ⟨w.heap.size, 36, Option.none⟩)) (W' := X) (by simp [execOp, e0, hb.1, go_sem]) ⟨rfl, Stay.refl _⟩
    · intro ev X hT hb hk hf
      have e0 : ev (.tmp 5) = .pointer (some ⟨w.heap.size, 36, Option.none⟩) := hf.1
      exact OpOk.run (v := .slice (some ⟨w.heap.size, 36, Option.none⟩) 64 64) (W' := X) (by have h9 := arr_whole 40 64 hus w.heap.size 36 X; simp [execOp, e0, hb.1, h9, go_sem]) ⟨rfl, Stay.refl _⟩
    · intro ev X hT hb hk hf
      have e0 : IsBytes X (ev (.tmp 4)) (signedB p) := hf.1
      have e1 : ev (.tmp 6) = .slice (some ⟨w.heap.size, 36, Option.none⟩) 64 64 := hf.2.1
      refine OpOk.enters (f := 53) (args := #[ev (.tmp 4), vb 6, .slice (some ⟨w.heap.size, 36, Option.none⟩) 64 64]) (W' := X) (by simp [execOp, resolve, invoke, e1, hb.1, hb.2.1, go_sem]) ((put12_n _ _ _ p.sig 6 64 X e0 (HH.out X hT) (by rw [signedB_len hpk]; decide) hpk.sig (by decide)).mono ?_)
      rintro e X2 ⟨v5, rfl, h5, h6⟩
      exact ⟨_, rfl, ⟨on_all_to h5 (SP.on.below HA.out hT), (HSt.out.trans (Str.below hT)).trans h6⟩, all_below h5.right h6⟩
    · intro ev X hT hb hk hf
      have e0 : MadeP w (pkB p) (ev (.tmp 7)) X := hf.1
      exact OpOk.assign rfl rfl ⟨e0, Stay.refl _⟩
  case rest =>
    intro X hT
    rintro _ rfl _ - _ rfl _ rfl v7 h7 v8 h8
    have h9 : MadeP w (pkB p) v8 X := h8
    have H9 := hide h9
    obtain ⟨va, vc, rfl, _, _, _, _⟩ := own_value h9.1
    clear hT h7 h8 h9
    go_wp2
    refine Rest.done ?_
    go_wp2_with fail
    go_ret
    exact ⟨_, rfl, H9.out.1, H9.out.2⟩

/-- what a struct that is built holds: the cells of a part in the place of the former ones -/
theorem foldl_set (off : Nat) : ∀ (l : List Value) (k : Nat) (cs : Array Value), off + k + l.length ≤ cs.size →
    ((l.zipIdx k).foldl (fun cs (x : Value × Nat) => cs.setIfInBounds (off + x.2) x.1) cs).toList = cs.toList.take (off + k) ++ l ++ cs.toList.drop (off + k + l.length)
  | [], k, cs, h => by simp
  | v :: l, k, cs, h => by
    simp only [List.length_cons] at h
    simp only [List.zipIdx_cons, List.foldl_cons]
    rw [foldl_set off l (k + 1) _ (by simp; omega)]
    have hk : off + k < cs.toList.length := by simp; omega
    rw [Array.toList_setIfInBounds, show off + (k + 1) = off + k + 1 by omega, List.take_succ_eq_append_getElem (by simpa using hk)]
    rw [List.take_set_of_le (by omega), List.getElem_set_self, List.drop_set_of_lt (by omega)]
    simp [Nat.add_assoc, Nat.add_comm, Nat.add_left_comm]
theorem fill_cons (place : Nat → Option (Nat × Nat)) (cells : Array Value) (i : Nat) (v : Value) (rest : List (Nat × Value)) (off size : Nat) (l : List Value) (hp : place i = some (off, size)) (hv : v.cells = l.toArray) (hs : l.length = size) (hb : off + size ≤ cells.size) (cs' : Array Value)
    (hc : cells.toList.take off ++ l ++ cells.toList.drop (off + size) = cs'.toList) : Instr.fill place cells ((i, v) :: rest) = Instr.fill place cs' rest := by
  have e : v.cells.zipIdx.foldl (fun cs (x : Value × Nat) => cs.setIfInBounds (off + x.2) x.1) cells = cs' := by
    apply Array.toList_inj.1
    rw [← hc, hv, ← Array.foldl_toList, Array.toList_zipIdx]
    have := foldl_set off l 0 cells (by omega)
    simp only [Nat.add_zero, hs] at this
    exact this
  have h1 : ¬(v.cells.size ≠ size ∨ off + v.cells.size > cells.size) := by rw [hv]; simp; omega
  simp only [Instr.fill, hp]
  split
  · rename_i h2
    simp only [Bool.or_eq_true, decide_eq_true_eq] at h2
    exact absurd (by simpa using h2) h1
  · exact congrArg (Instr.fill place · rest) e

theorem build_step {P : Program} {w : World} (m : Sem (Array (Nat × Nat))) (pl : Array (Nat × Nat)) (zero : Array Value) (parts : List (Nat × Value)) (cs : Array Value) (err : Sem Value) (hm : m.run P w = .ok pl w) (hf : Instr.fill (pl[·]?) zero parts = some cs) :
    (do
      let places ← m
      let some cells := Instr.fill (places[·]?) zero parts | err
      Pure.pure (Value.agg cells) : Sem Value).run P w = .ok (.agg cs) w := by
  rw [Sem.run_bind, hm, Result.andThen_ok, hf]
  rfl
theorem rp_hz (w : World) : (zeroValue 56).run Tryd.prog w = .ok (.agg (rpC zP)) w := by kernel_rfl
theorem rpC_sz (a b c : Nat) (t : UInt8) (h s : List UInt8) (e1 : h.length = 32) (e2 : s.length = 64) : (rpC ⟨a, t, b, c, h, s⟩).size = 100 := by simp [rpC, rpL, e1, e2]
theorem rp_fill (p : PkS) (h : p.Ok) : Instr.fill (#[(0, 1), (1, 1), (2, 1), (3, 1), (4, 32), (36, 64)][·]?) (rpC zP) [(0, .int .u32 p.hw), (1, .int .u32 p.ver), (2, .int .u32 p.sz), (3, vb p.ty), (4, .agg (vbs p.hash).toArray), (5, .agg (vbs p.sig).toArray)] = some (rpC p) := by
  have e1 : (vbs p.hash).length = 32 := by simp [h.hash]
  have e2 : (vbs p.sig).length = 64 := by simp [h.sig]
  rw [fill_cons _ _ _ _ _ 0 1 [.int .u32 p.hw] rfl rfl rfl (by rw [show (rpC zP).size = 100 from rpC_sz _ _ _ _ _ _ rfl rfl]; decide) (rpC ⟨p.hw, 0, 0, 0, List.replicate 32 0, List.replicate 64 0⟩) rfl]
  rw [fill_cons _ _ _ _ _ 1 1 [.int .u32 p.ver] rfl rfl rfl (by rw [show (rpC ⟨p.hw, 0, 0, 0, List.replicate 32 0, List.replicate 64 0⟩).size = 100 from rpC_sz _ _ _ _ _ _ rfl rfl]; decide) (rpC ⟨p.hw, 0, p.ver, 0, List.replicate 32 0, List.replicate 64 0⟩) rfl]
  rw [fill_cons _ _ _ _ _ 2 1 [.int .u32 p.sz] rfl rfl rfl (by rw [show (rpC ⟨p.hw, 0, p.ver, 0, List.replicate 32 0, List.replicate 64 0⟩).size = 100 from rpC_sz _ _ _ _ _ _ rfl rfl]; decide) (rpC ⟨p.hw, 0, p.ver, p.sz, List.replicate 32 0, List.replicate 64 0⟩) rfl]
  rw [fill_cons _ _ _ _ _ 3 1 [vb p.ty] rfl rfl rfl (by rw [show (rpC ⟨p.hw, 0, p.ver, p.sz, List.replicate 32 0, List.replicate 64 0⟩).size = 100 from rpC_sz _ _ _ _ _ _ rfl rfl]; decide) (rpC ⟨p.hw, p.ty, p.ver, p.sz, List.replicate 32 0, List.replicate 64 0⟩) rfl]
  rw [fill_cons _ _ _ _ _ 4 32 (vbs p.hash) rfl rfl e1 (by rw [show (rpC ⟨p.hw, p.ty, p.ver, p.sz, List.replicate 32 0, List.replicate 64 0⟩).size = 100 from rpC_sz _ _ _ _ _ _ rfl rfl]; decide) (rpC ⟨p.hw, p.ty, p.ver, p.sz, p.hash, List.replicate 64 0⟩) rfl]
  rw [fill_cons _ _ _ _ _ 36 64 (vbs p.sig) rfl rfl e2 (by rw [show (rpC ⟨p.hw, p.ty, p.ver, p.sz, p.hash, List.replicate 64 0⟩).size = 100 from rpC_sz _ _ _ _ _ _ h.hash rfl]; decide) (rpC p) (by
    show ([Value.int .u32 p.hw, .int .u32 p.ver, .int .u32 p.sz, vb p.ty] ++ (vbs p.hash ++ vbs (List.replicate 64 0))).take 36 ++ vbs p.sig ++ ([Value.int .u32 p.hw, .int .u32 p.ver, .int .u32 p.sz, vb p.ty] ++ (vbs p.hash ++ vbs (List.replicate 64 0))).drop (36 + 64) = [Value.int .u32 p.hw, .int .u32 p.ver, .int .u32 p.sz, vb p.ty] ++ (vbs p.hash ++ vbs p.sig)
    rw [← List.append_assoc [_, _, _, _] (vbs p.hash) (vbs (List.replicate 64 0)), List.take_left' (by simp [h.hash]), List.drop_eq_nil_of_le (by simp [h.hash]), List.append_nil]
    exact List.append_assoc _ _ _)]
  rfl
theorem wpList_build_rp {ops : Array Oper} {rest : List Oper} {o : Oper} {a : Act} {w : World} {Q : Exit → Act → World → Prop} (hgd : o.guard = Option.none) (x0 x1 x2 x3 x4 x5 : Operand) (ho : o.op = .build 56 #[(0, x0), (1, x1), (2, x2), (3, x3), (4, x4), (5, x5)]) (p : PkS) (h : p.Ok)
    (h0 : a.eval x0 = .int .u32 p.hw) (h1 : a.eval x1 = .int .u32 p.ver) (h2 : a.eval x2 = .int .u32 p.sz) (h3 : a.eval x3 = vb p.ty) (h4 : a.eval x4 = .agg (vbs p.hash).toArray) (h5 : a.eval x5 = .agg (vbs p.sig).toArray)
    (hk : wpList Tryd.prog ops Q rest (a.put o.dst (.agg (rpC p))) w) : wpList Tryd.prog ops Q (o :: rest) a w := by
  have hr : (execOp a.eval o).run Tryd.prog w = .ok (.value (.agg (rpC p))) w := by
    have hb : (Instr.build 56 #[(0, .int .u32 p.hw), (1, .int .u32 p.ver), (2, .int .u32 p.sz), (3, vb p.ty), (4, .agg (vbs p.hash).toArray), (5, .agg (vbs p.sig).toArray)]).run Tryd.prog w = .ok (.agg (rpC p)) w := by
      unfold Instr.build
      rw [Sem.run_bind, rp_hz, Result.andThen_ok, Sem.run_bind, run_underlying Tryd.underlying56 w, Result.andThen_ok]
      exact build_step _ _ _ _ _ _ (by kernel_rfl) (rp_fill p h)
    unfold execOp
    rw [ho]
    simp only [List.map_toArray, List.map_cons, List.map_nil, h0, h1, h2, h3, h4, h5]
    rw [Sem.run_bind, hb]
    rfl
  exact wpList_plain hgd fun _ hK => by
    unfold Oper.wp
    simp only [hr]
    exact hK _ _ hk

set_option maxRecDepth 100000 in
set_option maxHeartbeats 4000000 in
theorem of12_any (p : PkS) (hpk : p.Ok) (w : World) :
    Calls Tryd.prog 27 #[.agg (pkC p)] w fun e w' => e = .returned (.agg (rpC p)) ∧ Below w.heap.size w w' := by
  have hur := Tryd.underlying56
  have hud := Tryd.underlying25
  have hus := Tryd.underlying47
  have hsr : (Tryd.prog.info? 56).map (·.size) = some (rpC p).size := by rw [rpC_size hpk]; kernel_rfl
  have hsd : (Tryd.prog.info? 25).map (·.size) = some (vbs p.hash).toArray.size := by rw [show (vbs p.hash).toArray.size = 32 by simp [hpk.hash]]; kernel_rfl
  have hss : (Tryd.prog.info? 47).map (·.size) = some (vbs p.sig).toArray.size := by rw [show (vbs p.sig).toArray.size = 64 by simp [hpk.sig]]; kernel_rfl
  have hg := heap_alloc2_old w (.cells (pkC p) 49) (.cells (rpC zP) 56)
  have hr := heap_alloc2_new w (.cells (pkC p) 49) (.cells (rpC zP) 56)
  have hB : Below w.heap.size w ((w.alloc (.cells (pkC p) 49)).alloc (.cells (rpC zP) 56)) := ((Below.refl _ _).alloc (Nat.le_refl _) _).alloc (by simp) _
  obtain ⟨c0, c1, c2, c3⟩ := pk_cells p _ _ _ hg
  have hla := pk_hash hpk _ _ _ hg
  have hlb := pk_sig hpk _ _ _ hg
  have hz := rp_hz
  have hzz : (rpC zP).size = (rpC p).size := by rw [rpC_size hpk]; rfl
  have hone := rpC_one p
  have HB := hide hB
  have HK := hide hpk
  have Hr := hide hr
  have Hla : Hid (∀ j v, (vbs p.hash).toArray[j]? = some v → ((w.alloc (.cells (pkC p) 49)).alloc (.cells (rpC zP) 56)).cell? ⟨w.heap.size, 4 + j, Option.none⟩ = some v) := hide fun j v h => Lay.cell hla j (by simpa using h)
  have Hlb : Hid (∀ j v, (vbs p.sig).toArray[j]? = some v → ((w.alloc (.cells (pkC p) 49)).alloc (.cells (rpC zP) 56)).cell? ⟨w.heap.size, 36 + j, Option.none⟩ = some v) := hide fun j v h => Lay.cell hlb j (by simpa using h)
  have Hsr := hide hsr
  have Hsd := hide hsd
  have Hss := hide hss
  have Hzz := hide hzz
  have Hone := hide hone
  clear hB hpk hr hla hlb hsr hsd hss hzz hone hg
  have hsz0 : (Tryd.prog.info? 56).map (·.size) = some 100 := by kernel_rfl
  clear hsz0
  go_enter Tryd.func27, Tryd.ntmps27
  generalize hZ : rpC zP = Z at *
  generalize hP : pkC p = CP at *
  go_wp2_with (first
    | (refine wpList_load_part rfl _ _ rfl w.heap.size 4 rfl (vbs p.hash).toArray _ Hla.out hud rfl Hsd.out ?_)
    | (refine wpList_load_part rfl _ _ rfl w.heap.size 36 rfl (vbs p.sig).toArray _ Hlb.out hus rfl Hss.out ?_)
    | (refine wpList_build_rp rfl _ _ _ _ _ _ rfl p HK.out rfl rfl rfl rfl rfl rfl ?_)
    | (refine wpList_store_row rfl _ _ _ rfl (w.heap.size + 1) (rpC p) rfl rfl _ _ Hr.out Hsr.out Hzz.out Hone.out ?_))
  refine bodyPost_ret (v := .agg (rpC p)) (results_cell_row Tryd.results27 _ _ (w.heap.size + 1) _ (rpC p) (0, 0) _ rfl (setRow_heap_same _ _ _ _ _ _ Hr.out) hur rfl Hsr.out) rfl ⟨rfl, below_setRow HB.out (by omega) _⟩
end Go.Proofs.YtdieaegajahdpaaDoor
