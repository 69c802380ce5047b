/- packet: whether bytes are the image that a packet tells of; the program's answer, and the document's. -/
import Derived.Test.YtgkofpfjbjnhfaaDoorPk8
import Derived.Test.YtgkofpfjbjnhfaaDoorSha7S
import Derived.Test.YtgkofpfjbjnhfaaDoorRef4S
namespace Go.Proofs.YtgkofpfjbjnhfaaDoor
open Go.ChangeShapes Go.WideShapes Go.ChangeAt Go.RowKit
set_option linter.unusedVariables false
set_option linter.unusedSimpArgs false

/-- the error -/
def matchN (p : PkS) (l : List UInt8) : Nat := if l.length ≠ p.sz then 12 else if Sha32.digest l ≠ p.hash then 14 else 0
theorem flatten_take (ls : List (List UInt8)) (k : Nat) (x : List UInt8) (h : ls[k]? = some x) : (ls.take (k + 1)).flatten.length = (ls.take k).flatten.length + x.length := by
  rw [List.take_add_one, h, List.flatten_append, List.length_append]
  simp
theorem flatten_take_le (ls : List (List UInt8)) (k : Nat) : (ls.take k).flatten.length ≤ ls.flatten.length := by
  conv => rhs; rw [← List.take_append_drop k ls, List.flatten_append, List.length_append]
  exact Nat.le_add_right _ _
theorem eq_dh (d : Nat) (w : World) (x y : List UInt8) (hx : x.length = 32) (hy : y.length = 32) : (Op.equalIn (d + 2) 71 (.agg (vbs x).toArray) (.agg (vbs y).toArray)).run Tryd.prog w = .ok (decide (x = y)) w :=
  run_eq_bytes (P := Tryd.prog) w d 71 5 32 Tryd.underlying71 Tryd.underlying5 (by kernel_rfl) x y hx hy

set_option maxRecDepth 100000 in
set_option maxHeartbeats 8000000 in
theorem pmatch_any (p : PkS) (hpk : p.Ok) (v : Value) (ls : List (List UInt8)) (w : World) (h : IsRows w v ls) (hT : Sha32.Tab w) (hls : ls.length ≤ 1000) (hlen : ls.flatten.length ≤ 1000000) :
    Calls Tryd.prog 52 #[.agg (pkC p), v] w fun e w' => e = .returned (.int .i64 (matchN p ls.flatten : Nat)) ∧ Below w.heap.size w w' := by
  have hud := Tryd.underlying71
  have Hgd : Hid (Tryd.prog.eqGuardType Tryd.prog.depth 71 = false) := hide (by kernel_rfl)
  have hg := heap_alloc_new w (.cells (pkC p) 75)
  have c3 := (pk_cells p _ _ _ hg).2.2.2
  have Hla : Hid (∀ X, Stay (w.alloc (.cells (pkC p) 75)) X → ∀ j v, (vbs p.hash).toArray[j]? = some v → X.cell? ⟨w.heap.size, 4 + j, Option.none⟩ = some v) := hide fun X hX j v hj => Lay.cell (pk_hash hpk X w.heap.size _ ((hX.block _ (by simp)).trans hg)) j (by simpa using hj)
  have Hsd : Hid ((Tryd.prog.info? 71).map (·.size) = some (vbs p.hash).toArray.size) := hide (by rw [show (vbs p.hash).toArray.size = 32 by simp [hpk.hash]]; kernel_rfl)
  have HE := hide (fun X (hr : IsRows X v ls) (ht : Sha32.Tab X) => Sha32.of_any v ls X hr ht (by omega))
  have HQ : Hid (∀ X, (Op.equalIn 10000 71 (.agg (Sha32.bv (Sha32.digest ls.flatten))) (.agg (vbs p.hash).toArray)).run Tryd.prog X = .ok (decide (Sha32.digest ls.flatten = p.hash)) X) := hide (fun X => eq_dh 9998 X _ _ (Sha32.digest_len _) hpk.hash)
  have hr0 := h.below (w' := w.alloc (.cells (pkC p) 75)) ((Below.refl _ _).alloc (Nat.le_refl _) _)
  have Hr0 := hide hr0
  have HT0 := hide (hT.below (w' := w.alloc (.cells (pkC p) 75)) ((Below.refl _ _).alloc (Nat.le_refl _) _))
  have HB0 : Hid (Below w.heap.size w (w.alloc (.cells (pkC p) 75))) := hide ((Below.refl _ _).alloc (Nat.le_refl _) _)
  obtain ⟨a, c, vs, rfl, hc, hm, hla, hvl, hin⟩ := hr0
  unfold maxLen at hm
  have Hl := hide hla
  have Hin := hide hin
  have Hvl := hide hvl
  have Hsz := hide hpk.sz
  have hsz := hpk.sz
  have HN := hide (show matchN p ls.flatten = if ls.flatten.length ≠ p.sz then 12 else if Sha32.digest ls.flatten ≠ p.hash then 14 else 0 from rfl)
  clear h hla hin hvl hg hpk hT
  generalize hD1 : Sha32.bv (Sha32.digest ls.flatten) = D1 at *
  generalize hD2 : (vbs p.hash).toArray = D2 at *
  clear hD1 hD2
  generalize hC : pkC p = C at *
  clear hC
  go_enter Tryd.func52, Tryd.ntmps52
  go_wp2_with fail
  generalize hw1 : w.alloc (.cells C 75) = w1 at *
  have Hw1 := hide hw1
  clear hw1
  go_loop [5, 10] (fun n i => ∃ k : Nat, k ≤ ls.length ∧ i = .int .i64 k ∧ n = .int .i64 ((ls.take k).flatten.length : Nat)) (fun _ i => ls.length - (intOf i).toNat)
  case atStart => exact ⟨0, by omega, rfl, rfl⟩
  case round =>
    obtain ⟨k, hk, rfl, rfl⟩ := hrel
    by_cases hlt : k < ls.length
    · obtain ⟨x, hx⟩ : ∃ x, ls[k]? = some x := ⟨_, List.getElem?_eq_getElem hlt⟩
      obtain ⟨u, hu⟩ : ∃ u, vs[k]? = some u := ⟨_, List.getElem?_eq_getElem (by rw [Hvl.out]; exact hlt)⟩
      obtain ⟨ua, uc, rfl, hu1, hu2, _, _⟩ := Hin.out k u x hu hx
      have hstep := flatten_take ls k x hx
      have hle := flatten_take_le ls k
      have hle2 := flatten_take_le ls (k + 1)
      obtain ⟨bg, bo, rfl⟩ := Hl.out.isAddr k (by rw [Hvl.out]; exact hlt)
      have cx := Lay.cell Hl.out k hu
      have Hstep := hide hstep
      have b1 : (ls.take k).flatten.length + x.length ≤ 1000000 := by omega
      clear hx hu hstep hle hle2
      generalize (ls.take k).flatten.length = n0 at *
      unfold maxLen at hu2
      go_wp2_with fail
      refine ⟨⟨k + 1, by omega, by simp, ?_⟩, by simp [intOf]; omega⟩
      rw [Hstep.out]
      simp
    · obtain rfl : k = ls.length := by omega
      rw [List.take_length]
      have hflen := hlen
      by_cases hne : ls.flatten.length = p.sz
      · have HN2 := hide (show matchN p ls.flatten = if Sha32.digest ls.flatten ≠ p.hash then 14 else 0 by rw [HN.out, if_neg (by simp [hne])])
        have enb : (((ls.flatten.length : Nat) : Int) != ((p.sz : Nat) : Int)) = false := by rw [hne]; simp
        clear hne
        generalize ls.flatten.length = n at *
        go_wp2_with fail
        by_cases hdg : Sha32.digest ls.flatten = p.hash
        · have HN3 := hide (show matchN p ls.flatten = 0 by rw [HN2.out, if_neg (by simp [hdg])])
          have HQ2 : Hid (∀ X, (Op.equalIn 10000 71 (.agg D1) (.agg D2)).run Tryd.prog X = .ok true X) := hide (fun X => by rw [HQ.out X]; simp [hdg])
          clear hdg
          refine wp_region_vs [isV (.slice a ls.length c), isV (.agg D1), isV (.pointer (some ⟨w.heap.size, 4, Option.none⟩)), isV (.agg D2), isV (.bool false)]
            (by kernel_rfl) (by kernel_rfl) rfl ?keep ?todo ?rest
          case keep => exact ⟨Keep.isV _, Keep.isV _, Keep.isV _, Keep.isV _, Keep.isV _, trivial⟩
          case todo =>
            refine ⟨?_, ?_, ?_, ?_, ?_, trivial⟩
            · intro ev X hT hb hk hf
              have e0 : ev (.tmp 1) = .slice a ls.length c := hk.1
              exact OpOk.move rfl e0 ⟨rfl, Stay.refl _⟩
            · intro ev X hT hb hk hf
              have e0 : ev (.tmp 24) = .slice a ls.length c := hf.1
              refine OpOk.enters (f := 80) (args := #[.slice a ls.length c]) (W' := X) (by simp [execOp, resolve, invoke, e0, hb.1, hb.2.1, go_sem]) ((HE.out X (Hr0.out.below hT) (HT0.out.below hT)).mono ?_)
              rintro e X2 ⟨rfl, h6⟩
              exact ⟨_, rfl, rfl, h6⟩
            · intro ev X hT hb hk hf
              have e0 : ev (.tmp 2) = .pointer (some ⟨w.heap.size, 0, Option.none⟩) := hk.1
              exact OpOk.run (v := .pointer (some ⟨w.heap.size, 4, Option.none⟩)) (W' := X) (by simp [execOp, e0, hb.1, go_sem]) ⟨rfl, Stay.refl _⟩
            · intro ev X hT hb hk hf
              have e0 : ev (.tmp 26) = .pointer (some ⟨w.heap.size, 4, Option.none⟩) := hf.1
              exact OpOk.load_part _ _ rfl w.heap.size 4 e0 D2 _ (Hla.out X hT) hud rfl Hsd.out ⟨rfl, Stay.refl _⟩
            · intro ev X hT hb hk hf
              have e0 : ev (.tmp 25) = .agg D1 := hf.1
              have e1 : ev (.tmp 27) = .agg D2 := hf.2.1
              exact OpOk.run (v := .bool false) (W' := X) (by
                unfold execOp
                simp only [e0, e1, Sem.run_bind, run_eqGuard_agg X _ _ _ _ _ _ Hgd.out, run_neq_struct, HQ2.out X, Result.andThen_ok]
                rfl) ⟨rfl, Stay.refl _⟩
          case rest =>
            intro X hT
            rintro _ - _ - _ - _ - _ rfl
            have HBB := hide (HB0.out.trans (hT.mono HB0.out.size))
            clear hT
            go_wp2
            refine Rest.done ?_
            go_wp2_with fail
            go_ret
            exact ⟨by rw [HN3.out]; rfl, HBB.out⟩
        · have HN3 := hide (show matchN p ls.flatten = 14 by rw [HN2.out, if_pos hdg])
          have HQ2 : Hid (∀ X, (Op.equalIn 10000 71 (.agg D1) (.agg D2)).run Tryd.prog X = .ok false X) := hide (fun X => by rw [HQ.out X]; simp [hdg])
          clear hdg
          refine wp_region_vs [isV (.slice a ls.length c), isV (.agg D1), isV (.pointer (some ⟨w.heap.size, 4, Option.none⟩)), isV (.agg D2), isV (.bool true)]
            (by kernel_rfl) (by kernel_rfl) rfl ?keep ?todo ?rest
          case keep => exact ⟨Keep.isV _, Keep.isV _, Keep.isV _, Keep.isV _, Keep.isV _, trivial⟩
          case todo =>
            refine ⟨?_, ?_, ?_, ?_, ?_, trivial⟩
            · intro ev X hT hb hk hf
              have e0 : ev (.tmp 1) = .slice a ls.length c := hk.1
              exact OpOk.move rfl e0 ⟨rfl, Stay.refl _⟩
            · intro ev X hT hb hk hf
              have e0 : ev (.tmp 24) = .slice a ls.length c := hf.1
              refine OpOk.enters (f := 80) (args := #[.slice a ls.length c]) (W' := X) (by simp [execOp, resolve, invoke, e0, hb.1, hb.2.1, go_sem]) ((HE.out X (Hr0.out.below hT) (HT0.out.below hT)).mono ?_)
              rintro e X2 ⟨rfl, h6⟩
              exact ⟨_, rfl, rfl, h6⟩
            · intro ev X hT hb hk hf
              have e0 : ev (.tmp 2) = .pointer (some ⟨w.heap.size, 0, Option.none⟩) := hk.1
              exact OpOk.run (v := .pointer (some ⟨w.heap.size, 4, Option.none⟩)) (W' := X) (by simp [execOp, e0, hb.1, go_sem]) ⟨rfl, Stay.refl _⟩
            · intro ev X hT hb hk hf
              have e0 : ev (.tmp 26) = .pointer (some ⟨w.heap.size, 4, Option.none⟩) := hf.1
              exact OpOk.load_part _ _ rfl w.heap.size 4 e0 D2 _ (Hla.out X hT) hud rfl Hsd.out ⟨rfl, Stay.refl _⟩
            · intro ev X hT hb hk hf
              have e0 : ev (.tmp 25) = .agg D1 := hf.1
              have e1 : ev (.tmp 27) = .agg D2 := hf.2.1
              exact OpOk.run (v := .bool true) (W' := X) (by
                unfold execOp
                simp only [e0, e1, Sem.run_bind, run_eqGuard_agg X _ _ _ _ _ _ Hgd.out, run_neq_struct, HQ2.out X, Result.andThen_ok]
                rfl) ⟨rfl, Stay.refl _⟩
          case rest =>
            intro X hT
            rintro _ - _ - _ - _ - _ rfl
            have HBB := hide (HB0.out.trans (hT.mono HB0.out.size))
            clear hT
            go_wp2
            refine Rest.done ?_
            go_wp2_with fail
            go_ret
            exact ⟨by rw [HN3.out]; rfl, HBB.out⟩
      · have HN2 := hide (show matchN p ls.flatten = 12 by rw [HN.out, if_pos hne])
        have enb : (((ls.flatten.length : Nat) : Int) != ((p.sz : Nat) : Int)) = true := by simp only [bne_iff_ne, ne_eq]; omega
        clear hne
        generalize ls.flatten.length = n at *
        go_wp2_with fail
        go_ret
        exact ⟨by rw [HN2.out]; rfl, HB0.out⟩

set_option maxRecDepth 100000 in
set_option maxHeartbeats 8000000 in
theorem hash12_any (v : Value) (b : List UInt8) (w : World) (hb : IsBytes w v b) (hlen : b.length ≤ 1000000) :
    Calls Tryd.prog 51 #[v] w (Makes w fun v => ownT v (Sha32.digest b)) := by
  have hE := Sha32.short_any w
  have Hb := hide hb
  obtain ⟨a, c, rfl, _, _, _, _⟩ := hb
  generalize hF : Sha32.fc = fc at *
  have HF := hide hF
  clear hF
  go_enter Tryd.func51, Tryd.ntmps51
  go_wp2_with fail
  refine hE.mono ?_
  clear hE
  rintro e w2 ⟨rfl, hb2⟩
  have hE := Sha32.rsum_any _ b w2 (Hb.out.below hb2) (by omega)
  rw [HF.out] at hE
  have HB2 := hide hb2
  clear hb2
  go_wp2_with fail
  refine hE.mono ?_
  clear hE
  rintro e w3 ⟨u, rfl, ho, hs⟩
  have H3 := hide (on_all_to ho (SP.on.below (on_all w) HB2.out))
  have HS3 := hide ((Str.below HB2.out).trans hs)
  obtain ⟨ua, uc, rfl, _, _, _, _⟩ := own_value ho
  clear ho hs
  go_wp2_with fail
  go_ret
  exact ⟨_, rfl, H3.out, HS3.out⟩

set_option maxRecDepth 100000 in
set_option maxHeartbeats 8000000 in
theorem rmatch_any (p : PkS) (hpk : p.Ok) (v : Value) (b : List UInt8) (w : World) (h : IsBytes w v b) (hlen : b.length ≤ 1000000) :
    Calls Tryd.prog 53 #[.agg (rpC p), v] w fun e w' => e = .returned (.int .i64 (matchN p b : Nat)) ∧ Below w.heap.size w w' := by
  have hg := heap_alloc_new w (.cells (rpC p) 77)
  have c2 := (rp_cells p _ _ _ hg).2.2.1
  have Hla : Hid (∀ X, Stay (w.alloc (.cells (rpC p) 77)) X → Lay X (some ⟨w.heap.size, 4, Option.none⟩) (vbs p.hash)) := hide fun X hX => rp_hash hpk X w.heap.size _ ((hX.block _ (by simp)).trans hg)
  have HB0 : Hid (Below w.heap.size w (w.alloc (.cells (rpC p) 77))) := hide ((Below.refl _ _).alloc (Nat.le_refl _) _)
  have hsz := hpk.sz
  have Hh := hide hpk.hash
  have Hb := hide h
  have HN := hide (show matchN p b = if b.length ≠ p.sz then 12 else if Sha32.digest b ≠ p.hash then 14 else 0 from rfl)
  obtain ⟨a, c, rfl, hc, hm, _, _⟩ := h
  unfold maxLen at hm
  have hE := Sha32.short_any (w.alloc (.cells (rpC p) 77))
  generalize hF : Sha32.fc = fc at *
  have HF := hide hF
  clear hF hg hpk
  generalize hC : rpC p = C at *
  clear hC
  by_cases hne : b.length = p.sz
  · have HN2 := hide (show matchN p b = if Sha32.digest b ≠ p.hash then 14 else 0 by rw [HN.out, if_neg (by simp [hne])])
    have enb : (((b.length : Nat) : Int) != ((p.sz : Nat) : Int)) = false := by rw [hne]; simp
    clear hne
    go_enter Tryd.func53, Tryd.ntmps53
    go_wp2_with fail
    generalize hw1 : w.alloc (.cells C 77) = w1 at *
    clear hw1
    refine hE.mono ?_
    clear hE
    rintro e w2 ⟨rfl, hb2⟩
    have HB2 := hide (HB0.out.trans (hb2.mono HB0.out.size))
    have hE := Sha32.rsum_any _ b w2 (Hb.out.below HB2.out) (by omega)
    rw [HF.out] at hE
    have HS2 := hide hb2
    clear hb2
    go_wp2_with fail
    refine hE.mono ?_
    clear hE
    rintro e w3 ⟨u, rfl, ho, hs⟩
    have hdl := Sha32.digest_len b
    have Hdl := hide hdl
    have ho2 : (own 5 1 u 32 (vbs (Sha32.digest b)) * all w2).on w3 := by rw [hdl] at ho; exact ho
    obtain ⟨og, oc, rfl, hc5, _⟩ := own_block ho2 (by decide)
    have HF3 := hide ho2
    have HS3 := hide hs
    clear ho ho2 hs hdl
    generalize Sha32.digest b = dg at *
    go_wp2_with fail
    go_loopw [6] (fun i wr => ∃ k : Nat, k ≤ 32 ∧ i = .int .i64 k ∧ (∀ j, j < k → dg[j]? = p.hash[j]?) ∧ (own 5 1 (.slice (some ⟨og, 0, Option.none⟩) 32 oc) 32 (vbs dg) * all w2).on wr ∧ Str w2 wr) (fun i _ => 32 - (intOf i).toNat)
    case atStart => exact ⟨0, by omega, rfl, fun j hj => by omega, HF3.out, HS3.out⟩
    case round =>
      obtain ⟨k, hk, rfl, hpre, hF, hstr⟩ := hrel
      have Hpre := hide hpre
      have HFk := hide hF
      have Hstr := hide hstr
      clear hpre hF hstr HF3 HS3
      have HBk := hide (all_below HFk.out.right Hstr.out)
      by_cases hlt : k < 32
      · obtain ⟨x, hx⟩ : ∃ x, dg[k]? = some x := ⟨_, List.getElem?_eq_getElem (by rw [Hdl.out]; exact hlt)⟩
        obtain ⟨y, hy⟩ : ∃ y, p.hash[k]? = some y := ⟨_, List.getElem?_eq_getElem (by rw [Hh.out]; exact hlt)⟩
        have c1 := own_cell HFk.out k (vb x) (by simp [vbs, hx])
        have c4 := Lay.cell (Hla.out wr (HS2.out.trans (HBk.out.mono HS2.out.size))) k (v := vb y) (by simp [vbs, hy])
        have hkc : (k : Int) < 32 := by omega
        have hk0 : (0 : Int) ≤ (k : Int) := by omega
        have Hx := hide hx
        have Hy := hide hy
        clear hx hy
        by_cases hxy : x = y
        · have exy : (((x.toNat : Nat) : Int) != ((y.toNat : Nat) : Int)) = false := by rw [hxy]; simp
          have Hxy := hide hxy
          clear hxy
          go_wp2_with fail
          go_quiet (fail)
          go_wp2_with fail
          refine ⟨⟨k + 1, by omega, by simp, ?_, HFk.out.drewN _, Hstr.out.drewN _⟩, by simp [intOf]; omega⟩
          intro j hj
          by_cases hjk : j < k
          · exact Hpre.out j hjk
          · obtain rfl : j = k := by omega
            rw [Hx.out, Hy.out, Hxy.out]
        · have exy : (((x.toNat : Nat) : Int) != ((y.toNat : Nat) : Int)) = true := by
            have : x.toNat ≠ y.toNat := fun h => hxy (UInt8.toNat_inj.1 h)
            simp; omega
          have HE14 := hide (show matchN p b = 14 by
            rw [HN2.out, if_pos]
            intro e
            have h1 := Hx.out
            rw [e, Hy.out] at h1
            exact hxy (Option.some.inj h1).symm)
          clear hxy
          go_wp2_with fail
          go_quiet (fail)
          go_wp2_with fail
          go_ret
          exact ⟨by rw [HE14.out]; rfl, Below.drewN' (HB2.out.trans (HBk.out.mono HB2.out.size)) _⟩
      · obtain rfl : k = 32 := by omega
        have heq : dg = p.hash := List.ext_getElem? fun j => by
          rcases Nat.lt_or_ge j 32 with hj | hj
          · exact Hpre.out j hj
          · rw [List.getElem?_eq_none (by rw [Hdl.out]; exact hj), List.getElem?_eq_none (by rw [Hh.out]; exact hj)]
        have HE0 := hide (show matchN p b = 0 by rw [HN2.out, if_neg (by simp [heq])])
        clear heq hlt hk
        go_wp2_with fail
        go_ret
        exact ⟨by rw [HE0.out]; rfl, HB2.out.trans (HBk.out.mono HB2.out.size)⟩
  · have HN2 := hide (show matchN p b = 12 by rw [HN.out, if_pos hne])
    have enb : (((b.length : Nat) : Int) != ((p.sz : Nat) : Int)) = true := by simp; omega
    clear hne
    go_enter Tryd.func53, Tryd.ntmps53
    go_wp2_with fail
    go_ret
    exact ⟨by rw [HN2.out]; rfl, HB0.out⟩
end Go.Proofs.YtgkofpfjbjnhfaaDoor
