/- The law LongsumParts: in any parts the digest is that of all; told in between, it changes nothing; and no hash. -/
import Derived.Test.YtdieaegajahdpaaDoorSha9L
import Derived.Test.YtdieaegajahdpaaDoorOpen
import Derived.Test.YtdieaegajahdpaaDoorEqArr
namespace Go.Proofs.YtdieaegajahdpaaDoor
open Go.ChangeShapes Go.WideShapes Go.ChangeAt Go.RowKit
set_option linter.unusedVariables false
set_option linter.unusedSimpArgs false
namespace Sha64
theorem eq_dig (l : List UInt8) (w : World) (t : TypeId) (ht : t = 41 ∨ t = 40) : (Op.equalIn 10000 t (.agg (bv (digest l))) (.agg (bv (digest l)))).run Tryd.prog w = .ok true w := by
  have hu : Tryd.prog.underlying t = some (.array 64 5) := by
    rcases ht with rfl | rfl
    · exact Tryd.underlying41
    · exact Tryd.underlying40
  have := run_eq_bytes (P := Tryd.prog) w 9998 t 5 64 hu Tryd.underlying5 (by kernel_rfl) (digest l) (digest l) (digest_len l) (digest_len l)
  rw [decide_eq_true rfl] at this
  exact this
theorem eq_zero (w : World) (t : TypeId) (ht : t = 41 ∨ t = 40) : (Op.equalIn 10000 t (.agg (bv zD)) (.agg (bv zD))).run Tryd.prog w = .ok true w := by
  have hu : Tryd.prog.underlying t = some (.array 64 5) := by
    rcases ht with rfl | rfl
    · exact Tryd.underlying41
    · exact Tryd.underlying40
  have := run_eq_bytes (P := Tryd.prog) w 9998 t 5 64 hu Tryd.underlying5 (by kernel_rfl) zD zD rfl rfl
  rw [decide_eq_true rfl] at this
  exact this
end Sha64
open Sha64 in
set_option maxRecDepth 100000 in
set_option maxHeartbeats 8000000 in
theorem parts_Longsum (w : World) (v : Value) (ls : List (List UInt8)) (hr : IsRows w v ls) (hT : Tab w) :
    Calls Tryd.prog 6 #[v] w fun e w' => e = .returned (.bool true) ∧ Below w.heap.size w w' := by
  have Hr := hide hr
  have HT := hide hT
  obtain ⟨a, c, vs, rfl, hc, hm, hlay, hvl, hin⟩ := hr
  have Hlay := hide hlay
  have Hvl := hide hvl
  have Hin := hide hin
  clear hlay hvl hin
  unfold maxLen at hm
  by_cases hlen : 20 < ls.length
  · have hL1 := lives_any w hT
    clear hT
    go_enter Tryd.func6, Tryd.ntmps6
    go_wp2_with fail
    refine hL1.mono ?_
    clear hL1
    rintro e w1 ⟨rfl, hb1⟩
    have hL2 := lives_any w1 (HT.out.below hb1)
    go_wp2_with fail
    refine hL2.mono ?_
    clear hL2
    rintro e w2 ⟨rfl, hb2⟩
    go_wp2
    go_ret
    exact ⟨rfl, hb1.trans (hb2.mono hb1.size)⟩
  · have hlen2 : ls.length ≤ 20 := by omega
    have hu := Tryd.underlying22
    have hL1 := lives_any w hT
    clear hlen hT
    go_enter Tryd.func6, Tryd.ntmps6
    go_wp2_with fail
    refine hL1.mono ?_
    clear hL1
    rintro e w1 ⟨rfl, hb1⟩
    have hN := new_any w1 (HT.out.below hb1)
    have HB1 := hide hb1
    clear hb1
    go_wp2_with fail
    refine hN.mono ?_
    clear hN
    rintro e w2 ⟨v2, rfl, ho, hs⟩
    obtain ⟨p, ho⟩ := on_ex_mul.1 ho
    rw [SP.mul_assoc] at ho
    obtain ⟨rfl, ho2⟩ := on_pure_mul.1 ho
    have H0 : Hid ((Sha p [] * (own 5 1 (.slice Option.none 0 0) ([] : List UInt8).length (vbs []) * all w)).on w2) := hide (by
      have h1 := on_all_to ho2 ((on_all w).below HB1.out)
      have h2 := own_nil 5 1 h1
      refine (SP.le_of_eq ?_).on h2
      ac_rfl)
    have HS0 := hide ((Str.below HB1.out).trans hs)
    clear ho ho2 hs HB1
    go_wp2_with fail
    go_loopw [3, 21] (fun av i wr => ∃ k : Nat, k ≤ ls.length ∧ i = .int .i64 k ∧ (ls.take k).flatten.length ≤ 300 * k ∧ (Sha p (ls.take k).flatten * (own 5 1 av (ls.take k).flatten.length (vbs (ls.take k).flatten) * all w)).on wr ∧ Str w wr) (fun _ i _ => ls.length - (intOf i).toNat)
    case atStart => exact ⟨0, Nat.zero_le _, rfl, by simp, H0.out, HS0.out⟩
    case round =>
      obtain ⟨k, hk, rfl, hacc, hw, hstr⟩ := hrel
      by_cases hlt : k < ls.length
      · have hvk : k < vs.length := by rw [Hvl.out]; exact hlt
        have hbk := Hin.out k vs[k] ls[k] (List.getElem?_eq_getElem hvk) (List.getElem?_eq_getElem hlt)
        obtain ⟨bg, bo, e1, cv0⟩ := Hlay.out k vs[k] (List.getElem?_eq_getElem hvk)
        subst e1
        have cv := all_cell hw.right.right cv0
        have HN := hide (show (ls.take (k + 1)).flatten = (ls.take k).flatten ++ ls[k] by rw [List.take_succ_eq_append_getElem hlt, List.flatten_append]; simp)
        have hk20 : k < 20 := by omega
        generalize (ls.take k).flatten = acc at *
        generalize ls[k] = b at *
        have Hbk := hide hbk
        obtain ⟨ba, bc, hbe, hbl, hbm, _, _⟩ := hbk
        rw [hbe] at cv Hbk
        unfold maxLen at hbm
        have HW := hide hw
        have HS := hide hstr
        obtain ⟨aa, ac, rfl, _, _, _, _⟩ := own_value (F := Sha p acc * all w) (by refine (SP.le_of_eq ?_).on hw; ac_rfl)
        clear hw hstr cv0 hbe H0 HS0
        by_cases h300 : 300 < b.length
        · go_wp2_with fail
          go_ret
          exact ⟨rfl, all_below HW.out.right.right HS.out⟩
        · have hb3 : b.length ≤ 300 := by omega
          clear h300
          have hal : acc.length ≤ 300 * k := hacc
          have HW1 : Hid ((own 5 1 (.slice aa acc.length ac) acc.length (vbs acc) * (Sha p acc * all w)).on wr) := hide (by refine (SP.le_of_eq ?_).on HW.out; ac_rfl)
          have HAcc := hide hacc
          clear hacc HW
          go_wp2_with (first
            | (at_builtin; refine wpList_append_bytes (F := own 5 1 (.slice aa2 (acc ++ b).length ac2) (acc ++ b).length (vbs (acc ++ b)) * (Sha p acc * all w)) rfl _ _ 22 rfl 5 hu info8 _ [] b rfl H2.out _ rfl (Hbk.out.all H2.out.right.right.right) (by simp; omega) ?_; intro v3 w3 ho hs; rw [List.nil_append] at ho; have H3 := hide ho; have HS3 := hide ((HS2.out.alloc _).trans hs); clear ho hs)
            | (at_builtin; refine wpList_append_bytes (F := Sha p acc * all w) rfl _ _ 22 rfl 5 hu info8 _ acc b rfl HW1.out _ rfl (Hbk.out.all HW1.out.right.right) (by omega) ?_; intro v2 w2 ho hs; obtain ⟨aa2, ac2, rfl, _, _, _, _⟩ := own_value ho; have H2 := hide (own_new 5 1 0 [] ho rfl (by decide)); have HS2 := hide (HS.out.trans hs); clear ho hs))
          rw [← HN.out] at H3 H2
          have hfl : (ls.take (k + 1)).flatten.length = acc.length + b.length := by rw [HN.out, List.length_append]
          have Hfl := hide hfl
          rw [← hfl]
          have HN2 := hide HN.out.symm
          generalize hA2 : (ls.take (k + 1)).flatten = acc2 at *
          have HA2 := hide hA2
          clear hA2
          have h3 : (Sha p acc * (own 5 1 v3 b.length (vbs b) * (own 5 1 (.slice aa2 acc2.length ac2) acc2.length (vbs acc2) * all w))).on w3 := by
            refine (SP.le_of_eq ?_).on H3.out
            ac_rfl
          have hWr := write_any p acc v3 b _ w3 h3 (fun X hX => HT.out.all hX.right.right) (fun X hX => own_bytes hX) (by omega)
          rw [HN2.out] at hWr
          obtain ⟨oa, oc, rfl, hoc, hom, _, _⟩ := own_value H3.out
          unfold maxLen at hom
          clear h3 hfl H2 HS2
          refine hWr.mono ?_
          clear hWr
          rintro e w4 ⟨⟨u, rfl⟩, h4, hs4⟩
          have H4 : Hid ((own 5 1 (.slice oa b.length oc) b.length (vbs b) * (Sha p acc2 * (own 5 1 (.slice aa2 acc2.length ac2) acc2.length (vbs acc2) * all w))).on w4) := hide (by refine (SP.le_of_eq ?_).on h4; ac_rfl)
          have HS4 := hide (HS3.out.trans hs4)
          clear h4 hs4 H3 HS3 HW1
          go_wp2_with fail
          go_loopw [39] (fun i wr => ∃ j : Nat, ∃ l : List UInt8, j ≤ b.length ∧ i = .int .i64 j ∧ l.length = b.length ∧ (own 5 1 (.slice oa b.length oc) b.length (vbs l) * (Sha p acc2 * (own 5 1 (.slice aa2 acc2.length ac2) acc2.length (vbs acc2) * all w))).on wr ∧ Str w wr) (fun i _ => b.length - (intOf i).toNat)
          case atStart => exact ⟨0, b, Nat.zero_le _, rfl, rfl, H4.out, HS4.out⟩
          case round =>
            obtain ⟨j, l, hj, rfl, hl, hw, hstr⟩ := hrel
            by_cases hjt : j < b.length
            · obtain ⟨og, oc2, e1, _, _⟩ := own_block hw (by omega)
              simp only [Value.slice.injEq] at e1
              obtain ⟨rfl, _, rfl⟩ := e1
              have cb := own_cell hw j _ (vbs_get _ j (by omega))
              have fr := own_free hw j
              have Hst := hide (fun u => own_store hw (j := j) hjt u)
              have Hstr := hide hstr
              have Hl := hide hl
              generalize hq : l[j]'(by omega) = old at *
              have hx := xor_ones 8 old.toNat (UInt8.toNat_lt old)
              have hx2 : bits .xor .u8 (old.toNat : Int) 255 = ((255 - old.toNat : Nat) : Int) := by
                rw [show (255 : Int) = ((255 : Nat) : Int) from rfl, u8_xor_nat _ _ (UInt8.toNat_lt old) (by omega), Nat.xor_comm]
                rw [show (255 : Nat) = 2 ^ 8 - 1 from rfl, hx]
              have Hx2 := hide hx2
              clear hw hstr hl hq hx hx2 hoc H4 HS4
              go_wp2_with fail
              exact ⟨⟨j + 1, l.set j (UInt8.ofNat (255 - old.toNat)), by omega, by simp, by rw [List.length_set]; exact Hl.out, by have := Hst.out (vb (UInt8.ofNat (255 - old.toNat))); rw [vbs_set] at this; have e : vb (UInt8.ofNat (255 - old.toNat)) = .int .u8 (bits .xor .u8 (old.toNat : Int) 255) := (by rw [Hx2.out]; simp [vb]; omega); rw [e] at this; exact this, Hstr.out.setCell _ _⟩, by simp [intOf]; omega⟩
            · obtain rfl : j = b.length := by omega
              have h5 : (Sha p acc2 * (own 5 1 (.slice oa b.length oc) b.length (vbs l) * (own 5 1 (.slice aa2 acc2.length ac2) acc2.length (vbs acc2) * all w))).on wr := by refine (SP.le_of_eq ?_).on hw; ac_rfl
              have hSm := sum_any p acc2 _ wr h5 (fun X hX => HT.out.all hX.right.right) (by have := Hfl.out; omega)
              have HS5 := hide hstr
              clear hw hstr h5 hl H4 HS4 hjt
              go_wp2_with fail
              refine hSm.mono ?_
              clear hSm
              rintro e w6 ⟨rfl, h6, hs6⟩
              have h6b := own_bytes (F := all w) h6.right.right
              have hRw := IsRows.one h6b 22
              have hOf := of_any _ _ _ hRw (HT.out.all (h6.alloc' (.cells #[.slice aa2 acc2.length ac2] 22)).right.right.right) (by have := Hfl.out; simp; omega)
              rw [show List.flatten [acc2] = acc2 by simp] at hOf
              have HH6 := hide (h6.alloc' (.cells #[.slice aa2 acc2.length ac2] 22))
              have HS6 := hide ((HS5.out.trans hs6).alloc (.cells #[.slice aa2 acc2.length ac2] 22))
              clear h6 hs6 h6b hRw HS5
              go_wp2_with fail
              refine hOf.mono ?_
              clear hOf
              rintro e w7 ⟨rfl, hb7⟩
              have HH7 := hide (HH6.out.below hb7)
              have HS7 := hide (HS6.out.trans (Str.below hb7))
              clear hb7 HH6 HS6
              have heq := fun w => eq_dig acc2 w 41 (.inl rfl)
              generalize bv (digest acc2) = Dg at *
              go_wp2_with fail
              exact ⟨⟨k + 1, by omega, by simp, by rw [HA2.out]; have := Hfl.out; have := HAcc.out; omega, by rw [HA2.out]; exact (SP.le.mul (SP.le.refl (Sha p acc2)) (SP.le_right (own 5 1 (.slice oa b.length oc) b.length (vbs l)) (own 5 1 (.slice aa2 acc2.length ac2) acc2.length (vbs acc2) * all w))).on HH7.out, HS7.out⟩, by simp [intOf]; omega⟩
      · obtain rfl : k = ls.length := by omega
        rw [List.take_length] at hw hacc
        have hzd : ∀ w, (zeroValue 40).run Tryd.prog w = .ok (.agg (bv zD)) w := fun w => by kernel_rfl
        obtain ⟨aa, ac, rfl, _, _, _, _⟩ := own_value (F := Sha p ls.flatten * all w) (by refine (SP.le_of_eq ?_).on hw; ac_rfl)
        have HA := hide hacc
        have hal : ls.flatten.length ≤ 6000 := by omega
        have HL := hide hal
        have hS1 := sum_any p ls.flatten _ wr hw (fun X hX => HT.out.all hX.right) (by omega)
        have heq := fun w => eq_dig ls.flatten w 41 (.inl rfl)
        have hez := fun w => eq_zero w 41 (.inl rfl)
        have HS := hide hstr
        have Hw := hide hw
        clear hw hstr hacc hal H0 HS0 hlt hk
        generalize hAA : ls.flatten = AA at *
        have HAA := hide hAA
        clear hAA
        go_wp2_with fail
        refine (write_nil _ _).mono ?_
        rintro e _ ⟨⟨u, rfl⟩, rfl⟩
        go_wp2_with fail
        refine hS1.mono ?_
        clear hS1
        rintro e w1 ⟨rfl, h1, hs1⟩
        have h1b := own_bytes (F := all w) h1.right
        have hRw := IsRows.one h1b 22
        have hOf := of_any _ _ _ hRw (HT.out.all (h1.alloc' (.cells #[.slice aa AA.length ac] 22)).right.right) (by have := HL.out; simp; omega)
        rw [show List.flatten [AA] = AA by simp] at hOf
        have HH1 := hide (h1.alloc' (.cells #[.slice aa AA.length ac] 22))
        have HS1 := hide ((HS.out.trans hs1).alloc (.cells #[.slice aa AA.length ac] 22))
        clear h1 hs1 h1b hRw
        go_wp2_with fail
        refine hOf.mono ?_
        clear hOf
        rintro e w2 ⟨rfl, hb2⟩
        have HH2 := hide (HH1.out.below hb2)
        have HS2 := hide (HS1.out.trans (Str.below hb2))
        have hOf2 := of_any _ ls w2 (Hr.out.all HH2.out.right.right) (HT.out.all HH2.out.right.right) (by rw [HAA.out]; have := HL.out; omega)
        rw [HAA.out] at hOf2
        clear hb2
        have HEq := hide heq
        have HZd := hide hzd
        have HEz := hide hez
        generalize hDg : bv (digest AA) = Dg at *
        have HDg := hide hDg
        clear hDg
        go_wp2_with fail
        refine hOf2.mono ?_
        clear hOf2
        rintro e w3 ⟨rfl, hb3⟩
        have HH3 := hide (HH2.out.below hb3)
        have HS3 := hide (HS2.out.trans (Str.below hb3))
        have hS3 := sum_any p AA _ w3 HH3.out (fun X hX => HT.out.all hX.right) (by have := HL.out; omega)
        clear hb3
        go_wp2_with fail
        refine hS3.mono ?_
        clear hS3
        rintro e w4 ⟨rfl, h4, hs4⟩
        rw [HDg.out]
        have HB4 := hide (all_below h4.right.right (HS3.out.trans hs4))
        clear h4 hs4
        go_wp2_with fail
        refine (sum_nil _).mono ?_
        rintro e w5 ⟨rfl, hb5⟩
        have HB5 := hide (HB4.out.trans (hb5.mono HB4.out.size))
        clear hb5
        generalize bv zD = Z at *
        go_wp2_with fail
        go_ret
        exact ⟨rfl, HB5.out⟩
end Go.Proofs.YtdieaegajahdpaaDoor
