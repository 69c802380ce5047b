/- sign: the document's number that a signature hangs on. -/
import Derived.Test.YtbplbdnofobbiaaDoorSg1
import Derived.Test.YtbplbdnofobbiaaDoorFe13
import Derived.Test.YtbplbdnofobbiaaDoorRef4L
import Derived.Test.YtbplbdnofobbiaaDoorGRs
import Derived.Test.YtbplbdnofobbiaaDoorAllOn
set_option linter.unusedVariables false
set_option linter.unusedSimpArgs false
set_option maxRecDepth 100000
set_option maxHeartbeats 8000000
namespace Go.Proofs.YtbplbdnofobbiaaDoor
namespace Cv
open Fe
open Go.ChangeShapes Go.WideShapes Go.ChangeAt Go.RowKit
theorem mhash_any (v : Value) (ls : List (List UInt8)) (w : World) (h : IsRows w v ls) (hls : ls.length ≤ 1000) (hlen : ls.flatten.length ≤ 100000) :
  Calls Tryd.prog 66 #[v] w fun e w' => e = .returned (.agg (q4 (Sg.chalN ls.flatten))) ∧ Below w.heap.size w w' := by
 obtain ⟨a, c, vs, rfl, hc, hm, hlay, hvl, hin⟩ := h
 have hu8 := Tryd.underlying56
 have hu4 := Tryd.underlying23
 have hz4 := eZero4
 have hi : (Tryd.prog.info? 5).map (fun i => (i.zero, i.size, i.bytes)) = some (some (.int .u8 0), 1, 1) := by kernel_rfl
 have Hi := hide hi
 clear hi
 unfold maxLen at hm
 have h1 := (on_all w).alloc (.cells (q4 0) 23)
 have s1 := (Str.refl w).alloc (.cells (q4 0) 23)
 have H1 := hide (own_nil 5 1 h1)
 have S1 := hide s1
 obtain ⟨HsN, HoN, HzN⟩ := b3 (eInfo4 (Sg.chalN ls.flatten)) (eOne (Sg.chalN ls.flatten)) (eSize 0 (Sg.chalN ls.flatten))
 have Hlay := hide hlay
 have Hvl := hide hvl
 have Hin := hide hin
 have Hlen := hide hlen
 have hE := fun X => Sha64.short_any X
 have hS := fun u X (hu : IsBytes X u ls.flatten) => Sha64.rsum_any u ls.flatten X hu (by omega)
 have hdl := Sha64.digest_len ls.flatten
 have hR := fun u X (hu : IsBytes X u (Sha64.digest ls.flatten)) => rreduce_any u _ X hu (by rw [hdl]; omega)
 change ∀ u X, IsBytes X u (Sha64.digest ls.flatten) → Calls Tryd.prog 69 #[u] X fun e w' => e = .returned (.agg (q4 (Sg.chalN ls.flatten))) ∧ Below X.heap.size X w' at hR
 have HE := hide hE
 have HS := hide hS
 have HR := hide hR
 clear h1 s1 hlay hvl hin hE hS hR hdl
 generalize q4 (Sg.chalN ls.flatten) = N4 at *
 generalize q4 0 = Z4 at *
 generalize hF : Sha64.fc = fc at *
 have HF := hide hF
 clear hF
 go_enter Tryd.func66, Tryd.ntmps66
 go_wp2_with fail
 generalize w.alloc (.cells Z4 23) = w1 at *
 go_loopw [3, 4] (fun o i wr => ∃ k : Nat, k ≤ ls.length ∧ i = .int .i64 k ∧ (own 5 1 o (ls.take k).flatten.length (vbs (ls.take k).flatten) * (blk w.heap.size (.cells Z4 23 (0, 0)) * all w)).on wr ∧ Str w wr) (fun _ i _ => ls.length - (intOf i).toNat)
 case atStart => exact ⟨0, by omega, rfl, by simpa using H1.out, S1.out⟩
 case round =>
  obtain ⟨k, hk, rfl, how, hstr⟩ := hrel
  have How := hide how
  have Hstr := hide hstr
  have hB : Below w.heap.size w wr := all_below how.right.right hstr
  clear how hstr H1 S1
  by_cases hlt : k < ls.length
  ·have hkv : k < vs.length := by rw [Hvl.out]; exact hlt
   obtain ⟨b, off, rfl⟩ := Lay.isAddr Hlay.out k hkv
   have hc0 := Lay.cell (Hlay.out.below hB) k (List.getElem?_eq_getElem hkv)
   obtain ⟨a2, c2, hv2, hc2, hm2, hl2, hn2⟩ := Hin.out k vs[k] ls[k] (List.getElem?_eq_getElem hkv) (List.getElem?_eq_getElem hlt)
   have HN := hide (show (ls.take (k + 1)).flatten = (ls.take k).flatten ++ ls[k] by rw [List.take_succ_eq_append_getElem hlt, List.flatten_append]; simp)
   have hfl : ((ls.take k).flatten).length + ls[k].length ≤ ls.flatten.length := by
    have e9 : ls.flatten = (ls.take (k + 1)).flatten ++ (ls.drop (k + 1)).flatten := by rw [← List.flatten_append, List.take_append_drop]
    rw [e9, HN.out]
    simp only [List.length_append]
    omega
   rw [hv2] at hc0
   clear hv2
   unfold maxLen at hm2
   have Hb := hide (show IsBytes w (.slice a2 ls[k].length c2) ls[k] from ⟨a2, c2, rfl, hc2, by unfold maxLen; exact hm2, hl2, hn2⟩)
   have hfl2 : ((ls.take k).flatten).length + ls[k].length ≤ 100000 := Nat.le_trans hfl Hlen.out
   clear hl2 hn2 hfl
   generalize ls[k] = x at *
   go_wp2_with (at_builtin; refine wpList_append_bytes (F := blk w.heap.size (.cells Z4 23 (0, 0)) * all w) rfl _ _ 56 rfl 5 hu8 Hi.out _ (ls.take k).flatten x rfl How.out _ rfl (Hb.out.below hB) (by omega) ?_; intro v2 w2 ho2 hs2)
   exact ⟨⟨k + 1, by omega, by simp, by rw [HN.out]; exact ho2, Hstr.out.trans hs2⟩, by simp [intOf]; omega⟩
  ·obtain rfl : k = ls.length := by omega
   rw [List.take_length] at How
   generalize ls.flatten = fl at *
   have hO := own_bytes How.out
   have Hr := hide How.out.right
   have HO := hide hO
   obtain ⟨a2, c2, rfl, _⟩ := hO
   clear hB hlt hk How
   go_wp2_with fail
   refine (HE.out _).mono ?_
   rintro e w2 ⟨rfl, hB2⟩
   have hs := HS.out _ w2 (HO.out.below hB2)
   skip
   obtain ⟨H2, S2⟩ := nx Hr.out Hstr.out hB2
   clear hB2 Hstr HO Hr
   go_wp2_with fail
   refine hs.mono ?_
   clear hs
   rintro e w3 ⟨u, rfl, ho, hs⟩
   have H3 := hide (on_all_to ho H2.out)
   have S3 := hide (S2.out.trans hs)
   clear ho hs H2 S2
   have hr := HR.out u w3 (own_bytes H3.out)
   obtain ⟨ua, uc, rfl, _⟩ := own_bytes H3.out
   go_wp2_with fail
   refine hr.mono ?_
   clear hr
   rintro e w4 ⟨rfl, hB⟩
   obtain ⟨H4, S4⟩ := nx (H3.out.right) S3.out hB
   clear hB H3 S3
   have gR := on_blk_mul H4.out
   have HB := hide (all_below H4.out.right S4.out)
   go_wp2_with (first
    | (refine wS gR HsN HzN HoN ?_))
   exact retE Tryd.results66 gR hu4 HsN.out rfl (rfl) HB.out (by omega)
end Cv
end Go.Proofs.YtbplbdnofobbiaaDoor
