/- The law DeslipFrames: behind anything that an end ends, frames bring their texts, one by one, and nothing else. -/
import Derived.Test.YtdbnjejpejmmjaaDeslipLives
import Derived.Test.YtdbnjejpejmmjaaDeslipFramesMath
import Derived.Test.YtdbnjejpejmmjaaSlip2
namespace Go.Proofs.Ytdbnjejpejmmjaa
open Go.ChangeShapes Go.WideShapes Go.ChangeAt Go.RowKit
set_option linter.unusedVariables false

theorem IsBytes.all' {w w' : World} {v : Value} {l : List UInt8} (h : IsBytes w v l) (ha : (all w).on w') : IsBytes w' v l := by
  have hsz : w.heap.size ≤ w'.heap.size := by
    obtain ⟨x, hx, hy⟩ := ha
    by_cases h0 : w.heap.size = 0
    · omega
    · have h1 := hy (w.heap.size - 1) (by omega)
      have h2 : x (w.heap.size - 1) = some (w.heap[w.heap.size - 1]'(by omega)) := by rw [h1]; simp
      have h3 := hx _ _ h2
      have h4 := (Array.getElem?_eq_some_iff.1 h3).1
      omega
  have hs : Str w { w with heap := w'.heap } := ⟨rfl, rfl, rfl, hsz⟩
  have h2 : IsBytes { w with heap := w'.heap } v l := h.below (all_below (w' := { w with heap := w'.heap }) (SP.on_of_heap ha rfl) hs)
  exact h2

set_option maxRecDepth 100000 in
set_option maxHeartbeats 8000000 in
theorem walk_DeslipFrames (w : World) (v : Value) (ls : List (List UInt8)) (hb : IsRows w v ls) (va : Value) (la : List UInt8) (ha : IsBytes w va la) :
    Calls Try.prog 11 #[v, va] w fun e w' => e = .returned (.bool true) ∧ Below w.heap.size w w' := by
  have Hb := hide hb
  have Ha := hide ha
  obtain ⟨a, c, vs, rfl, hc, hm, hl, hvl, hin⟩ := hb
  obtain ⟨a2, c2, rfl, hc2, hm2, _, _⟩ := ha
  have Hl := hide hl
  have Hin := hide hin
  unfold maxLen at hm hm2
  clear hl hin
  by_cases hlen : 30 < ls.length ∨ 200 < la.length
  · rcases (show 30 < ls.length ∨ (ls.length ≤ 30 ∧ 200 < la.length) by omega) with hx | ⟨hx, hy⟩
    all_goals
      clear hlen
      go_enter Try.func11, Try.ntmps11
      go_wp2_with fail
      refine (lives10_any _).mono ?_
      rintro e w1 ⟨rfl, hb1⟩
      go_wp2_with fail
      refine (lives10_any _).mono ?_
      rintro e w2 ⟨rfl, hb2⟩
      go_wp2
      go_ret
      exact ⟨rfl, hb1.trans (hb2.mono hb1.size)⟩
  · have hl30 : ls.length ≤ 30 := by omega
    have hl200 : la.length ≤ 200 := by omega
    clear hlen
    go_enter Try.func11, Try.ntmps11
    go_wp2_with fail
    refine (lives10_any _).mono ?_
    rintro e w1 ⟨rfl, hb1⟩
    have HB1 := hide hb1
    clear hb1
    go_wp2_with fail
    refine (dnew_any 300 (by omega) (by omega) w1).mono ?_
    rintro e w2 ⟨v2, rfl, ho, hs⟩
    obtain ⟨p, rfl, ho2⟩ := dnewQ.out ho
    have HF := hide (feedl_any p _ _ w2 ho2 (dnew_ok (by omega)) _ la (by omega) (fun w' h => (Ha.out.below HB1.out).all' h))
    rw [feedK_all] at HF
    have HS := hide hs
    have hg1 : (DsS.mk [] 300 false false).Good 300 := ⟨rfl, fun h => by cases h⟩
    have Hg2 := hide (run_good la hg1)
    have Hok2 : Hid (run ⟨[], 300, false, false⟩ la).2.Ok := hide (by rw [← feedK_all]; exact feedK_ok (dnew_ok (by omega)) _ _)
    clear ho ho2 hs hg1
    generalize run ⟨[], 300, false, false⟩ la = r2 at *
    go_wp2_with fail
    refine HF.out.mono ?_
    rintro e w3 ⟨out, L, rfl, _, h3, hs3⟩
    have h3' := (h3.right).alloc (.cells (vbs [192]).toArray 5)
    rw [SP.mul_left_comm] at h3'
    have HF3 := hide (feedl_any p _ _ _ h3' Hok2.out (.slice (some ⟨w3.heap.size, 0, Option.none⟩) 1 1) [192] (by simp) (fun w h => Bytes.blk (l := [192]) h (by decide)))
    rw [feedK_all] at HF3
    rw [show (run r2.2 [192]).2 = ⟨[], 300, false, false⟩ from end_clean Hg2.out] at HF3
    have HS3 := hide ((HS.out.trans hs3).alloc (.cells (vbs [192]).toArray 5))
    clear h3 h3' hs3 HF HS
    go_wp2_with fail
    refine HF3.out.mono ?_
    rintro e w4 ⟨out4, L4, rfl, _, h4, hs4⟩
    have h4' := h4.right
    rw [SP.mul_left_comm] at h4'
    have H4 := hide h4'.right
    have HS4 := hide (HS3.out.trans hs4)
    clear h4 h4' hs4 HF3 HS3
    go_wp2_with fail
    go_loopw [39] (fun i wr => ∃ k : Nat, k ≤ ls.length ∧ i = .int .i64 k ∧ (Dec p ⟨[], 300, false, false⟩ * all w1).on wr ∧ Str w1 wr) (fun i _ => ls.length - (intOf i).toNat)
    case atStart => exact ⟨0, by omega, rfl, H4.out, HS4.out⟩
    case round =>
      obtain ⟨k, hk, rfl, hw, hstr⟩ := hrel
      have hBr : Below w.heap.size w wr := HB1.out.trans ((all_below hw.right hstr).mono HB1.out.size)
      by_cases hkl : k < ls.length
      · obtain ⟨bv, offv, rfl⟩ := Lay.isAddr Hl.out k (by omega)
        have hvk : vs[k]? = some (vs[k]'(by omega)) := List.getElem?_eq_getElem (by omega)
        have hlk : ls[k]? = some (ls[k]) := List.getElem?_eq_getElem hkl
        have cb := Lay.cell (Hl.out.below hBr) k hvk
        have hbx := (Hin.out k _ _ hvk hlk).below hBr
        have hbx0 := (Hin.out k _ _ hvk hlk).below HB1.out
        clear hvk hlk
        generalize vs[k]'(by omega) = vk at *
        generalize ls[k] = x at *
        have hbx2 := hbx
        obtain ⟨xa, xc, rfl, hxc, hxm, _, _⟩ := hbx2
        unfold maxLen at hxm
        have HBr := hide hBr
        have Hstr := hide hstr
        have Hw := hide hw
        have Hbx := hide hbx
        have Hbx0 := hide hbx0
        clear hBr hstr hw hbx hbx0
        by_cases hx300 : 300 < x.length
        · go_wp2_with fail
          go_ret
          exact ⟨rfl, HBr.out⟩
        · go_wp2_with fail
          refine (refEncode_any _ x wr Hbx.out (by omega)).mono ?_
          rintro e w5 ⟨v5, rfl, ho5, hs5⟩
          dsimp only at ho5
          have h5 := on_all_to ho5 Hw.out
          rw [SP.mul_left_comm] at h5
          have hfl : (frame x).length ≤ 601 := by rw [frame_len]; have := (encText_len x).1; omega
          have HF5 := hide (feedl_any p _ _ w5 h5 (dnew_ok (by omega)) v5 (frame x) (by omega) (fun w h => own_bytes h))
          rw [feedK_all, run_frame 300 x (by omega)] at HF5
          have HS5 := hide (Hstr.out.trans hs5)
          have hn600 : (encText x).length ≤ 600 := by have := (encText_len x).1; omega
          clear ho5 h5 hs5
          go_wp2_with fail
          refine HF5.out.mono ?_
          rintro e w6 ⟨out6, L6, rfl, hL6, h6, hs6⟩
          try dsimp only at hL6 h6
          have hLl : L6.length = (encText x).length + 1 := by have := congrArg List.length hL6; simpa using this
          have hz : ∀ j, j < (encText x).length → ∃ v, L6[j]? = some (v, zev) := fun j hj => evs_at hL6 j _ (by rw [List.getElem?_append_left (by simpa using hj), List.getElem?_replicate, if_pos hj])
          have hlast : ∃ v, L6[(encText x).length]? = some (v, evOf (x, 0, ⟨[], 300, false, false⟩)) := evs_at hL6 _ _ (by rw [List.getElem?_append_right (by simp)]; simp)
          have hev : (evOf (x, 0, ⟨[], 300, false, false⟩)).frame = x ∧ ((evOf (x, 0, ⟨[], 300, false, false⟩)).kind = 0 ∨ (evOf (x, 0, ⟨[], 300, false, false⟩)).kind = 1) := by
            unfold evOf
            by_cases h0 : 0 < x.length
            · simp [h0]
            · have : x = [] := by cases x with | nil => rfl | cons y t => simp at h0
              subst this; simp
          generalize evOf (x, 0, ⟨[], 300, false, false⟩) = ev at *
          generalize (encText x).length = n at *
          have h7 : (own 59 3 out6 (n + 1) (evCells L6) * (stars L6 * (Dec p ⟨[], 300, false, false⟩ * (ownB v5 (frame x) * all w1)))).on w6 := by
            unfold Evs at h6
            rw [hLl, SP.mul_assoc] at h6
            exact h6
          obtain ⟨g, cap, rfl, hc1, hc2⟩ := own_block h7 (by omega)
          unfold maxLen at hc2
          have H7 := hide h7
          have HS6 := hide (HS5.out.trans hs6)
          have HL6 := hide hL6
          clear h6 h7 hs6 hL6 HF5 HS5
          go_wp2_with fail
          go_loopw [52] (fun i w7 => ∃ j : Nat, j ≤ n + 1 ∧ i = .int .i64 j ∧ (own 59 3 (.slice (some ⟨g, 0, Option.none⟩) (n + 1) cap) (n + 1) (evCells L6) * (stars L6 * (Dec p ⟨[], 300, false, false⟩ * (ownB v5 (frame x) * all w1)))).on w7 ∧ Str w1 w7) (fun i _ => n + 1 - (intOf i).toNat)
          case atStart => exact ⟨0, by omega, rfl, H7.out, HS6.out⟩
          case round =>
            obtain ⟨j, hj, rfl, hw7, hstr7⟩ := hrel
            by_cases hjl : j < n + 1
            · by_cases hjn : j < n
              · obtain ⟨fv, hfv⟩ := hz j hjn
                have d0 := own_lay hw7 _ _ (evCells_get L6 j _ _ hfv).1
                have d1 := own_lay hw7 _ _ (evCells_get L6 j _ _ hfv).2.1
                have d2 := own_lay hw7 _ _ (evCells_get L6 j _ _ hfv).2.2
                obtain ⟨fa, fc, rfl, _, _, _, _⟩ := stars_get L6 j fv _ hw7.right hfv
                simp only [zev] at d0 d1 d2
                have Hw7 := hide hw7
                have Hs7 := hide hstr7
                clear hw7 hstr7 hfv hz hlast
                go_wp2_with fail
                exact ⟨⟨j + 1, by omega, by simp, Hw7.out.alloc' _, Hs7.out.alloc _⟩, by simp [intOf]; omega⟩
              · have hjn2 : j = n := by omega
                subst hjn2
                obtain ⟨fv, hfv⟩ := hlast
                have d0 := own_lay hw7 _ _ (evCells_get L6 j _ _ hfv).1
                have d1 := own_lay hw7 _ _ (evCells_get L6 j _ _ hfv).2.1
                have d2 := own_lay hw7 _ _ (evCells_get L6 j _ _ hfv).2.2
                have hfb := stars_get L6 j fv _ hw7.right hfv
                rw [hev.1] at hfb
                obtain ⟨fa, fc, rfl, _, _, hlf, _⟩ := hfb
                obtain ⟨xa', xc', ex, _, _, hlx, _⟩ := Hbx0.out.all' hw7.right.right.right.right
                simp only [Value.slice.injEq] at ex
                obtain ⟨rfl, _, rfl⟩ := ex
                have Hw7 := hide hw7
                have Hs7 := hide hstr7
                have hk2 : (ev.kind : Int) ≤ 1 := by rcases hev.2 with h | h <;> omega
                have hk3 : 0 ≤ (ev.kind : Int) := by omega
                clear hw7 hstr7 hfv hz hev
                generalize (ev.kind : Int) = kk at *
                generalize (ev.err : Int) = ee at *
                have hsu := Try.underlying22
                have hsb := Try.underlying5
                have hst := Try.underlying9
                have k1 := fun o => run_string_of (P := Try.prog) (w := wr.alloc o) (c := fc) hsu hsb (hlf.below ((Below.refl _ _).alloc (Nat.le_refl _) o))
                have k2 := fun o => run_string_of (P := Try.prog) (w := wr.alloc o) (c := xc) hsu hsb (hlx.below ((Below.refl _ _).alloc (Nat.le_refl _) o))
                clear hlf hlx
                go_wp2_with fail
                exact ⟨⟨j + 1, by omega, by simp, Hw7.out.alloc' _, Hs7.out.alloc _⟩, by simp [intOf]⟩
            · have Hw7 := hide hw7
              have Hs7 := hide hstr7
              clear hw7 hstr7 hz hlast
              go_wp2_with fail
              refine ⟨⟨k + 1, hkl, by simp, ?_, Hs7.out⟩, by simp [intOf]; omega⟩
              have h8 := Hw7.out.right.right
              rw [SP.mul_left_comm] at h8
              exact h8.right
      · have HBr := hide hBr
        clear hw hstr hBr
        go_wp2_with fail
        go_ret
        exact ⟨rfl, HBr.out⟩
namespace lawDeslipFrames
theorem own : ownKnob Try.prog.godebug = Option.none := by kernel_rfl
theorem laidOut : laidOutB Try.prog = true := by kernel_rfl
set_option maxRecDepth 100000 in
theorem lifted (os : Os) (started : os.Started) (H : Type) (enc : TypeId × Value → H) :
    ReturnsInHanded {} Try.checked os 11 .any (Rows.deslipFramesSpec.pre6 enc Try.prog Try.f11 Rows.deslipFramesRow.domain false) (Rows.deslipFramesSpec.post enc Try.prog Try.f11 false true false false) := by
  refine returnsInHanded_of_change_sized (C := Try.checked) own started (by kernel_rfl) Try.func11
    (ChangeSpec.witness6 (enc := enc) (C := Try.checked) false ⟨#[], #[.slice Option.none 0 0, .slice Option.none 0 0], []⟩ 8 (by kernel_rfl) (by kernel_rfl) (by kernel_rfl) (by kernel_rfl)) ?_
  intro W base args ds gs before hval0 hW hcnd hsz _
  have hval : ∀ (j : Nat) t v, Try.f11.params[j]? = some t → args[j]? = some v → Value.okWide Try.prog W .any base t v := hval0
  have hW' := hW
  obtain ⟨p, q, hA0, hV, rfl, hfz, hnd⟩ := hW
  have hA : DataW.TrodAll enc Try.prog W 0 (fun _ => true) true Try.f11.params.toList args.toList ds p := hA0
  rw [Try.params11] at hA hval
  obtain ⟨v0, vs0, d0, ds0, p0, q0, hargs, rfl, rfl, h0, r0⟩ := trodAll_cons hA
  obtain ⟨v1, vs1, d1, ds1, p1, q1, rfl, rfl, rfl, h1, r1⟩ := trodAll_cons r0
  obtain ⟨rfl, rfl, rfl⟩ := trodAll_nil r1
  obtain rfl : args = #[v0, v1] := by cases args; simp_all
  obtain ⟨rfl, rfl⟩ := trodVars_none hV
  have k0 := h0
  have lt0 : ∀ x ∈ p0, x.block < W.heap.size := by obtain ⟨m, hm⟩ := k0; exact DataW.trod_lt m _ _ _ hm
  obtain ⟨l0, b0, n0⟩ := open_rows Try.underlying44 Try.underlying22 Try.underlying5 (by kernel_rfl) (by kernel_rfl) (hval 0 44 v0 rfl rfl) h0
  have k1 := h1
  have lt1 : ∀ x ∈ p1, x.block < W.heap.size := by obtain ⟨m, hm⟩ := k1; exact DataW.trod_lt m _ _ _ hm
  obtain ⟨l1, b1, n1⟩ := open_bytes Try.underlying22 Try.underlying5 (by kernel_rfl) (hval 1 22 v1 rfl rfl) h1
  clear hA0 hval0 hsz
  refine (walk_DeslipFrames W v0 l0 b0 v1 l1 b1).mono fun e W' ⟨he, bel⟩ => ?_
  subst he
  exact ⟨_, rfl, _, _, _, [], _, [], hW', trodAll_mk1 (shut_bool Try.underlying4 _), (trodAll_cons_mk (Below.trod laidOut (by kernel_rfl) (of_decide_eq_true (by kernel_rfl)) k0 bel lt0) (trodAll_cons_mk (Below.trod laidOut (by kernel_rfl) (of_decide_eq_true (by kernel_rfl)) k1 bel lt1) trodAll_mk0)), rfl, bel.frame _, fun h => by cases h⟩

theorem over : Rows.deslipFramesRow.holds Try.pinned (OpenSpec.ofChange Rows.deslipFramesSpec) :=
  OpenClaim.holds_of_wide 11 Try.f11 rfl rfl rfl rfl rfl rfl rfl ⟨rfl, rfl, rfl, rfl, rfl⟩ rfl rfl rfl rfl rfl (by kernel_rfl) Try.func11 (by kernel_rfl)
    (of_decide_eq_true (by kernel_rfl)) (by unfold Func.isWrapper; first | (rw [if_pos (by decide +kernel)]; kernel_rfl) | (rw [if_neg (by decide +kernel)]; exact ⟨rfl, rfl⟩))
    (fun os started H enc _ => lifted os started H enc)

theorem proved : Rows.DeslipFramesSaid := over
end lawDeslipFrames
end Go.Proofs.Ytdbnjejpejmmjaa
