/- The law OpcodeParses: the request of any bytes, or what is wrong first, is the document's; its bytes are these. -/
import Derived.Test.YtdieaegajahdpaaOpcMath
import Derived.Test.YtdieaegajahdpaaOpc5
namespace Go.Proofs.Ytdieaegajahdpaa
open Go.ChangeShapes Go.WideShapes Go.ChangeAt Go.RowKit
set_option linter.unusedVariables false
set_option linter.unusedSimpArgs false

set_option maxRecDepth 100000 in
set_option maxHeartbeats 8000000 in
theorem walk_OpcodeParses (w : World) (v : Value) (b : List UInt8) (hb : IsBytes w v b) :
    Calls Try.prog 5 #[v] w fun e w' => e = .returned (.bool true) ∧ Below w.heap.size w w' := by
  have huq := Try.underlying46
  have huq2 := Try.underlying49
  have hsq : (Try.prog.info? 46).map (·.size) = some 4 := by kernel_rfl
  have hsq2 : (Try.prog.info? 49).map (·.size) = some 4 := by kernel_rfl
  have Hb := hide hb
  obtain ⟨a, c, rfl, hc, hmx, _, _⟩ := hb
  unfold maxLen at hmx
  by_cases hlen : 300 < b.length
  · go_enter Try.func5, Try.ntmps5
    go_wp2_with fail
    refine (lives16_any _).mono ?_
    rintro e w1 ⟨rfl, hb1⟩
    go_wp2_with fail
    refine (lives16_any _).mono ?_
    rintro e w2 ⟨rfl, hb2⟩
    go_wp2
    go_ret
    exact ⟨rfl, hb1.trans (hb2.mono hb1.size)⟩
  · have hlen2 : b.length ≤ 300 := by omega
    have hu := Try.underlying23
    have hu8 := Try.underlying5
    have hstr := Try.underlying9
    clear hlen
    go_enter Try.func5, Try.ntmps5
    go_wp2_with fail
    refine (lives16_any _).mono ?_
    rintro e w0 ⟨rfl, hb0⟩
    have Hb0 := hide (Hb.out.below hb0)
    have Hown := hide (own_new 5 1 0 [] ((on_all w).below hb0) rfl (by decide))
    have Hs0 := hide (Str.below hb0)
    clear hb0
    go_wp2_with (at_builtin; refine wpList_append_bytes (F := all w) rfl _ _ 23 rfl 5 hu infoR _ [] b rfl Hown.out _ rfl (Hb0.out.below alloc1) (by simp; omega) ?_; intro v wX ho hs; rw [List.nil_append] at ho; have Hc : Hid ((ownR v b * all w).on wX) := hide ho; have HsX := hide ((Hs0.out.alloc _).trans hs); clear ho hs Hb0 Hown Hs0)
    have hP := oparse_any _ b wX (own_bytes Hc.out) (by omega)
    obtain ⟨ca, cc, rfl, hcl, _, _, _⟩ := own_value Hc.out
    have HS := hide (reqGot_size b)
    have HD := hide (reqGot_data b)
    have HE := hide (show reqErr b ≠ 0 → reqGot b = zeroQ from reqGot_err)
    have HEo := hide (show reqErr b = 0 → encOk (reqGot b) = true from encOk_got)
    have HEb := hide (show reqErr b = 0 → encBytes (reqGot b) = b from encBytes_got)
    go_wp2_with fail
    refine hP.mono ?_
    clear hP
    rintro e w1 ⟨iv1, rfl, hiv, hs1⟩
    have h1 := on_all_to hiv Hc.out
    obtain ⟨ia, ic, rfl, _, _, _, _⟩ := own_value hiv
    clear hiv
    have HS1 := hide (HsX.out.trans hs1)
    clear hs1
    have hr1 := heap_alloc_new w1 (.cells zq 46)
    have h2 := (h1.alloc (.cells zq 46)).setRow (reqCells (reqGot b) (.slice ia (reqGot b).data.length ic))
    have hs2 := (HS1.out.alloc (.cells zq 46)).setRow w1.heap.size (reqCells (reqGot b) (.slice ia (reqGot b).data.length ic))
    have hQ := rrparse_any _ b _ (Hb.out.below (all_below h2.right.right.right hs2)) (by omega)
    have H2 := hide h2
    have HS2 := hide hs2
    clear h1 h2 hs2 HS1
    generalize hG : reqGot b = R at *
    have HG := hide hG
    clear hG
    generalize hW2 : (w1.alloc (.cells zq 46)).setRow w1.heap.size (reqCells R (.slice ia R.data.length ic)) = w2 at *
    have HW2 := hide hW2
    clear hW2
    go_wp2_with (refine wpList_store_row rfl _ _ _ rfl w1.heap.size (reqCells R _) rfl rfl _ _ hr1 hsq (zq_size _ _) (req_one _ _ _ _) ?_; rw [HW2.out])
    refine hQ.mono ?_
    clear hQ hr1 HW2
    rintro e w3 ⟨iv2, rfl, hiv2, hs3⟩
    rw [HG.out] at hiv2 ⊢
    have h3 := on_all_to hiv2 H2.out
    obtain ⟨ia2, ic2, rfl, _, _, _, _⟩ := own_value hiv2
    clear hiv2 H2
    have HS3 := hide (HS2.out.trans hs3)
    clear hs3 HS2
    have hr3 := heap_alloc_new w3 (.cells zq 49)
    have h4 := (h3.alloc (.cells zq 49)).setRow (reqCells R (.slice ia2 R.data.length ic2))
    have hs4 := (HS3.out.alloc (.cells zq 49)).setRow w3.heap.size (reqCells R (.slice ia2 R.data.length ic2))
    have h5 : ((ownR (.slice ca b.length cc) b) * ((blk w1.heap.size (.cells (reqCells R (.slice ia R.data.length ic)) 46 (0, 0)) * ownR (.slice ia R.data.length ic) R.data) * ((blk w3.heap.size (.cells (reqCells R (.slice ia2 R.data.length ic2)) 49 (0, 0)) * ownR (.slice ia2 R.data.length ic2) R.data) * all w))).on ((w3.alloc (.cells zq 49)).setRow w3.heap.size (reqCells R (.slice ia2 R.data.length ic2))) := by
      refine (SP.le_of_eq ?_).on h4
      ac_rfl
    generalize hF : (blk w1.heap.size (.cells (reqCells R (.slice ia R.data.length ic)) 46 (0, 0)) * ownR (.slice ia R.data.length ic) R.data) * ((blk w3.heap.size (.cells (reqCells R (.slice ia2 R.data.length ic2)) 49 (0, 0)) * ownR (.slice ia2 R.data.length ic2) R.data) * all w) = F at h5
    have HF := hide hF
    have H5 := hide h5
    have HS5 := hide hs4
    clear h3 h4 h5 hs4 HS3 hF Hc HsX
    generalize hW4 : (w3.alloc (.cells zq 49)).setRow w3.heap.size (reqCells R (.slice ia2 R.data.length ic2)) = w4 at *
    have HW4 := hide hW4
    clear hW4
    generalize hz : reqErr b = z at *
    have Hz := hide hz
    clear hz
    go_wp2_with (refine wpList_store_row rfl _ _ _ rfl w3.heap.size (reqCells R _) rfl rfl _ _ hr3 hsq2 (zq_size _ _) (req_one _ _ _ _) ?_; rw [HW4.out])
    clear hr3 HW4
    go_loopw [34] (fun i wr => ∃ k : Nat, ∃ l : List UInt8, k ≤ b.length ∧ i = .int .i64 k ∧ l.length = b.length ∧ (own 5 1 (.slice ca b.length cc) b.length (vbs l) * F).on wr ∧ Str w wr) (fun i _ => b.length - (intOf i).toNat)
    case atStart => exact ⟨0, b, Nat.zero_le _, rfl, rfl, H5.out, HS5.out⟩
    case round =>
      obtain ⟨k, l, hk, rfl, hl, hw, hstr⟩ := hrel
      by_cases hlt : k < b.length
      · obtain ⟨og, oc, e1, hoc, _⟩ := own_block hw (by omega)
        simp only [Value.slice.injEq] at e1
        obtain ⟨rfl, _, rfl⟩ := e1
        have cb := own_cell hw k _ (vbs_get _ k (by omega))
        have fr := own_free hw k
        have Hst := hide (fun u => own_store hw (j := k) hlt u)
        have Hstr := hide hstr
        have Hl := hide hl
        generalize hq : l[k]'(by omega) = old at *
        have hx := xor_ones 8 old.toNat (UInt8.toNat_lt old)
        have hx2 : bits .xor .u8 (old.toNat : Int) 255 = ((255 - old.toNat : Nat) : Int) := by
          rw [show (255 : Int) = ((255 : Nat) : Int) from rfl, u8_xor_nat _ _ (UInt8.toNat_lt old) (by omega), Nat.xor_comm]
          rw [show (255 : Nat) = 2 ^ 8 - 1 from rfl, hx]
        have Hx2 := hide hx2
        clear hw hstr hl hq hx hx2 hc hcl
        go_wp2_with fail
        exact ⟨⟨k + 1, l.set k (UInt8.ofNat (255 - old.toNat)), by omega, by simp, by rw [List.length_set]; exact Hl.out, by have := Hst.out (vb (UInt8.ofNat (255 - old.toNat))); rw [vbs_set] at this; have e : vb (UInt8.ofNat (255 - old.toNat)) = .int .u8 (bits .xor .u8 (old.toNat : Int) 255) := (by rw [Hx2.out]; simp [vb]; omega); rw [e] at this; exact this, Hstr.out.setCell _ _⟩, by simp [intOf]; omega⟩
      · obtain rfl : k = b.length := by omega
        have exx : (((z : Nat) : Int) != ((z : Nat) : Int)) = false := by simp
        have hw2 : (own 5 1 (.slice ca b.length cc) b.length (vbs l) * ((blk w1.heap.size (.cells (reqCells R (.slice ia R.data.length ic)) 46 (0, 0)) * ownR (.slice ia R.data.length ic) R.data) * ((blk w3.heap.size (.cells (reqCells R (.slice ia2 R.data.length ic2)) 49 (0, 0)) * ownR (.slice ia2 R.data.length ic2) R.data) * all w))).on wr := by rw [HF.out]; exact hw
        have g8 := on_blk_mul hw2.right.left
        have g10 := on_blk_mul hw2.right.right.left
        have i1 := own_bytes (F := blk w1.heap.size (.cells (reqCells R (.slice ia R.data.length ic)) 46 (0, 0))) (by rw [SP.mul_comm]; exact hw2.right.left)
        have i2 := own_bytes (F := blk w3.heap.size (.cells (reqCells R (.slice ia2 R.data.length ic2)) 49 (0, 0))) (by rw [SP.mul_comm]; exact hw2.right.right.left)
        have hB := hide (all_below hw2.right.right.right hstr)
        have hS := lsame_any R _ _ wr i1 i2
        have I1 := hide i1
        have G8 := hide g8
        clear hw hw2 hstr hl i1 i2 H5 HS5 hlt hk
        by_cases hz0 : z = 0
        · have H1 := hide (HEo.out hz0)
          have H2 := hide (HEb.out hz0)
          subst hz0
          go_wp2_with (first
            | (refine wpList_load_row_g rfl _ _ rfl w3.heap.size rfl _ (reqCells R _) _ _ g10 huq2 rfl hsq2 ?_)
            | (refine wpList_load_row_g rfl _ _ rfl w1.heap.size rfl _ (reqCells R _) _ _ g8 huq rfl hsq ?_))
          have hS2 := hS
          clear hS
          refine hS2.mono ?_
          clear hS2
          rintro e w5 ⟨rfl, hb5⟩
          have HB5 := hide (hB.out.trans (hb5.mono hB.out.size))
          have hEn := oencode_any R _ w5 HS.out (I1.out.below hb5) (by have := HD.out; omega)
          have g85 := (hb5.block w1.heap.size (Array.getElem?_eq_some_iff.1 G8.out).1).trans G8.out
          clear hb5 g8 g10
          have hur := huq
          go_wp2_with (refine wpList_load_row rfl _ _ rfl w1.heap.size rfl _ (reqCells R _) _ _ g85 huq rfl hsq ?_)
          refine hEn.mono ?_
          clear hEn
          rintro e w6 ⟨out, rfl, ho, hs6⟩
          rw [H1.out] at ho ⊢
          simp only [if_true] at ho ⊢
          rw [H2.out] at ho
          obtain ⟨oa, oc, rfl, _, _, hol, _⟩ := own_value ho
          have hla := (Hb.out.below (HB5.out.trans ((all_below ho.right hs6).mono HB5.out.size)))
          have HB6 := hide (HB5.out.trans ((all_below ho.right hs6).mono HB5.out.size))
          obtain ⟨_, _, e1, _, _, l1, _⟩ := hla
          simp only [Value.slice.injEq] at e1
          obtain ⟨rfl, _, rfl⟩ := e1
          have k1 := run_string_of (P := Try.prog) (c := c) hu hu8 l1 _ hstr
          have k2 := run_string_of (P := Try.prog) (c := oc) hu hu8 hol _ hstr
          clear hol l1 ho hs6 g85
          go_wp2_with fail
          go_ret
          exact ⟨rfl, HB6.out⟩
        · have hzn : (((z : Nat) : Int) != 0) = true := by simp; omega
          clear hz0
          go_wp2_with (first
            | (refine wpList_load_row_g rfl _ _ rfl w3.heap.size rfl _ (reqCells R _) _ _ g10 huq2 rfl hsq2 ?_)
            | (refine wpList_load_row_g rfl _ _ rfl w1.heap.size rfl _ (reqCells R _) _ _ g8 huq rfl hsq ?_))
          refine hS.mono ?_
          clear hS
          rintro e w5 ⟨rfl, hb5⟩
          have HB5 := hide (hB.out.trans (hb5.mono hB.out.size))
          clear hb5
          go_wp2_with fail
          go_ret
          exact ⟨rfl, HB5.out⟩
namespace lawOpcodeParses
theorem own : ownKnob Try.prog.godebug = Option.none := by kernel_rfl
theorem laidOut : laidOutB Try.prog = true := by kernel_rfl
set_option maxRecDepth 100000 in
theorem lifted (os : Os) (started : os.Started) (H : Type) (enc : TypeId × Value → H) :
    ReturnsInHanded {} Try.checked os 5 .any (Rows.opcodeParsesSpec.pre6 enc Try.prog Try.f5 Rows.opcodeParsesRow.domain false) (Rows.opcodeParsesSpec.post enc Try.prog Try.f5 false true false false) := by
  refine returnsInHanded_of_change_sized (C := Try.checked) own started (by kernel_rfl) Try.func5
    (ChangeSpec.witness6 (enc := enc) (C := Try.checked) false ⟨#[], #[.slice Option.none 0 0], []⟩ 8 (by kernel_rfl) (by kernel_rfl) (by kernel_rfl) (by kernel_rfl)) ?_
  intro W base args ds gs before hval0 hW hcnd hsz _
  have hval : ∀ (j : Nat) t v, Try.f5.params[j]? = some t → args[j]? = some v → Value.okWide Try.prog W .any base t v := hval0
  have hW' := hW
  obtain ⟨p, q, hA0, hV, rfl, hfz, hnd⟩ := hW
  have hA : DataW.TrodAll enc Try.prog W 0 (fun _ => true) true Try.f5.params.toList args.toList ds p := hA0
  rw [Try.params5] at hA hval
  obtain ⟨v0, vs0, d0, ds0, p0, q0, hargs, rfl, rfl, h0, r0⟩ := trodAll_cons hA
  obtain ⟨rfl, rfl, rfl⟩ := trodAll_nil r0
  obtain rfl : args = #[v0] := by cases args; simp_all
  obtain ⟨rfl, rfl⟩ := trodVars_none hV
  have k0 := h0
  have lt0 : ∀ x ∈ p0, x.block < W.heap.size := by obtain ⟨m, hm⟩ := k0; exact DataW.trod_lt m _ _ _ hm
  obtain ⟨l0, b0, n0⟩ := open_bytes Try.underlying23 Try.underlying5 (by kernel_rfl) (hval 0 23 v0 rfl rfl) h0
  clear hA0 hval0 hsz
  refine (walk_OpcodeParses W v0 l0 b0).mono fun e W' ⟨he, bel⟩ => ?_
  subst he
  exact ⟨_, rfl, _, _, _, [], _, [], hW', trodAll_mk1 (shut_bool Try.underlying4 _), (trodAll_cons_mk (Below.trod laidOut (by kernel_rfl) (of_decide_eq_true (by kernel_rfl)) k0 bel lt0) trodAll_mk0), rfl, bel.frame _, fun h => by cases h⟩

theorem over : Rows.opcodeParsesRow.holds Try.pinned (OpenSpec.ofChange Rows.opcodeParsesSpec) :=
  OpenClaim.holds_of_wide 5 Try.f5 rfl rfl rfl rfl rfl rfl rfl ⟨rfl, rfl, rfl, rfl, rfl⟩ rfl rfl rfl rfl rfl (by kernel_rfl) Try.func5 (by kernel_rfl)
    (of_decide_eq_true (by kernel_rfl)) (by unfold Func.isWrapper; first | (rw [if_pos (by decide +kernel)]; kernel_rfl) | (rw [if_neg (by decide +kernel)]; exact ⟨rfl, rfl⟩))
    (fun os started H enc _ => lifted os started H enc)

theorem proved : Rows.OpcodeParsesSaid := over
end lawOpcodeParses
end Go.Proofs.Ytdieaegajahdpaa
