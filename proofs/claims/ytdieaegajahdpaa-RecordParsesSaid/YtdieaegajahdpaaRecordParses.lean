/- The law RecordParses: the record of any bytes, or what is wrong first, is the document's; also with the sum put right. -/
import Derived.Test.YtdieaegajahdpaaRecLives
namespace Go.Proofs.Ytdieaegajahdpaa
open Go.ChangeShapes Go.WideShapes Go.ChangeAt Go.RowKit
set_option linter.unusedVariables false
set_option linter.unusedSimpArgs false

set_option maxRecDepth 100000 in
set_option maxHeartbeats 8000000 in
theorem walk_RecordParses (w : World) (v : Value) (b : List UInt8) (hb : IsBytes w v b) (mend : Bool) :
    Calls Try.prog 4 #[v, .bool mend] w fun e w' => e = .returned (.bool true) ∧ Below w.heap.size w w' := by
  have hur := Try.underlying25
  have hsr : (Try.prog.info? 25).map (·.size) = some 7 := by kernel_rfl
  have hsrr : (Try.prog.info? 33).map (·.size) = some 7 := by kernel_rfl
  have Hb := hide hb
  obtain ⟨a, c, rfl, hc, hmx, _, _⟩ := hb
  unfold maxLen at hmx
  by_cases hlen : 400 < b.length
  · go_enter Try.func4, Try.ntmps4
    go_wp2_with fail
    refine (lives13_any _).mono ?_
    rintro e w1 ⟨rfl, hb1⟩
    go_wp2_with fail
    refine (lives13_any _).mono ?_
    rintro e w2 ⟨rfl, hb2⟩
    go_wp2
    go_ret
    exact ⟨rfl, hb1.trans (hb2.mono hb1.size)⟩
  · have hlen2 : b.length ≤ 400 := by omega
    have hu := Try.underlying23
    clear hlen
    go_enter Try.func4, Try.ntmps4
    go_wp2_with fail
    refine (lives13_any _).mono ?_
    rintro e w0 ⟨rfl, hb0⟩
    have Hb0 := hide (Hb.out.below hb0)
    have Hown := hide (own_new 5 1 0 [] ((on_all w).below hb0) rfl (by decide))
    have Hs0 := hide (Str.below hb0)
    clear hb0
    rcases (show mend = false ∨ (mend = true ∧ b.length ≠ 160) ∨ (mend = true ∧ b.length = 160) by cases mend <;> simp <;> omega) with hq | ⟨hq, hq2⟩ | ⟨hq, hq2⟩
    · subst hq
      go_wp2_with (at_builtin; refine wpList_append_bytes (F := all w) rfl _ _ 23 rfl 5 hu infoR _ [] b rfl Hown.out _ rfl (Hb0.out.below alloc1) (by simp; omega) ?_; intro v wX ho hs; rw [List.nil_append] at ho; have hLc : b.length ≤ 400 := hlen2; generalize hcc : b = lc at ho hLc; have Hc : Hid ((ownR v lc * all w).on wX) := hide ho; have HL := hide hLc; have HsX := hide ((Hs0.out.alloc _).trans hs); clear ho hs hcc hLc Hb0 Hown Hs0)
      have hP := recparse_any _ lc wX (own_bytes Hc.out) (by have := HL.out; omega)
      obtain ⟨ca, cc, rfl, _, _, _, _⟩ := own_value Hc.out
      go_wp2_with fail
      refine hP.mono ?_
      clear hP
      rintro e w1 ⟨iv, rfl, hiv, hs1⟩
      have h1 := on_all_to hiv Hc.out
      obtain ⟨ia, ic, rfl, _, _, _, _⟩ := own_value hiv
      clear hiv
      have HS1 := hide (HsX.out.trans hs1)
      clear hs1
      have hr1 := heap_alloc_new w1 (.cells zc 25)
      have h2 := (h1.alloc (.cells zc 25)).setRow (recCells (recGot lc) (.slice ia (recGot lc).init.length ic))
      have hs2 := (HS1.out.alloc (.cells zc 25)).setRow w1.heap.size (recCells (recGot lc) (.slice ia (recGot lc).init.length ic))
      have hQ := rrecparse_any _ lc _ (own_bytes h2.right.right) (by have := HL.out; omega)
      have H2 := hide h2
      have HS2 := hide hs2
      clear h1 h2 hs2 HS1
      generalize hG : recGot lc = R at *
      have HG := hide hG
      clear hG
      generalize hW2 : (w1.alloc (.cells zc 25)).setRow w1.heap.size (recCells R (.slice ia R.init.length ic)) = w2 at *
      have HW2 := hide hW2
      clear hW2
      go_wp2_with (refine wpList_store_row rfl _ _ _ rfl w1.heap.size (recCells R _) rfl rfl _ _ hr1 hsr (zc_size _ _) (recCells_one _ _ _ _) ?_; rw [HW2.out])
      refine hQ.mono ?_
      clear hQ hr1 HW2
      rintro e w3 ⟨iv2, rfl, hiv2, hs3⟩
      rw [HG.out] at hiv2 ⊢
      have h3 := on_all_to hiv2 H2.out
      obtain ⟨ia2, ic2, rfl, _, _, _, _⟩ := own_value hiv2
      clear hiv2 H2
      have HS3 := hide (HS2.out.trans hs3)
      clear hs3 HS2
      have hr3 := heap_alloc_new w3 (.cells zcr 33)
      have h4 := (h3.alloc (.cells zcr 33)).setRow (refCells R (.slice ia2 R.init.length ic2))
      have hs4 := (HS3.out.alloc (.cells zcr 33)).setRow w3.heap.size (refCells R (.slice ia2 R.init.length ic2))
      have hB4 := hide (all_below h4.right.right.right.right.right hs4)
      have g8 := on_blk_mul h4.right.right
      have g10 := on_blk_mul h4
      have i1 := own_bytes h4.right.right.right
      have i2 := own_bytes h4.right
      have hS := recsame_any R _ _ _ i1 i2
      clear h3 h4 hs4 HS3
      generalize hW4 : (w3.alloc (.cells zcr 33)).setRow w3.heap.size (refCells R (.slice ia2 R.init.length ic2)) = w4 at *
      have HW4 := hide hW4
      clear hW4
      obtain ⟨b0, b1, b2, b3, b4, b5, b6⟩ := rboxCells g10
      have HZ := hide (show recErr lc ≠ 0 → R = zeroS from fun h => by rw [← HG.out]; unfold recGot; rw [if_neg h])
      generalize recErr lc = z at *
      have exx : (((z : Nat) : Int) != ((z : Nat) : Int)) = false := by simp
      by_cases hz : z = 0
      · subst hz
        clear g10 i1 i2 HZ
        go_wp2_with (first
          | (refine wpList_store_row rfl _ _ _ rfl w3.heap.size (refCells R _) rfl rfl _ _ hr3 hsrr (zcr_size _ _) (refCells_one _ _ _ _) ?_; rw [HW4.out])
          | (refine wpList_load_row_g rfl _ _ rfl w1.heap.size rfl _ (recCells R _) _ _ g8 hur rfl hsr ?_))
        refine hS.mono ?_
        clear hS
        rintro e w5 ⟨rfl, hb5⟩
        have HB5 := hide (hB4.out.trans (hb5.mono hB4.out.size))
        clear hb5
        go_wp2_with fail
        go_ret
        exact ⟨rfl, HB5.out⟩
      · have hzn : (((z : Nat) : Int) != 0) = true := by simp; omega
        obtain rfl := HZ.out hz
        have hS2 := recsame_any zeroS _ _ w4 i1 (IsBytes.nil w4)
        rw [zc_eq] at hS2
        clear hS b0 b1 b2 b3 b4 b5 b6 g10 i1 i2 HZ hz
        go_wp2_with (first
          | (refine wpList_store_row rfl _ _ _ rfl w3.heap.size (refCells zeroS _) rfl rfl _ _ hr3 hsrr (zcr_size _ _) (refCells_one _ _ _ _) ?_; rw [HW4.out])
          | (refine wpList_load_row_g rfl _ _ rfl w1.heap.size rfl _ (recCells zeroS _) _ _ g8 hur rfl hsr ?_))
        refine hS2.mono ?_
        clear hS2
        rintro e w5 ⟨rfl, hb5⟩
        have HB5 := hide (hB4.out.trans (hb5.mono hB4.out.size))
        clear hb5
        go_wp2_with fail
        go_ret
        exact ⟨rfl, HB5.out⟩
    · subst hq
      have e160 : (((b.length : Nat) : Int) == 160) = false := by rw [beq_eq_false_iff_ne]; omega
      go_wp2_with (at_builtin; refine wpList_append_bytes (F := all w) rfl _ _ 23 rfl 5 hu infoR _ [] b rfl Hown.out _ rfl (Hb0.out.below alloc1) (by simp; omega) ?_; intro v wX ho hs; rw [List.nil_append] at ho; have hLc : b.length ≤ 400 := hlen2; have e160' : (((b.length : Nat) : Int) == 160) = false := e160; generalize hcc : b = lc at ho hLc e160'; have Hc : Hid ((ownR v lc * all w).on wX) := hide ho; have HL := hide hLc; have HsX := hide ((Hs0.out.alloc _).trans hs); clear ho hs hcc hLc Hb0 Hown Hs0; obtain ⟨ca0, cc0, rfl, _, _, _, _⟩ := own_value Hc.out)
      have hP := recparse_any _ lc wX (own_bytes Hc.out) (by have := HL.out; omega)
      refine hP.mono ?_
      clear hP
      rintro e w1 ⟨iv, rfl, hiv, hs1⟩
      have h1 := on_all_to hiv Hc.out
      obtain ⟨ia, ic, rfl, _, _, _, _⟩ := own_value hiv
      clear hiv
      have HS1 := hide (HsX.out.trans hs1)
      clear hs1
      have hr1 := heap_alloc_new w1 (.cells zc 25)
      have h2 := (h1.alloc (.cells zc 25)).setRow (recCells (recGot lc) (.slice ia (recGot lc).init.length ic))
      have hs2 := (HS1.out.alloc (.cells zc 25)).setRow w1.heap.size (recCells (recGot lc) (.slice ia (recGot lc).init.length ic))
      have hQ := rrecparse_any _ lc _ (own_bytes h2.right.right) (by have := HL.out; omega)
      have H2 := hide h2
      have HS2 := hide hs2
      clear h1 h2 hs2 HS1
      generalize hG : recGot lc = R at *
      have HG := hide hG
      clear hG
      generalize hW2 : (w1.alloc (.cells zc 25)).setRow w1.heap.size (recCells R (.slice ia R.init.length ic)) = w2 at *
      have HW2 := hide hW2
      clear hW2
      go_wp2_with (refine wpList_store_row rfl _ _ _ rfl w1.heap.size (recCells R _) rfl rfl _ _ hr1 hsr (zc_size _ _) (recCells_one _ _ _ _) ?_; rw [HW2.out])
      refine hQ.mono ?_
      clear hQ hr1 HW2
      rintro e w3 ⟨iv2, rfl, hiv2, hs3⟩
      rw [HG.out] at hiv2 ⊢
      have h3 := on_all_to hiv2 H2.out
      obtain ⟨ia2, ic2, rfl, _, _, _, _⟩ := own_value hiv2
      clear hiv2 H2
      have HS3 := hide (HS2.out.trans hs3)
      clear hs3 HS2
      have hr3 := heap_alloc_new w3 (.cells zcr 33)
      have h4 := (h3.alloc (.cells zcr 33)).setRow (refCells R (.slice ia2 R.init.length ic2))
      have hs4 := (HS3.out.alloc (.cells zcr 33)).setRow w3.heap.size (refCells R (.slice ia2 R.init.length ic2))
      have hB4 := hide (all_below h4.right.right.right.right.right hs4)
      have g8 := on_blk_mul h4.right.right
      have g10 := on_blk_mul h4
      have i1 := own_bytes h4.right.right.right
      have i2 := own_bytes h4.right
      have hS := recsame_any R _ _ _ i1 i2
      clear h3 h4 hs4 HS3
      generalize hW4 : (w3.alloc (.cells zcr 33)).setRow w3.heap.size (refCells R (.slice ia2 R.init.length ic2)) = w4 at *
      have HW4 := hide hW4
      clear hW4
      obtain ⟨b0, b1, b2, b3, b4, b5, b6⟩ := rboxCells g10
      have HZ := hide (show recErr lc ≠ 0 → R = zeroS from fun h => by rw [← HG.out]; unfold recGot; rw [if_neg h])
      generalize recErr lc = z at *
      have exx : (((z : Nat) : Int) != ((z : Nat) : Int)) = false := by simp
      by_cases hz : z = 0
      · subst hz
        clear g10 i1 i2 HZ
        go_wp2_with (first
          | (refine wpList_store_row rfl _ _ _ rfl w3.heap.size (refCells R _) rfl rfl _ _ hr3 hsrr (zcr_size _ _) (refCells_one _ _ _ _) ?_; rw [HW4.out])
          | (refine wpList_load_row_g rfl _ _ rfl w1.heap.size rfl _ (recCells R _) _ _ g8 hur rfl hsr ?_))
        refine hS.mono ?_
        clear hS
        rintro e w5 ⟨rfl, hb5⟩
        have HB5 := hide (hB4.out.trans (hb5.mono hB4.out.size))
        clear hb5
        go_wp2_with fail
        go_ret
        exact ⟨rfl, HB5.out⟩
      · have hzn : (((z : Nat) : Int) != 0) = true := by simp; omega
        obtain rfl := HZ.out hz
        have hS2 := recsame_any zeroS _ _ w4 i1 (IsBytes.nil w4)
        rw [zc_eq] at hS2
        clear hS b0 b1 b2 b3 b4 b5 b6 g10 i1 i2 HZ hz
        go_wp2_with (first
          | (refine wpList_store_row rfl _ _ _ rfl w3.heap.size (refCells zeroS _) rfl rfl _ _ hr3 hsrr (zcr_size _ _) (refCells_one _ _ _ _) ?_; rw [HW4.out])
          | (refine wpList_load_row_g rfl _ _ rfl w1.heap.size rfl _ (recCells zeroS _) _ _ g8 hur rfl hsr ?_))
        refine hS2.mono ?_
        clear hS2
        rintro e w5 ⟨rfl, hb5⟩
        have HB5 := hide (hB4.out.trans (hb5.mono hB4.out.size))
        clear hb5
        go_wp2_with fail
        go_ret
        exact ⟨rfl, HB5.out⟩
    · subst hq
      have e160 : (((b.length : Nat) : Int) == 160) = true := by rw [beq_iff_eq]; omega
      have H160 := hide hq2
      clear hq2
      go_wp2_with (at_builtin; refine wpList_append_bytes (F := all w) rfl _ _ 23 rfl 5 hu infoR _ [] b rfl Hown.out _ rfl (Hb0.out.below alloc1) (by simp; omega) ?_; intro v wY ho hs; rw [List.nil_append] at ho; have hL : b.length = 160 := H160.out; have HsY := hide ((Hs0.out.alloc _).trans hs); obtain ⟨og, oc, rfl, hoc, hoc2⟩ := own_block ho (by omega); rw [hL] at ho hoc ⊢; have Ho := hide ho; have HLL := hide hL; clear ho hs hL Hb0 Hown Hs0; have hx156 : (156 : Int) ≤ (oc : Int) := by omega)
      have hsum := rchk_any _ (b.take 156) wY (by have := (own_bytes Ho.out).mid 0 156 (by rw [HLL.out]; decide); simpa using this)
      have hcl := chkN_lt (b.take 156)
      generalize chkN (b.take 156) = n at *
      refine hsum.mono ?_
      clear hsum
      rintro e _ ⟨rfl, rfl⟩
      go_wp2_with fail
      go_loopw [32] (fun i wr => ∃ k : Nat, k ≤ 4 ∧ i = .int .i64 k ∧ (own 5 1 (.slice (some ⟨og, 0, Option.none⟩) 160 oc) 160 (vbs (putL b 156 n k)) * all w).on wr ∧ Str w wr) (fun i _ => 4 - (intOf i).toNat)
      case atStart => exact ⟨0, by omega, rfl, Ho.out, HsY.out⟩
      case round =>
        obtain ⟨k, hk, rfl, hw, hstr⟩ := hrel
        have hpl := putL_len b 156 n k
        by_cases hlt : k < 4
        · have hp : ((n : Int) / 2 ^ (8 * k)) = ((n / 2 ^ (8 * k) : Nat) : Int) := by simp
          have hml : n / 2 ^ (8 * k) ≤ n := Nat.div_le_self _ _
          have hb4 := b4_toNat n k
          have cb := own_cell hw (156 + k) _ (vbs_get _ (156 + k) (by rw [hpl, HLL.out]; omega))
          have fr := own_free hw (156 + k)
          have Hst := hide (own_store hw (j := 156 + k) (by omega) (vb (b4 n k)))
          have Hn := hide (show putL b 156 n (k + 1) = (putL b 156 n k).set (156 + k) (b4 n k) from rfl)
          have Hstr := hide hstr
          rw [vbs_set, ← Hn.out] at Hst
          have hvb : vb (b4 n k) = .int .u8 ((n / 2 ^ (8 * k) % 256 : Nat) : Int) := by simp only [vb, hb4]
          rw [hvb] at Hst
          generalize (putL b 156 n k)[156 + k]'(by rw [hpl, HLL.out]; omega) = old at cb
          clear hw hstr hb4 hvb hpl hsr hsrr hur
          generalize n / 2 ^ (8 * k) = m at *
          go_wp2_with fail
          exact ⟨⟨k + 1, by omega, by simp, Hst.out, Hstr.out.setCell _ _⟩, by simp [intOf]; omega⟩
        · obtain rfl : k = 4 := by omega
          have hLc : (putL b 156 n 4).length = 160 := by rw [hpl, HLL.out]
          generalize putL b 156 n 4 = ld at *
          have hLd : ld.length ≤ 400 := by omega
          have hw2 : (ownR (.slice (some ⟨og, 0, Option.none⟩) 160 oc) ld * all w).on wr := by unfold ownR; rw [hLc]; exact hw
          rw [← hLc] at hw2
          have Hc := hide hw2
          have HL := hide hLd
          have HsX := hide hstr
          have hP := recparse_any _ ld wr (own_bytes Hc.out) (by have := HL.out; omega)
          rw [hLc] at Hc hP
          clear hw hw2 hstr HLL hLd hpl Ho HsY hlt hk
          go_wp2_with fail
          refine hP.mono ?_
          clear hP
          rintro e w1 ⟨iv, rfl, hiv, hs1⟩
          have h1 := on_all_to hiv Hc.out
          obtain ⟨ia, ic, rfl, _, _, _, _⟩ := own_value hiv
          clear hiv
          have HS1 := hide (HsX.out.trans hs1)
          clear hs1
          have hr1 := heap_alloc_new w1 (.cells zc 25)
          have h2 := (h1.alloc (.cells zc 25)).setRow (recCells (recGot ld) (.slice ia (recGot ld).init.length ic))
          have hs2 := (HS1.out.alloc (.cells zc 25)).setRow w1.heap.size (recCells (recGot ld) (.slice ia (recGot ld).init.length ic))
          have hQ := rrecparse_any _ ld _ (own_bytes h2.right.right) (by have := HL.out; omega)
          have H2 := hide h2
          have HS2 := hide hs2
          clear h1 h2 hs2 HS1
          generalize hG : recGot ld = R at *
          have HG := hide hG
          clear hG
          generalize hW2 : (w1.alloc (.cells zc 25)).setRow w1.heap.size (recCells R (.slice ia R.init.length ic)) = w2 at *
          have HW2 := hide hW2
          clear hW2
          go_wp2_with (refine wpList_store_row rfl _ _ _ rfl w1.heap.size (recCells R _) rfl rfl _ _ hr1 hsr (zc_size _ _) (recCells_one _ _ _ _) ?_; rw [HW2.out])
          refine hQ.mono ?_
          clear hQ hr1 HW2
          rintro e w3 ⟨iv2, rfl, hiv2, hs3⟩
          rw [HG.out] at hiv2 ⊢
          have h3 := on_all_to hiv2 H2.out
          obtain ⟨ia2, ic2, rfl, _, _, _, _⟩ := own_value hiv2
          clear hiv2 H2
          have HS3 := hide (HS2.out.trans hs3)
          clear hs3 HS2
          have hr3 := heap_alloc_new w3 (.cells zcr 33)
          have h4 := (h3.alloc (.cells zcr 33)).setRow (refCells R (.slice ia2 R.init.length ic2))
          have hs4 := (HS3.out.alloc (.cells zcr 33)).setRow w3.heap.size (refCells R (.slice ia2 R.init.length ic2))
          have hB4 := hide (all_below h4.right.right.right.right.right hs4)
          have g8 := on_blk_mul h4.right.right
          have g10 := on_blk_mul h4
          have i1 := own_bytes h4.right.right.right
          have i2 := own_bytes h4.right
          have hS := recsame_any R _ _ _ i1 i2
          clear h3 h4 hs4 HS3
          generalize hW4 : (w3.alloc (.cells zcr 33)).setRow w3.heap.size (refCells R (.slice ia2 R.init.length ic2)) = w4 at *
          have HW4 := hide hW4
          clear hW4
          obtain ⟨b0, b1, b2, b3, b4, b5, b6⟩ := rboxCells g10
          have HZ := hide (show recErr ld ≠ 0 → R = zeroS from fun h => by rw [← HG.out]; unfold recGot; rw [if_neg h])
          generalize recErr ld = z at *
          have exx : (((z : Nat) : Int) != ((z : Nat) : Int)) = false := by simp
          by_cases hz : z = 0
          · subst hz
            clear g10 i1 i2 HZ
            go_wp2_with (first
              | (refine wpList_store_row rfl _ _ _ rfl w3.heap.size (refCells R _) rfl rfl _ _ hr3 hsrr (zcr_size _ _) (refCells_one _ _ _ _) ?_; rw [HW4.out])
              | (refine wpList_load_row_g rfl _ _ rfl w1.heap.size rfl _ (recCells R _) _ _ g8 hur rfl hsr ?_))
            refine hS.mono ?_
            clear hS
            rintro e w5 ⟨rfl, hb5⟩
            have HB5 := hide (hB4.out.trans (hb5.mono hB4.out.size))
            clear hb5
            go_wp2_with fail
            go_ret
            exact ⟨rfl, HB5.out⟩
          · have hzn : (((z : Nat) : Int) != 0) = true := by simp; omega
            obtain rfl := HZ.out hz
            have hS2 := recsame_any zeroS _ _ w4 i1 (IsBytes.nil w4)
            rw [zc_eq] at hS2
            clear hS b0 b1 b2 b3 b4 b5 b6 g10 i1 i2 HZ hz
            go_wp2_with (first
              | (refine wpList_store_row rfl _ _ _ rfl w3.heap.size (refCells zeroS _) rfl rfl _ _ hr3 hsrr (zcr_size _ _) (refCells_one _ _ _ _) ?_; rw [HW4.out])
              | (refine wpList_load_row_g rfl _ _ rfl w1.heap.size rfl _ (recCells zeroS _) _ _ g8 hur rfl hsr ?_))
            refine hS2.mono ?_
            clear hS2
            rintro e w5 ⟨rfl, hb5⟩
            have HB5 := hide (hB4.out.trans (hb5.mono hB4.out.size))
            clear hb5
            go_wp2_with fail
            go_ret
            exact ⟨rfl, HB5.out⟩
namespace lawRecordParses
theorem own : ownKnob Try.prog.godebug = Option.none := by kernel_rfl
theorem laidOut : laidOutB Try.prog = true := by kernel_rfl
set_option maxRecDepth 100000 in
theorem lifted (os : Os) (started : os.Started) (H : Type) (enc : TypeId × Value → H) :
    ReturnsInHanded {} Try.checked os 4 .any (Rows.recordParsesSpec.pre6 enc Try.prog Try.f4 Rows.recordParsesRow.domain false) (Rows.recordParsesSpec.post enc Try.prog Try.f4 false true false false) := by
  refine returnsInHanded_of_change_sized (C := Try.checked) own started (by kernel_rfl) Try.func4
    (ChangeSpec.witness6 (enc := enc) (C := Try.checked) false ⟨#[], #[.slice Option.none 0 0, .bool false], []⟩ 8 (by kernel_rfl) (by kernel_rfl) (by kernel_rfl) (by kernel_rfl)) ?_
  intro W base args ds gs before hval0 hW hcnd hsz _
  have hval : ∀ (j : Nat) t v, Try.f4.params[j]? = some t → args[j]? = some v → Value.okWide Try.prog W .any base t v := hval0
  have hW' := hW
  obtain ⟨p, q, hA0, hV, rfl, hfz, hnd⟩ := hW
  have hA : DataW.TrodAll enc Try.prog W 0 (fun _ => true) true Try.f4.params.toList args.toList ds p := hA0
  rw [Try.params4] at hA hval
  obtain ⟨v0, vs0, d0, ds0, p0, q0, hargs, rfl, rfl, h0, r0⟩ := trodAll_cons hA
  obtain ⟨v1, vs1, d1, ds1, p1, q1, rfl, rfl, rfl, h1, r1⟩ := trodAll_cons r0
  obtain ⟨rfl, rfl, rfl⟩ := trodAll_nil r1
  obtain rfl : args = #[v0, v1] := by cases args; simp_all
  obtain ⟨rfl, rfl⟩ := trodVars_none hV
  have k0 := h0
  have lt0 : ∀ x ∈ p0, x.block < W.heap.size := by obtain ⟨m, hm⟩ := k0; exact DataW.trod_lt m _ _ _ hm
  obtain ⟨l0, b0, n0⟩ := open_bytes Try.underlying23 Try.underlying5 (by kernel_rfl) (hval 0 23 v0 rfl rfl) h0
  have k1 := h1
  have lt1 : ∀ x ∈ p1, x.block < W.heap.size := by obtain ⟨m, hm⟩ := k1; exact DataW.trod_lt m _ _ _ hm
  obtain ⟨a1, rfl, rfl, rfl⟩ := open_bool Try.underlying4 (hval 1 4 v1 rfl rfl) h1
  clear hA0 hval0 hsz
  refine (walk_RecordParses W v0 l0 b0 a1).mono fun e W' ⟨he, bel⟩ => ?_
  subst he
  exact ⟨_, rfl, _, _, _, [], _, [], hW', trodAll_mk1 (shut_bool Try.underlying4 _), (trodAll_cons_mk (Below.trod laidOut (by kernel_rfl) (of_decide_eq_true (by kernel_rfl)) k0 bel lt0) (trodAll_cons_mk (shut_bool Try.underlying4 _) trodAll_mk0)), rfl, bel.frame _, fun h => by cases h⟩

theorem over : Rows.recordParsesRow.holds Try.pinned (OpenSpec.ofChange Rows.recordParsesSpec) :=
  OpenClaim.holds_of_wide 4 Try.f4 rfl rfl rfl rfl rfl rfl rfl ⟨rfl, rfl, rfl, rfl, rfl⟩ rfl rfl rfl rfl rfl (by kernel_rfl) Try.func4 (by kernel_rfl)
    (of_decide_eq_true (by kernel_rfl)) (by unfold Func.isWrapper; first | (rw [if_pos (by decide +kernel)]; kernel_rfl) | (rw [if_neg (by decide +kernel)]; exact ⟨rfl, rfl⟩))
    (fun os started H enc _ => lifted os started H enc)

theorem proved : Rows.RecordParsesSaid := over
end lawRecordParses
end Go.Proofs.Ytdieaegajahdpaa
