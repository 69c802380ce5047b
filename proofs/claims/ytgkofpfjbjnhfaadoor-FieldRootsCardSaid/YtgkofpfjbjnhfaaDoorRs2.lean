/- the document's scalar: a number less another one. -/
import Derived.Test.YtgkofpfjbjnhfaaDoorRs1
import Derived.Test.YtgkofpfjbjnhfaaDoorFreeG
namespace Go.Proofs.YtgkofpfjbjnhfaaDoor
open Go.ChangeShapes Go.WideShapes Go.ChangeAt Go.RowKit
set_option linter.unusedVariables false
set_option linter.unusedSimpArgs false

theorem mid_get {α : Type} (s z : List α) (k : Nat) (hs : k ≤ s.length) : (s.take k ++ z.drop k)[k]? = z[k]? := by
  have hl : (s.take k).length = k := by rw [List.length_take]; omega
  rw [List.getElem?_append_right (by omega), hl, Nat.sub_self, List.getElem?_drop, Nat.add_zero]
set_option maxRecDepth 100000 in
set_option maxHeartbeats 8000000 in
theorem less_any (a b : Nat) (ha : a < 18446744073709551616 ^ 4) (hb : b ≤ a) (w : World) :
    Calls Tryd.prog 69 #[.agg (q4 a), .agg (q4 b)] w fun e w' => e = .returned (.agg (q4 (a - b))) ∧ Below w.heap.size w w' := by
  have hu := Tryd.underlying23
  have hu6 := Tryd.underlying22
  have hz : ∀ w, (zeroValue 23).run Tryd.prog w = .ok (.agg (q4 0)) w := fun w => by rw [qz4]; kernel_rfl
  have HsR : Hid ((Tryd.prog.info? 23).map (·.size) = some (q4 (a - b)).size) := hide (by rw [q4_size]; kernel_rfl)
  have h0 := (((on_all w).alloc (.cells (q4 a) 23)).alloc (.cells (q4 b) 23)).alloc (.cells (q4 0) 23)
  have hs0 := (((Str.refl w).alloc (.cells (q4 a) 23)).alloc (.cells (q4 b) 23)).alloc (.cells (q4 0) 23)
  simp only [World.size_alloc] at h0
  have H0 := hide h0
  have HS0 := hide hs0
  have hb4 : b < 18446744073709551616 ^ 4 := by omega
  obtain ⟨S, hS⟩ : ∃ S, S = a + 18446744073709551616 ^ 4 - b := ⟨_, rfl⟩
  have HSub := hide (fun k hk => sub_limb a b ha hb4 k hk)
  have Hend := hide (show q4 S = q4 (a - b) by rw [hS]; exact congrArg lvs (q4_sub a b ha hb))
  rw [← hS] at HSub
  clear h0 hs0 ha hb hb4 hS
  generalize hA : q4 a = A4 at *
  generalize hB : q4 b = B4 at *
  generalize hZ : q4 0 = Z4 at *
  have HA := hide hA
  have HB := hide hB
  have HZ := hide hZ
  clear hA hB hZ
  go_enter Tryd.func69, Tryd.ntmps69
  go_wp2_with fail
  generalize ((w.alloc (.cells A4 23)).alloc (.cells B4 23)).alloc (.cells Z4 23) = w1 at *
  go_loopw [5, 6] (fun bv i wr => ∃ k : Nat, k ≤ 4 ∧ i = .int .i64 k ∧ bv = lv (br a b k) ∧ (blk w.heap.size (.cells (lvs ((qs 4 S).take k ++ (qs 4 a).drop k)) 23 (0, 0)) * (blk (w.heap.size + 1) (.cells B4 23 (0, 0)) * (blk (w.heap.size + 1 + 1) (.cells Z4 23 (0, 0)) * all w))).on wr ∧ Str w wr) (fun _ i _ => 4 - (intOf i).toNat)
  case atStart =>
    refine ⟨0, by omega, rfl, by simp [br, Nat.mod_one], ?_, HS0.out⟩
    rw [List.take_zero, List.drop_zero, List.nil_append, show lvs (qs 4 a) = q4 a from rfl, HA.out]
    have := H0.out
    have e : ∀ P Q R T : SP, P * (Q * (R * T)) = R * (Q * (P * T)) := fun P Q R T => by ac_rfl
    rw [e] at this
    exact this
  case round =>
    obtain ⟨k, hk, rfl, rfl, hX, hS2⟩ := hrel
    have HXk := hide hX
    have HSk := hide hS2
    clear hX hS2 H0 HS0
    by_cases hlt : k < 4
    · have hstep := br_step a b k
      have hsub := HSub.out k hlt
      have Hset := hide (set_takeN (qs 4 S) (qs 4 a) k (limb S k) (qs_get 4 S k hlt) (by rw [qs_len]; exact hlt))
      have hget := mid_get (qs 4 S) (qs 4 a) k (by rw [qs_len]; exact hk)
      rw [qs_get 4 a k hlt] at hget
      have HcB : Hid (∀ X, (blk (w.heap.size + 1) (.cells B4 23 (0, 0)) * (blk (w.heap.size + 1 + 1) (.cells Z4 23 (0, 0)) * all w)).on X → X.cell? ⟨w.heap.size + 1, k, Option.none⟩ = some (lv (limb b k))) := hide fun X hX => by rw [cell_of_row X (w.heap.size + 1) k B4 _ _ (on_blk_mul hX), ← HB.out]; exact lvs_get _ k (limb b k) (qs_get 4 b k hlt)
      have hpl : ((qs 4 S).take k ++ (qs 4 a).drop k).length = 4 := by rw [List.length_append, List.length_take, List.length_drop, qs_len, qs_len]; omega
      obtain ⟨pl, hpl2⟩ : ∃ pl, pl = (qs 4 S).take k ++ (qs 4 a).drop k := ⟨_, rfl⟩
      rw [← hpl2] at hpl HXk Hset hget
      have HcA : Hid (∀ X, (blk w.heap.size (.cells (lvs pl) 23 (0, 0)) * (blk (w.heap.size + 1) (.cells B4 23 (0, 0)) * (blk (w.heap.size + 1 + 1) (.cells Z4 23 (0, 0)) * all w))).on X → X.cell? ⟨w.heap.size, k, Option.none⟩ = some (lv (limb a k))) := hide fun X hX => by rw [cell_of_row X w.heap.size k _ _ _ (on_blk_mul hX)]; exact lvs_get _ k (limb a k) hget
      have l1 := limb_lt a k
      have l2 := limb_lt b k
      have l3 := limb_lt S k
      have l4 := br_le a b k
      have l5 := br_le a b (k + 1)
      have Hstep := hide hstep
      have Hsub := hide hsub
      clear hstep hsub hpl2 hget HSub
      generalize limb a k = x at *
      generalize limb b k = y at *
      generalize br a b k = bb at *
      generalize hbb2 : br a b (k + 1) = bb2 at *
      have Hbb2 := hide hbb2
      clear hbb2
      generalize limb S k = dk at *
      obtain ⟨d1, hd1⟩ : ∃ d1, d1 = (x + 18446744073709551616 - y) % 18446744073709551616 := ⟨_, rfl⟩
      have q1 : IntKind.u64.wrap ((x : Int) - (y : Int)) = (d1 : Int) := by rw [IntKind.wrap_u64, hd1]; omega
      have q2 : IntKind.u64.wrap ((d1 : Int) - (bb : Int)) = (dk : Int) := by rw [IntKind.wrap_u64, Hsub.out, hd1]; omega
      have Q1 := hide q1
      have Q2 := hide q2
      clear q1 q2 hd1
      have hk4 : (k : Int) < 4 := by omega
      go_wp2_with fail
      refine wp_region_vs [isV (.int .i64 (k : Int)), isV (.pointer (some ⟨w.heap.size, k, Option.none⟩)), isV (lv x), isV (.int .i64 (k : Int)), isV (.pointer (some ⟨w.heap.size + 1, k, Option.none⟩)), isV (lv y), isV (lv d1), isV (lv bb), isV (lv dk), isV (lv dk)]
        (by kernel_rfl) (by kernel_rfl) rfl ?keep ?todo ?rest
      case keep => exact ⟨Keep.isV _, Keep.isV _, Keep.isV _, Keep.isV _, Keep.isV _, Keep.isV _, Keep.isV _, Keep.isV _, Keep.isV _, Keep.isV _, trivial⟩
      case todo =>
        refine ⟨?_, ?_, ?_, ?_, ?_, ?_, ?_, ?_, ?_, ?_, trivial⟩
        · intro ev X hT hb hk hf
          have e0 : ev (.tmp 6) = .int .i64 (k : Int) := hk.1
          exact OpOk.move rfl e0 ⟨rfl, Stay.refl _⟩
        · intro ev X hT hb hk hf
          have e0 : ev (.tmp 2) = .pointer (some ⟨w.heap.size, 0, Option.none⟩) := hk.1
          have e1 : ev (.tmp 13) = .int .i64 (k : Int) := hf.1
          exact OpOk.run (v := .pointer (some ⟨w.heap.size, k, Option.none⟩)) (W' := X) (by simp [execOp, e0, e1, hb.1, hk4, go_sem]; try (intro h; omega)) ⟨rfl, Stay.refl _⟩
        · intro ev X hT hb hk hf
          have e0 : ev (.tmp 14) = .pointer (some ⟨w.heap.size, k, Option.none⟩) := hf.1
          have cW := HcA.out X (HXk.out.below hT)
          exact OpOk.run (v := lv x) (W' := X) (by simp [execOp, e0, cW, go_sem]) ⟨rfl, Stay.refl _⟩
        · intro ev X hT hb hk hf
          have e0 : ev (.tmp 6) = .int .i64 (k : Int) := hk.1
          exact OpOk.move rfl e0 ⟨rfl, Stay.refl _⟩
        · intro ev X hT hb hk hf
          have e0 : ev (.tmp 3) = .pointer (some ⟨w.heap.size + 1, 0, Option.none⟩) := hk.1
          have e1 : ev (.tmp 16) = .int .i64 (k : Int) := hf.1
          exact OpOk.run (v := .pointer (some ⟨w.heap.size + 1, k, Option.none⟩)) (W' := X) (by simp [execOp, e0, e1, hb.1, hk4, go_sem]; try (intro h; omega)) ⟨rfl, Stay.refl _⟩
        · intro ev X hT hb hk hf
          have e0 : ev (.tmp 17) = .pointer (some ⟨w.heap.size + 1, k, Option.none⟩) := hf.1
          have cW := HcB.out X (HXk.out.below hT).right
          exact OpOk.run (v := lv y) (W' := X) (by simp [execOp, e0, cW, go_sem]) ⟨rfl, Stay.refl _⟩
        · intro ev X hT hb hk hf
          have e0 : ev (.tmp 15) = lv x := hf.1
          have e1 : ev (.tmp 18) = lv y := hf.2.1
          exact OpOk.run (v := lv d1) (W' := X) (by have h9 := Q1.out; simp [execOp, e0, e1, h9, go_sem]) ⟨rfl, Stay.refl _⟩
        · intro ev X hT hb hk hf
          have e0 : ev (.tmp 5) = lv bb := hk.1
          exact OpOk.move rfl e0 ⟨rfl, Stay.refl _⟩
        · intro ev X hT hb hk hf
          have e0 : ev (.tmp 19) = lv d1 := hf.1
          have e1 : ev (.tmp 20) = lv bb := hf.2.1
          exact OpOk.run (v := lv dk) (W' := X) (by have h9 := Q2.out; simp [execOp, e0, e1, h9, go_sem]) ⟨rfl, Stay.refl _⟩
        · intro ev X hT hb hk hf
          have e0 : ev (.tmp 21) = lv dk := hf.1
          exact OpOk.assign rfl e0 ⟨rfl, Stay.refl _⟩
      case rest =>
        intro X hT
        rintro _ - _ - _ - _ - _ - _ - _ - _ - _ - _ rfl
        have HX2 := hide (HXk.out.below hT)
        have HS2 := hide (HSk.out.trans (Str.below hT))
        clear hT HXk HSk
        go_wp2
        refine Rest.done ?_
        go_wp2_with fail
        have Hfin : Hid (∀ X : World, (blk w.heap.size (.cells (lvs pl) 23 (0, 0)) * (blk (w.heap.size + 1) (.cells B4 23 (0, 0)) * (blk (w.heap.size + 1 + 1) (.cells Z4 23 (0, 0)) * all w))).on X → (X.cell? ⟨w.heap.size, k, Option.none⟩ = some (lv x)) ∧ (blk w.heap.size (.cells (lvs ((qs 4 S).take (k + 1) ++ (qs 4 a).drop (k + 1))) 23 (0, 0)) * (blk (w.heap.size + 1) (.cells B4 23 (0, 0)) * (blk (w.heap.size + 1 + 1) (.cells Z4 23 (0, 0)) * all w))).on (X.setCell ⟨w.heap.size, k, Option.none⟩ (lv dk))) := hide fun X hX => ⟨HcA.out X hX, by
          have h3 := SP.on.setCell (i := k) hX (lv dk)
          rw [lvs_set, Hset.out] at h3
          exact h3⟩
        by_cases c1 : x < y
        · have c1' : (x : Int) < (y : Int) := by omega
          have HN := hide (show bb2 = 1 by have := Hstep.out; rw [if_pos (by omega)] at this; exact this)
          clear c1
          refine wp_region_vsg [isV (.int .i64 (k : Int)), isV (.pointer (some ⟨w.heap.size, k, Option.none⟩)), isV (lv x), isV (.int .i64 (k : Int)), isV (.pointer (some ⟨w.heap.size + 1, k, Option.none⟩)), isV (lv y), isV (.bool true), isV (.bool true), isV (undef), isV (undef), isV (undef), isV (undef), isV (undef), isV (undef), isV (undef), isV (undef), isV (undef), isV (undef), isV (undef), isV (.bool true), isV (.bool true)]
            (by kernel_rfl) (by kernel_rfl) rfl ?keep ?todo ?rest
          case keep => exact ⟨Keep.isV _, Keep.isV _, Keep.isV _, Keep.isV _, Keep.isV _, Keep.isV _, Keep.isV _, Keep.isV _, Keep.isV _, Keep.isV _, Keep.isV _, Keep.isV _, Keep.isV _, Keep.isV _, Keep.isV _, Keep.isV _, Keep.isV _, Keep.isV _, Keep.isV _, Keep.isV _, Keep.isV _, trivial⟩
          case todo =>
            refine ⟨?_, ?_, ?_, ?_, ?_, ?_, ?_, ?_, ?_, ?_, ?_, ?_, ?_, ?_, ?_, ?_, ?_, ?_, ?_, ?_, ?_, trivial⟩
            · intro ev X hT hb hk hf
              have e0 : ev (.tmp 6) = .int .i64 (k : Int) := hk.1
              exact OpOk.move rfl e0 ⟨rfl, Stay.refl _⟩
            · intro ev X hT hb hk hf
              have e0 : ev (.tmp 2) = .pointer (some ⟨w.heap.size, 0, Option.none⟩) := hk.1
              have e1 : ev (.tmp 22) = .int .i64 (k : Int) := hf.1
              exact OpOk.run (v := .pointer (some ⟨w.heap.size, k, Option.none⟩)) (W' := X) (by simp [execOp, e0, e1, hb.1, hk4, go_sem]; try (intro h; omega)) ⟨rfl, Stay.refl _⟩
            · intro ev X hT hb hk hf
              have e0 : ev (.tmp 23) = .pointer (some ⟨w.heap.size, k, Option.none⟩) := hf.1
              have cW := HcA.out X (HX2.out.below hT)
              exact OpOk.run (v := lv x) (W' := X) (by simp [execOp, e0, cW, go_sem]) ⟨rfl, Stay.refl _⟩
            · intro ev X hT hb hk hf
              have e0 : ev (.tmp 6) = .int .i64 (k : Int) := hk.1
              exact OpOk.move rfl e0 ⟨rfl, Stay.refl _⟩
            · intro ev X hT hb hk hf
              have e0 : ev (.tmp 3) = .pointer (some ⟨w.heap.size + 1, 0, Option.none⟩) := hk.1
              have e1 : ev (.tmp 25) = .int .i64 (k : Int) := hf.1
              exact OpOk.run (v := .pointer (some ⟨w.heap.size + 1, k, Option.none⟩)) (W' := X) (by simp [execOp, e0, e1, hb.1, hk4, go_sem]; try (intro h; omega)) ⟨rfl, Stay.refl _⟩
            · intro ev X hT hb hk hf
              have e0 : ev (.tmp 26) = .pointer (some ⟨w.heap.size + 1, k, Option.none⟩) := hf.1
              have cW := HcB.out X (HX2.out.below hT).right
              exact OpOk.run (v := lv y) (W' := X) (by simp [execOp, e0, cW, go_sem]) ⟨rfl, Stay.refl _⟩
            · intro ev X hT hb hk hf
              have e0 : ev (.tmp 24) = lv x := hf.1
              have e1 : ev (.tmp 27) = lv y := hf.2.1
              exact OpOk.run (v := .bool true) (W' := X) (by simp [execOp, e0, e1, c1', go_sem]) ⟨rfl, Stay.refl _⟩
            · intro ev X hT hb hk hf
              have e0 : ev (.tmp 28) = .bool true := hf.1
              exact OpOk.move rfl e0 ⟨rfl, Stay.refl _⟩
            · exact fun ev X hT hb hk hf => .inl ⟨true, hf.1, fun h => (nomatch h), fun _ => rfl⟩
            · exact fun ev X hT hb hk hf => .inl ⟨true, hf.2.1, fun h => (nomatch h), fun _ => rfl⟩
            · exact fun ev X hT hb hk hf => .inl ⟨true, hf.2.1, fun h => (nomatch h), fun _ => rfl⟩
            · exact fun ev X hT hb hk hf => .inl ⟨true, hf.1, fun h => (nomatch h), fun _ => rfl⟩
            · exact fun ev X hT hb hk hf => .inl ⟨true, hf.2.1, fun h => (nomatch h), fun _ => rfl⟩
            · exact fun ev X hT hb hk hf => .inl ⟨true, hf.2.1, fun h => (nomatch h), fun _ => rfl⟩
            · exact fun ev X hT hb hk hf => .inl ⟨true, hf.2.2.1, fun h => (nomatch h), fun _ => rfl⟩
            · exact fun ev X hT hb hk hf => .inl ⟨true, hf.2.1, fun h => (nomatch h), fun _ => rfl⟩
            · exact fun ev X hT hb hk hf => .inr ⟨hf.1, rfl⟩
            · exact fun ev X hT hb hk hf => .inr ⟨hf.2.1, rfl⟩
            · exact fun ev X hT hb hk hf => .inl ⟨true, hf.2.2.1, fun h => (nomatch h), fun _ => rfl⟩
            · intro ev X hT hb hk hf
              have e0 : ev (.tmp 29) = .bool true := hf.1
              have e1 : ev (.tmp 40) = undef := hf.2.1
              exact OpOk.run (v := .bool true) (W' := X) (by simp [execOp, e0, e1, hb, hb.1, hb.2.1, hb.2.2, go_sem]) ⟨rfl, Stay.refl _⟩
            · intro ev X hT hb hk hf
              have e0 : ev (.tmp 41) = .bool true := hf.1
              exact OpOk.assign rfl e0 ⟨rfl, Stay.refl _⟩
          case rest =>
            intro X2 hT2
            rintro _ - _ - _ - _ - _ - _ - _ - _ - _ - _ - _ - _ - _ - _ - _ - _ - _ - _ - _ - _ - _ rfl
            have HX3 := hide (HX2.out.below hT2)
            have HS3 := hide (HS2.out.trans (Str.below hT2))
            have hc := (Hfin.out X2 HX3.out).1
            have HF := hide (Hfin.out X2 HX3.out).2
            have hfr := frozen_of_row X2 w.heap.size k _ _ (on_blk_mul HX3.out)
            clear hT2
            go_wp2
            refine Rest.done ?_
            go_wp2_with fail
            exact ⟨⟨k + 1, by omega, by simp, by rw [Hbb2.out, HN.out]; rfl, HF.out, HS3.out.setCell _ _⟩, by simp [intOf]; omega⟩
        · have c1' : ¬ (x : Int) < (y : Int) := by omega
          by_cases c2 : x = y
          · have c2' : (x : Int) = (y : Int) := by omega
            by_cases c3 : bb = 1
            · have c3' : (bb : Int) = 1 := by omega
              have HN := hide (show bb2 = 1 by have := Hstep.out; rw [if_pos (by omega)] at this; exact this)
              have C2 := hide c2'
              have C3 := hide c3'
              clear c2 c3 c2' c3' c1
              refine wp_region_vsg [isV (.int .i64 (k : Int)), isV (.pointer (some ⟨w.heap.size, k, Option.none⟩)), isV (lv x), isV (.int .i64 (k : Int)), isV (.pointer (some ⟨w.heap.size + 1, k, Option.none⟩)), isV (lv y), isV (.bool false), isV (.bool false), isV (.int .i64 (k : Int)), isV (.pointer (some ⟨w.heap.size, k, Option.none⟩)), isV (lv x), isV (.int .i64 (k : Int)), isV (.pointer (some ⟨w.heap.size + 1, k, Option.none⟩)), isV (lv y), isV (.bool true), isV (.bool true), isV (lv bb), isV (.bool true), isV (.bool true), isV (.bool true), isV (.bool true)]
                (by kernel_rfl) (by kernel_rfl) rfl ?keep ?todo ?rest
              case keep => exact ⟨Keep.isV _, Keep.isV _, Keep.isV _, Keep.isV _, Keep.isV _, Keep.isV _, Keep.isV _, Keep.isV _, Keep.isV _, Keep.isV _, Keep.isV _, Keep.isV _, Keep.isV _, Keep.isV _, Keep.isV _, Keep.isV _, Keep.isV _, Keep.isV _, Keep.isV _, Keep.isV _, Keep.isV _, trivial⟩
              case todo =>
                refine ⟨?_, ?_, ?_, ?_, ?_, ?_, ?_, ?_, ?_, ?_, ?_, ?_, ?_, ?_, ?_, ?_, ?_, ?_, ?_, ?_, ?_, trivial⟩
                · intro ev X hT hb hk hf
                  have e0 : ev (.tmp 6) = .int .i64 (k : Int) := hk.1
                  exact OpOk.move rfl e0 ⟨rfl, Stay.refl _⟩
                · intro ev X hT hb hk hf
                  have e0 : ev (.tmp 2) = .pointer (some ⟨w.heap.size, 0, Option.none⟩) := hk.1
                  have e1 : ev (.tmp 22) = .int .i64 (k : Int) := hf.1
                  exact OpOk.run (v := .pointer (some ⟨w.heap.size, k, Option.none⟩)) (W' := X) (by simp [execOp, e0, e1, hb.1, hk4, go_sem]; try (intro h; omega)) ⟨rfl, Stay.refl _⟩
                · intro ev X hT hb hk hf
                  have e0 : ev (.tmp 23) = .pointer (some ⟨w.heap.size, k, Option.none⟩) := hf.1
                  have cW := HcA.out X (HX2.out.below hT)
                  exact OpOk.run (v := lv x) (W' := X) (by simp [execOp, e0, cW, go_sem]) ⟨rfl, Stay.refl _⟩
                · intro ev X hT hb hk hf
                  have e0 : ev (.tmp 6) = .int .i64 (k : Int) := hk.1
                  exact OpOk.move rfl e0 ⟨rfl, Stay.refl _⟩
                · intro ev X hT hb hk hf
                  have e0 : ev (.tmp 3) = .pointer (some ⟨w.heap.size + 1, 0, Option.none⟩) := hk.1
                  have e1 : ev (.tmp 25) = .int .i64 (k : Int) := hf.1
                  exact OpOk.run (v := .pointer (some ⟨w.heap.size + 1, k, Option.none⟩)) (W' := X) (by simp [execOp, e0, e1, hb.1, hk4, go_sem]; try (intro h; omega)) ⟨rfl, Stay.refl _⟩
                · intro ev X hT hb hk hf
                  have e0 : ev (.tmp 26) = .pointer (some ⟨w.heap.size + 1, k, Option.none⟩) := hf.1
                  have cW := HcB.out X (HX2.out.below hT).right
                  exact OpOk.run (v := lv y) (W' := X) (by simp [execOp, e0, cW, go_sem]) ⟨rfl, Stay.refl _⟩
                · intro ev X hT hb hk hf
                  have e0 : ev (.tmp 24) = lv x := hf.1
                  have e1 : ev (.tmp 27) = lv y := hf.2.1
                  exact OpOk.run (v := .bool false) (W' := X) (by simp [execOp, e0, e1, c1', go_sem]) ⟨rfl, Stay.refl _⟩
                · intro ev X hT hb hk hf
                  have e0 : ev (.tmp 28) = .bool false := hf.1
                  exact OpOk.move rfl e0 ⟨rfl, Stay.refl _⟩
                · intro ev X hT hb hk hf
                  refine .inl ⟨false, hf.1, fun _ => ?_, fun h => (h rfl).elim⟩
                  have e0 : ev (.tmp 6) = .int .i64 (k : Int) := hk.1
                  exact OpOk.move rfl e0 ⟨rfl, Stay.refl _⟩
                · intro ev X hT hb hk hf
                  refine .inl ⟨false, hf.2.1, fun _ => ?_, fun h => (h rfl).elim⟩
                  have e0 : ev (.tmp 2) = .pointer (some ⟨w.heap.size, 0, Option.none⟩) := hk.1
                  have e1 : ev (.tmp 30) = .int .i64 (k : Int) := hf.1
                  exact OpOk.run (v := .pointer (some ⟨w.heap.size, k, Option.none⟩)) (W' := X) (by simp [execOp, e0, e1, hb.1, hk4, go_sem]; try (intro h; omega)) ⟨rfl, Stay.refl _⟩
                · intro ev X hT hb hk hf
                  refine .inl ⟨false, hf.2.1, fun _ => ?_, fun h => (h rfl).elim⟩
                  have e0 : ev (.tmp 31) = .pointer (some ⟨w.heap.size, k, Option.none⟩) := hf.1
                  have cW := HcA.out X (HX2.out.below hT)
                  exact OpOk.run (v := lv x) (W' := X) (by simp [execOp, e0, cW, go_sem]) ⟨rfl, Stay.refl _⟩
                · intro ev X hT hb hk hf
                  refine .inl ⟨false, hf.1, fun _ => ?_, fun h => (h rfl).elim⟩
                  have e0 : ev (.tmp 6) = .int .i64 (k : Int) := hk.1
                  exact OpOk.move rfl e0 ⟨rfl, Stay.refl _⟩
                · intro ev X hT hb hk hf
                  refine .inl ⟨false, hf.2.1, fun _ => ?_, fun h => (h rfl).elim⟩
                  have e0 : ev (.tmp 3) = .pointer (some ⟨w.heap.size + 1, 0, Option.none⟩) := hk.1
                  have e1 : ev (.tmp 33) = .int .i64 (k : Int) := hf.1
                  exact OpOk.run (v := .pointer (some ⟨w.heap.size + 1, k, Option.none⟩)) (W' := X) (by simp [execOp, e0, e1, hb.1, hk4, go_sem]; try (intro h; omega)) ⟨rfl, Stay.refl _⟩
                · intro ev X hT hb hk hf
                  refine .inl ⟨false, hf.2.1, fun _ => ?_, fun h => (h rfl).elim⟩
                  have e0 : ev (.tmp 34) = .pointer (some ⟨w.heap.size + 1, k, Option.none⟩) := hf.1
                  have cW := HcB.out X (HX2.out.below hT).right
                  exact OpOk.run (v := lv y) (W' := X) (by simp [execOp, e0, cW, go_sem]) ⟨rfl, Stay.refl _⟩
                · intro ev X hT hb hk hf
                  refine .inl ⟨false, hf.2.2.1, fun _ => ?_, fun h => (h rfl).elim⟩
                  have e0 : ev (.tmp 32) = lv x := hf.1
                  have e1 : ev (.tmp 35) = lv y := hf.2.1
                  exact OpOk.run (v := .bool true) (W' := X) (by have h9 := C2.out; simp [execOp, e0, e1, h9, go_sem]) ⟨rfl, Stay.refl _⟩
                · intro ev X hT hb hk hf
                  refine .inl ⟨false, hf.2.1, fun _ => ?_, fun h => (h rfl).elim⟩
                  have e0 : ev (.tmp 36) = .bool true := hf.1
                  exact OpOk.move rfl e0 ⟨rfl, Stay.refl _⟩
                · intro ev X hT hb hk hf
                  refine .inl ⟨true, hf.1, fun _ => ?_, fun h => (h rfl).elim⟩
                  have e0 : ev (.tmp 5) = lv bb := hk.1
                  exact OpOk.move rfl e0 ⟨rfl, Stay.refl _⟩
                · intro ev X hT hb hk hf
                  refine .inl ⟨true, hf.2.1, fun _ => ?_, fun h => (h rfl).elim⟩
                  have e0 : ev (.tmp 38) = lv bb := hf.1
                  exact OpOk.run (v := .bool true) (W' := X) (by have h9 := C3.out; simp [execOp, e0, hb.1, h9, go_sem]) ⟨rfl, Stay.refl _⟩
                · intro ev X hT hb hk hf
                  refine .inl ⟨false, hf.2.2.1, fun _ => ?_, fun h => (h rfl).elim⟩
                  have e0 : ev (.tmp 37) = .bool true := hf.1
                  have e1 : ev (.tmp 39) = .bool true := hf.2.1
                  exact OpOk.run (v := .bool true) (W' := X) (by simp [execOp, e0, e1, hb, hb.1, hb.2.1, hb.2.2, go_sem]) ⟨rfl, Stay.refl _⟩
                · intro ev X hT hb hk hf
                  have e0 : ev (.tmp 29) = .bool false := hf.1
                  have e1 : ev (.tmp 40) = .bool true := hf.2.1
                  exact OpOk.run (v := .bool true) (W' := X) (by simp [execOp, e0, e1, hb, hb.1, hb.2.1, hb.2.2, go_sem]) ⟨rfl, Stay.refl _⟩
                · intro ev X hT hb hk hf
                  have e0 : ev (.tmp 41) = .bool true := hf.1
                  exact OpOk.assign rfl e0 ⟨rfl, Stay.refl _⟩
              case rest =>
                intro X2 hT2
                rintro _ - _ - _ - _ - _ - _ - _ - _ - _ - _ - _ - _ - _ - _ - _ - _ - _ - _ - _ - _ - _ rfl
                have HX3 := hide (HX2.out.below hT2)
                have HS3 := hide (HS2.out.trans (Str.below hT2))
                have hc := (Hfin.out X2 HX3.out).1
                have HF := hide (Hfin.out X2 HX3.out).2
                have hfr := frozen_of_row X2 w.heap.size k _ _ (on_blk_mul HX3.out)
                clear hT2
                go_wp2
                refine Rest.done ?_
                go_wp2_with fail
                exact ⟨⟨k + 1, by omega, by simp, by rw [Hbb2.out, HN.out]; rfl, HF.out, HS3.out.setCell _ _⟩, by simp [intOf]; omega⟩
            · have c3' : ¬ (bb : Int) = 1 := by omega
              have HN := hide (show bb2 = 0 by have := Hstep.out; rw [if_neg (by omega)] at this; exact this)
              have C2 := hide c2'
              clear c2 c3 c2' c1
              refine wp_region_vsg [isV (.int .i64 (k : Int)), isV (.pointer (some ⟨w.heap.size, k, Option.none⟩)), isV (lv x), isV (.int .i64 (k : Int)), isV (.pointer (some ⟨w.heap.size + 1, k, Option.none⟩)), isV (lv y), isV (.bool false), isV (.bool false), isV (.int .i64 (k : Int)), isV (.pointer (some ⟨w.heap.size, k, Option.none⟩)), isV (lv x), isV (.int .i64 (k : Int)), isV (.pointer (some ⟨w.heap.size + 1, k, Option.none⟩)), isV (lv y), isV (.bool true), isV (.bool true), isV (lv bb), isV (.bool false), isV (.bool false), isV (.bool false), isV (.bool false)]
                (by kernel_rfl) (by kernel_rfl) rfl ?keep ?todo ?rest
              case keep => exact ⟨Keep.isV _, Keep.isV _, Keep.isV _, Keep.isV _, Keep.isV _, Keep.isV _, Keep.isV _, Keep.isV _, Keep.isV _, Keep.isV _, Keep.isV _, Keep.isV _, Keep.isV _, Keep.isV _, Keep.isV _, Keep.isV _, Keep.isV _, Keep.isV _, Keep.isV _, Keep.isV _, Keep.isV _, trivial⟩
              case todo =>
                refine ⟨?_, ?_, ?_, ?_, ?_, ?_, ?_, ?_, ?_, ?_, ?_, ?_, ?_, ?_, ?_, ?_, ?_, ?_, ?_, ?_, ?_, trivial⟩
                · intro ev X hT hb hk hf
                  have e0 : ev (.tmp 6) = .int .i64 (k : Int) := hk.1
                  exact OpOk.move rfl e0 ⟨rfl, Stay.refl _⟩
                · intro ev X hT hb hk hf
                  have e0 : ev (.tmp 2) = .pointer (some ⟨w.heap.size, 0, Option.none⟩) := hk.1
                  have e1 : ev (.tmp 22) = .int .i64 (k : Int) := hf.1
                  exact OpOk.run (v := .pointer (some ⟨w.heap.size, k, Option.none⟩)) (W' := X) (by simp [execOp, e0, e1, hb.1, hk4, go_sem]; try (intro h; omega)) ⟨rfl, Stay.refl _⟩
                · intro ev X hT hb hk hf
                  have e0 : ev (.tmp 23) = .pointer (some ⟨w.heap.size, k, Option.none⟩) := hf.1
                  have cW := HcA.out X (HX2.out.below hT)
                  exact OpOk.run (v := lv x) (W' := X) (by simp [execOp, e0, cW, go_sem]) ⟨rfl, Stay.refl _⟩
                · intro ev X hT hb hk hf
                  have e0 : ev (.tmp 6) = .int .i64 (k : Int) := hk.1
                  exact OpOk.move rfl e0 ⟨rfl, Stay.refl _⟩
                · intro ev X hT hb hk hf
                  have e0 : ev (.tmp 3) = .pointer (some ⟨w.heap.size + 1, 0, Option.none⟩) := hk.1
                  have e1 : ev (.tmp 25) = .int .i64 (k : Int) := hf.1
                  exact OpOk.run (v := .pointer (some ⟨w.heap.size + 1, k, Option.none⟩)) (W' := X) (by simp [execOp, e0, e1, hb.1, hk4, go_sem]; try (intro h; omega)) ⟨rfl, Stay.refl _⟩
                · intro ev X hT hb hk hf
                  have e0 : ev (.tmp 26) = .pointer (some ⟨w.heap.size + 1, k, Option.none⟩) := hf.1
                  have cW := HcB.out X (HX2.out.below hT).right
                  exact OpOk.run (v := lv y) (W' := X) (by simp [execOp, e0, cW, go_sem]) ⟨rfl, Stay.refl _⟩
                · intro ev X hT hb hk hf
                  have e0 : ev (.tmp 24) = lv x := hf.1
                  have e1 : ev (.tmp 27) = lv y := hf.2.1
                  exact OpOk.run (v := .bool false) (W' := X) (by simp [execOp, e0, e1, c1', go_sem]) ⟨rfl, Stay.refl _⟩
                · intro ev X hT hb hk hf
                  have e0 : ev (.tmp 28) = .bool false := hf.1
                  exact OpOk.move rfl e0 ⟨rfl, Stay.refl _⟩
                · intro ev X hT hb hk hf
                  refine .inl ⟨false, hf.1, fun _ => ?_, fun h => (h rfl).elim⟩
                  have e0 : ev (.tmp 6) = .int .i64 (k : Int) := hk.1
                  exact OpOk.move rfl e0 ⟨rfl, Stay.refl _⟩
                · intro ev X hT hb hk hf
                  refine .inl ⟨false, hf.2.1, fun _ => ?_, fun h => (h rfl).elim⟩
                  have e0 : ev (.tmp 2) = .pointer (some ⟨w.heap.size, 0, Option.none⟩) := hk.1
                  have e1 : ev (.tmp 30) = .int .i64 (k : Int) := hf.1
                  exact OpOk.run (v := .pointer (some ⟨w.heap.size, k, Option.none⟩)) (W' := X) (by simp [execOp, e0, e1, hb.1, hk4, go_sem]; try (intro h; omega)) ⟨rfl, Stay.refl _⟩
                · intro ev X hT hb hk hf
                  refine .inl ⟨false, hf.2.1, fun _ => ?_, fun h => (h rfl).elim⟩
                  have e0 : ev (.tmp 31) = .pointer (some ⟨w.heap.size, k, Option.none⟩) := hf.1
                  have cW := HcA.out X (HX2.out.below hT)
                  exact OpOk.run (v := lv x) (W' := X) (by simp [execOp, e0, cW, go_sem]) ⟨rfl, Stay.refl _⟩
                · intro ev X hT hb hk hf
                  refine .inl ⟨false, hf.1, fun _ => ?_, fun h => (h rfl).elim⟩
                  have e0 : ev (.tmp 6) = .int .i64 (k : Int) := hk.1
                  exact OpOk.move rfl e0 ⟨rfl, Stay.refl _⟩
                · intro ev X hT hb hk hf
                  refine .inl ⟨false, hf.2.1, fun _ => ?_, fun h => (h rfl).elim⟩
                  have e0 : ev (.tmp 3) = .pointer (some ⟨w.heap.size + 1, 0, Option.none⟩) := hk.1
                  have e1 : ev (.tmp 33) = .int .i64 (k : Int) := hf.1
                  exact OpOk.run (v := .pointer (some ⟨w.heap.size + 1, k, Option.none⟩)) (W' := X) (by simp [execOp, e0, e1, hb.1, hk4, go_sem]; try (intro h; omega)) ⟨rfl, Stay.refl _⟩
                · intro ev X hT hb hk hf
                  refine .inl ⟨false, hf.2.1, fun _ => ?_, fun h => (h rfl).elim⟩
                  have e0 : ev (.tmp 34) = .pointer (some ⟨w.heap.size + 1, k, Option.none⟩) := hf.1
                  have cW := HcB.out X (HX2.out.below hT).right
                  exact OpOk.run (v := lv y) (W' := X) (by simp [execOp, e0, cW, go_sem]) ⟨rfl, Stay.refl _⟩
                · intro ev X hT hb hk hf
                  refine .inl ⟨false, hf.2.2.1, fun _ => ?_, fun h => (h rfl).elim⟩
                  have e0 : ev (.tmp 32) = lv x := hf.1
                  have e1 : ev (.tmp 35) = lv y := hf.2.1
                  exact OpOk.run (v := .bool true) (W' := X) (by have h9 := C2.out; simp [execOp, e0, e1, h9, go_sem]) ⟨rfl, Stay.refl _⟩
                · intro ev X hT hb hk hf
                  refine .inl ⟨false, hf.2.1, fun _ => ?_, fun h => (h rfl).elim⟩
                  have e0 : ev (.tmp 36) = .bool true := hf.1
                  exact OpOk.move rfl e0 ⟨rfl, Stay.refl _⟩
                · intro ev X hT hb hk hf
                  refine .inl ⟨true, hf.1, fun _ => ?_, fun h => (h rfl).elim⟩
                  have e0 : ev (.tmp 5) = lv bb := hk.1
                  exact OpOk.move rfl e0 ⟨rfl, Stay.refl _⟩
                · intro ev X hT hb hk hf
                  refine .inl ⟨true, hf.2.1, fun _ => ?_, fun h => (h rfl).elim⟩
                  have e0 : ev (.tmp 38) = lv bb := hf.1
                  exact OpOk.run (v := .bool false) (W' := X) (by simp [execOp, e0, hb.1, c3', go_sem]) ⟨rfl, Stay.refl _⟩
                · intro ev X hT hb hk hf
                  refine .inl ⟨false, hf.2.2.1, fun _ => ?_, fun h => (h rfl).elim⟩
                  have e0 : ev (.tmp 37) = .bool true := hf.1
                  have e1 : ev (.tmp 39) = .bool false := hf.2.1
                  exact OpOk.run (v := .bool false) (W' := X) (by simp [execOp, e0, e1, hb, hb.1, hb.2.1, hb.2.2, go_sem]) ⟨rfl, Stay.refl _⟩
                · intro ev X hT hb hk hf
                  have e0 : ev (.tmp 29) = .bool false := hf.1
                  have e1 : ev (.tmp 40) = .bool false := hf.2.1
                  exact OpOk.run (v := .bool false) (W' := X) (by simp [execOp, e0, e1, hb, hb.1, hb.2.1, hb.2.2, go_sem]) ⟨rfl, Stay.refl _⟩
                · intro ev X hT hb hk hf
                  have e0 : ev (.tmp 41) = .bool false := hf.1
                  exact OpOk.assign rfl e0 ⟨rfl, Stay.refl _⟩
              case rest =>
                intro X2 hT2
                rintro _ - _ - _ - _ - _ - _ - _ - _ - _ - _ - _ - _ - _ - _ - _ - _ - _ - _ - _ - _ - _ rfl
                have HX3 := hide (HX2.out.below hT2)
                have HS3 := hide (HS2.out.trans (Str.below hT2))
                have hc := (Hfin.out X2 HX3.out).1
                have HF := hide (Hfin.out X2 HX3.out).2
                have hfr := frozen_of_row X2 w.heap.size k _ _ (on_blk_mul HX3.out)
                clear hT2
                go_wp2
                refine Rest.done ?_
                go_wp2_with fail
                exact ⟨⟨k + 1, by omega, by simp, by rw [Hbb2.out, HN.out]; rfl, HF.out, HS3.out.setCell _ _⟩, by simp [intOf]; omega⟩
          · have c2' : ¬ (x : Int) = (y : Int) := by omega
            have HN := hide (show bb2 = 0 by have := Hstep.out; rw [if_neg (by omega)] at this; exact this)
            clear c2 c1
            refine wp_region_vsg [isV (.int .i64 (k : Int)), isV (.pointer (some ⟨w.heap.size, k, Option.none⟩)), isV (lv x), isV (.int .i64 (k : Int)), isV (.pointer (some ⟨w.heap.size + 1, k, Option.none⟩)), isV (lv y), isV (.bool false), isV (.bool false), isV (.int .i64 (k : Int)), isV (.pointer (some ⟨w.heap.size, k, Option.none⟩)), isV (lv x), isV (.int .i64 (k : Int)), isV (.pointer (some ⟨w.heap.size + 1, k, Option.none⟩)), isV (lv y), isV (.bool false), isV (.bool false), isV (undef), isV (undef), isV (.bool false), isV (.bool false), isV (.bool false)]
              (by kernel_rfl) (by kernel_rfl) rfl ?keep ?todo ?rest
            case keep => exact ⟨Keep.isV _, Keep.isV _, Keep.isV _, Keep.isV _, Keep.isV _, Keep.isV _, Keep.isV _, Keep.isV _, Keep.isV _, Keep.isV _, Keep.isV _, Keep.isV _, Keep.isV _, Keep.isV _, Keep.isV _, Keep.isV _, Keep.isV _, Keep.isV _, Keep.isV _, Keep.isV _, Keep.isV _, trivial⟩
            case todo =>
              refine ⟨?_, ?_, ?_, ?_, ?_, ?_, ?_, ?_, ?_, ?_, ?_, ?_, ?_, ?_, ?_, ?_, ?_, ?_, ?_, ?_, ?_, trivial⟩
              · intro ev X hT hb hk hf
                have e0 : ev (.tmp 6) = .int .i64 (k : Int) := hk.1
                exact OpOk.move rfl e0 ⟨rfl, Stay.refl _⟩
              · intro ev X hT hb hk hf
                have e0 : ev (.tmp 2) = .pointer (some ⟨w.heap.size, 0, Option.none⟩) := hk.1
                have e1 : ev (.tmp 22) = .int .i64 (k : Int) := hf.1
                exact OpOk.run (v := .pointer (some ⟨w.heap.size, k, Option.none⟩)) (W' := X) (by simp [execOp, e0, e1, hb.1, hk4, go_sem]; try (intro h; omega)) ⟨rfl, Stay.refl _⟩
              · intro ev X hT hb hk hf
                have e0 : ev (.tmp 23) = .pointer (some ⟨w.heap.size, k, Option.none⟩) := hf.1
                have cW := HcA.out X (HX2.out.below hT)
                exact OpOk.run (v := lv x) (W' := X) (by simp [execOp, e0, cW, go_sem]) ⟨rfl, Stay.refl _⟩
              · intro ev X hT hb hk hf
                have e0 : ev (.tmp 6) = .int .i64 (k : Int) := hk.1
                exact OpOk.move rfl e0 ⟨rfl, Stay.refl _⟩
              · intro ev X hT hb hk hf
                have e0 : ev (.tmp 3) = .pointer (some ⟨w.heap.size + 1, 0, Option.none⟩) := hk.1
                have e1 : ev (.tmp 25) = .int .i64 (k : Int) := hf.1
                exact OpOk.run (v := .pointer (some ⟨w.heap.size + 1, k, Option.none⟩)) (W' := X) (by simp [execOp, e0, e1, hb.1, hk4, go_sem]; try (intro h; omega)) ⟨rfl, Stay.refl _⟩
              · intro ev X hT hb hk hf
                have e0 : ev (.tmp 26) = .pointer (some ⟨w.heap.size + 1, k, Option.none⟩) := hf.1
                have cW := HcB.out X (HX2.out.below hT).right
                exact OpOk.run (v := lv y) (W' := X) (by simp [execOp, e0, cW, go_sem]) ⟨rfl, Stay.refl _⟩
              · intro ev X hT hb hk hf
                have e0 : ev (.tmp 24) = lv x := hf.1
                have e1 : ev (.tmp 27) = lv y := hf.2.1
                exact OpOk.run (v := .bool false) (W' := X) (by simp [execOp, e0, e1, c1', go_sem]) ⟨rfl, Stay.refl _⟩
              · intro ev X hT hb hk hf
                have e0 : ev (.tmp 28) = .bool false := hf.1
                exact OpOk.move rfl e0 ⟨rfl, Stay.refl _⟩
              · intro ev X hT hb hk hf
                refine .inl ⟨false, hf.1, fun _ => ?_, fun h => (h rfl).elim⟩
                have e0 : ev (.tmp 6) = .int .i64 (k : Int) := hk.1
                exact OpOk.move rfl e0 ⟨rfl, Stay.refl _⟩
              · intro ev X hT hb hk hf
                refine .inl ⟨false, hf.2.1, fun _ => ?_, fun h => (h rfl).elim⟩
                have e0 : ev (.tmp 2) = .pointer (some ⟨w.heap.size, 0, Option.none⟩) := hk.1
                have e1 : ev (.tmp 30) = .int .i64 (k : Int) := hf.1
                exact OpOk.run (v := .pointer (some ⟨w.heap.size, k, Option.none⟩)) (W' := X) (by simp [execOp, e0, e1, hb.1, hk4, go_sem]; try (intro h; omega)) ⟨rfl, Stay.refl _⟩
              · intro ev X hT hb hk hf
                refine .inl ⟨false, hf.2.1, fun _ => ?_, fun h => (h rfl).elim⟩
                have e0 : ev (.tmp 31) = .pointer (some ⟨w.heap.size, k, Option.none⟩) := hf.1
                have cW := HcA.out X (HX2.out.below hT)
                exact OpOk.run (v := lv x) (W' := X) (by simp [execOp, e0, cW, go_sem]) ⟨rfl, Stay.refl _⟩
              · intro ev X hT hb hk hf
                refine .inl ⟨false, hf.1, fun _ => ?_, fun h => (h rfl).elim⟩
                have e0 : ev (.tmp 6) = .int .i64 (k : Int) := hk.1
                exact OpOk.move rfl e0 ⟨rfl, Stay.refl _⟩
              · intro ev X hT hb hk hf
                refine .inl ⟨false, hf.2.1, fun _ => ?_, fun h => (h rfl).elim⟩
                have e0 : ev (.tmp 3) = .pointer (some ⟨w.heap.size + 1, 0, Option.none⟩) := hk.1
                have e1 : ev (.tmp 33) = .int .i64 (k : Int) := hf.1
                exact OpOk.run (v := .pointer (some ⟨w.heap.size + 1, k, Option.none⟩)) (W' := X) (by simp [execOp, e0, e1, hb.1, hk4, go_sem]; try (intro h; omega)) ⟨rfl, Stay.refl _⟩
              · intro ev X hT hb hk hf
                refine .inl ⟨false, hf.2.1, fun _ => ?_, fun h => (h rfl).elim⟩
                have e0 : ev (.tmp 34) = .pointer (some ⟨w.heap.size + 1, k, Option.none⟩) := hf.1
                have cW := HcB.out X (HX2.out.below hT).right
                exact OpOk.run (v := lv y) (W' := X) (by simp [execOp, e0, cW, go_sem]) ⟨rfl, Stay.refl _⟩
              · intro ev X hT hb hk hf
                refine .inl ⟨false, hf.2.2.1, fun _ => ?_, fun h => (h rfl).elim⟩
                have e0 : ev (.tmp 32) = lv x := hf.1
                have e1 : ev (.tmp 35) = lv y := hf.2.1
                exact OpOk.run (v := .bool false) (W' := X) (by simp [execOp, e0, e1, c2', go_sem]) ⟨rfl, Stay.refl _⟩
              · intro ev X hT hb hk hf
                refine .inl ⟨false, hf.2.1, fun _ => ?_, fun h => (h rfl).elim⟩
                have e0 : ev (.tmp 36) = .bool false := hf.1
                exact OpOk.move rfl e0 ⟨rfl, Stay.refl _⟩
              · exact fun ev X hT hb hk hf => .inl ⟨false, hf.1, fun h => (nomatch h), fun _ => rfl⟩
              · exact fun ev X hT hb hk hf => .inl ⟨false, hf.2.1, fun h => (nomatch h), fun _ => rfl⟩
              · intro ev X hT hb hk hf
                refine .inl ⟨false, hf.2.2.1, fun _ => ?_, fun h => (h rfl).elim⟩
                have e0 : ev (.tmp 37) = .bool false := hf.1
                have e1 : ev (.tmp 39) = undef := hf.2.1
                exact OpOk.run (v := .bool false) (W' := X) (by simp [execOp, e0, e1, hb, hb.1, hb.2.1, hb.2.2, go_sem]) ⟨rfl, Stay.refl _⟩
              · intro ev X hT hb hk hf
                have e0 : ev (.tmp 29) = .bool false := hf.1
                have e1 : ev (.tmp 40) = .bool false := hf.2.1
                exact OpOk.run (v := .bool false) (W' := X) (by simp [execOp, e0, e1, hb, hb.1, hb.2.1, hb.2.2, go_sem]) ⟨rfl, Stay.refl _⟩
              · intro ev X hT hb hk hf
                have e0 : ev (.tmp 41) = .bool false := hf.1
                exact OpOk.assign rfl e0 ⟨rfl, Stay.refl _⟩
            case rest =>
              intro X2 hT2
              rintro _ - _ - _ - _ - _ - _ - _ - _ - _ - _ - _ - _ - _ - _ - _ - _ - _ - _ - _ - _ - _ rfl
              have HX3 := hide (HX2.out.below hT2)
              have HS3 := hide (HS2.out.trans (Str.below hT2))
              have hc := (Hfin.out X2 HX3.out).1
              have HF := hide (Hfin.out X2 HX3.out).2
              have hfr := frozen_of_row X2 w.heap.size k _ _ (on_blk_mul HX3.out)
              clear hT2
              go_wp2
              refine Rest.done ?_
              go_wp2_with fail
              exact ⟨⟨k + 1, by omega, by simp, by rw [Hbb2.out, HN.out]; rfl, HF.out, HS3.out.setCell _ _⟩, by simp [intOf]; omega⟩
    · obtain rfl : k = 4 := by omega
      have e4 : (qs 4 S).take 4 ++ (qs 4 a).drop 4 = qs 4 S := by rw [List.take_of_length_le (by rw [qs_len]; omega), List.drop_of_length_le (by rw [qs_len]; omega), List.append_nil]
      rw [e4, show lvs (qs 4 S) = q4 S from rfl, Hend.out] at HXk
      have gA := on_blk_mul HXk.out
      have gR := on_blk_mul HXk.out.right.right
      have HBw := hide (all_below HXk.out.right.right.right HSk.out)
      have hone := lvs_one (qs 4 (a - b))
      have hza : Z4.size = (q4 (a - b)).size := by rw [← HZ.out, q4_size, q4_size]
      clear e4 HXk
      generalize hR4 : q4 (a - b) = R4 at *
      rw [show lvs (qs 4 (a - b)) = R4 from hR4] at hone
      have HR4 := hide hR4
      clear hR4
      go_wp2_with (first
        | (refine wpList_store_row rfl _ _ _ rfl (w.heap.size + 1 + 1) R4 rfl rfl _ _ gR HsR.out hza hone ?_)
        | (refine wpList_load_row rfl _ _ rfl w.heap.size rfl _ R4 _ _ gA hu rfl HsR.out ?_))
      refine bodyPost_ret (v := .agg R4) (results_cell_row Tryd.results69 _ _ (w.heap.size + 1 + 1) _ R4 (0, 0) _ rfl (setRow_heap_same _ _ _ _ _ _ gR) hu rfl HsR.out) rfl ⟨by rw [HR4.out], below_setRow HBw.out (by omega) _⟩
end Go.Proofs.YtgkofpfjbjnhfaaDoor
