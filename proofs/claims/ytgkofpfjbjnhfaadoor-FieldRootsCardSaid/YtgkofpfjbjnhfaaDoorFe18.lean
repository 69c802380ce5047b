/- the document's look for a square. -/
import Derived.Test.YtgkofpfjbjnhfaaDoorFe17
namespace Go.Proofs.YtgkofpfjbjnhfaaDoor
namespace Fe
open Go.ChangeShapes Go.WideShapes Go.ChangeAt Go.RowKit
set_option linter.unusedVariables false
set_option linter.unusedSimpArgs false

theorem eq_n17 (X : World) (d a b : Nat) (ha : a < 2 ^ 255) (hb : b < 2 ^ 255) : (Op.equalIn (d + 2) 27 (.agg (n17 a)) (.agg (n17 b))).run Tryd.prog X = .ok (decide (a = b)) X := by
  have h := run_eq_ints (P := Tryd.prog) X d 27 3 17 .i64 Tryd.underlying27 Tryd.underlying3 (by kernel_rfl) ((ds 17 a).map fun x : Nat => (x : Int)) ((ds 17 b).map fun x : Nat => (x : Int)) (by simp [ds_len]) (by simp [ds_len])
  rw [List.map_map, List.map_map] at h
  refine Eq.trans h (congrArg (fun b => Result.ok b X) (decide_eq_decide.2 ⟨fun h => ?_, fun h => by rw [h]⟩))
  refine ds_inj a b ha hb (List.ext_getElem? fun j => ?_)
  have h2 := congrArg (fun l => l[j]?) h
  simp only [List.getElem?_map] at h2
  cases h3 : (ds 17 a)[j]? with
  | none => rw [h3] at h2; cases h4 : (ds 17 b)[j]? with
    | none => rfl
    | some y => rw [h4] at h2; simp at h2
  | some x => rw [h3] at h2; cases h4 : (ds 17 b)[j]? with
    | none => rw [h4] at h2; simp at h2
    | some y => rw [h4] at h2; simp at h2; rw [Int.ofNat_inj.1 h2]
def hstep (k : Nat) (l : List Nat) : List Nat := (if 0 < k ∧ l.getD k 0 % 2 = 1 then l.set (k - 1) (l.getD (k - 1) 0 + 16384) else l).set k (l.getD k 0 / 2)
def hl : Nat → List Nat
  | 0 => ds 17 (P5 - 1)
  | k + 1 => hstep k (hl k)
theorem hl_ok : ∀ k ∈ List.range 18, (hl k).length = 17 ∧ ∀ x ∈ hl k, x < 65536 := by decide +kernel
theorem hl_end : hl 17 = ds 17 HF := by decide +kernel
theorem getD_some (l : List Nat) (k : Nat) (h : k < l.length) : l[k]? = some (l.getD k 0) := by
  rw [List.getD_eq_getElem?_getD, List.getElem?_eq_getElem h]; rfl
set_option maxRecDepth 100000 in
set_option maxHeartbeats 8000000 in
theorem rsquare_any (a : Nat) (ha : a < P5) (w : World) :
    Calls Tryd.prog 30 #[.agg (n17 a)] w fun e w' => e = .returned (.bool (decide (a = 0 ∨ pwr a HF 256 = 1))) ∧ Below w.heap.size w w' := by
  have hu4 := Tryd.underlying23
  have hz4 := eZero4
  have hun := Tryd.underlying27
  have hzn := nZero
  have h0 := (on_all w).alloc (.cells (n17 (a)) 27)
  have s0 := (Str.refl w).alloc (.cells (n17 (a)) 27)
  try simp only [World.size_alloc] at h0
  have H1 := hide h0
  have S1 := hide s0
  clear h0 s0
  have hp := P5_255lt
  have h1p : 1 ≤ P5 := by decide
  have hh : HF < 2 ^ 255 := by decide +kernel
  have hh4 : HF < 18446744073709551616 ^ 4 := by decide +kernel
  have b1 := pwr_lt a HF 256
  have HP := hide (fun X => rp_any X)
  have H0s : Hid (∀ X, Calls Tryd.prog 23 #[.int .i64 0] X fun e w' => e = .returned (.agg (n17 0)) ∧ Below X.heap.size X w') := hide fun X => by
    have := rsmall_any 0 (by decide) X
    rwa [show 0 % P5 = 0 by decide] at this
  have H1s : Hid (∀ X, Calls Tryd.prog 23 #[.int .i64 1] X fun e w' => e = .returned (.agg (n17 1)) ∧ Below X.heap.size X w') := hide fun X => by
    have := rsmall_any 1 (by decide) X
    rwa [show 1 % P5 = 1 by decide] at this
  have HU := hide (fun X => under_any P5 1 hp h1p X)
  have HL := hide (fun X => limbs_any HF hh X)
  have HW := hide (fun X => rpower_any a HF (by omega) hh4 X)
  have HQ0 := hide (fun X => eq_n17 X 9998 a 0 (by omega) (by decide))
  have HQ1 := hide (fun X => eq_n17 X 9998 (pwr a HF 256) 1 (by omega) (by decide))
  have Hgd : Hid (Tryd.prog.eqGuardType Tryd.prog.depth 27 = false) := hide (by kernel_rfl)
  have Hl0 : Hid (dvs (hl 0) = n17 (P5 - 1)) := hide rfl
  have Hl17 := hide (show dvs (hl 17) = n17 HF from congrArg dvs hl_end)
  generalize pwr a HF 256 = pw at *
  clear ha hp h1p hh hh4 b1
  have HsAn := hide (nInfo (a))
  have HoAn := hide (nOne (a))
  have HzAn := hide (nSize 0 (a))
  have HsOn := hide (nInfo (1))
  have HoOn := hide (nOne (1))
  have HzOn := hide (nSize 0 (1))
  have HsPn := hide (nInfo (P5))
  have HoPn := hide (nOne (P5))
  have HzPn := hide (nSize 0 (P5))
  have HsHm := hide (nInfo (P5 - 1))
  have HoHm := hide (nOne (P5 - 1))
  have HzHm := hide (nSize 0 (P5 - 1))
  have HsHn := hide (nInfo (HF))
  have HoHn := hide (nOne (HF))
  have HzHn := hide (nSize 0 (HF))
  have HsH4 := hide (eInfo4 (HF))
  have HoH4 := hide (eOne (HF))
  have HzH4 := hide (eSize 0 (HF))
  have HsQn := hide (nInfo pw)
  have HoQn := hide (nOne pw)
  have HzQn := hide (nSize 0 pw)
  generalize hAn : n17 (a) = An at *
  have HAn := hide hAn
  clear hAn
  generalize hOn : n17 (1) = On at *
  have HOn := hide hOn
  clear hOn
  generalize hPn : n17 (P5) = Pn at *
  have HPn := hide hPn
  clear hPn
  generalize hHm : n17 (P5 - 1) = Hm at *
  have HHm := hide hHm
  clear hHm
  generalize hHn : n17 (HF) = Hn at *
  have HHn := hide hHn
  clear hHn
  generalize hH4 : q4 (HF) = H4 at *
  have HH4 := hide hH4
  clear hH4
  generalize hQn : n17 (pw) = Qn at *
  have HQn := hide hQn
  clear hQn
  generalize hZn : n17 0 = Zn at *
  have HZn := hide hZn
  clear hZn
  go_enter Tryd.func30, Tryd.ntmps30
  by_cases h0 : a = 0
  · have hq := HQ0.out
    simp only [h0, decide_true] at hq
    have HQ9 := hide hq
    have HR := hide (show decide (a = 0 ∨ pw = 1) = true by simp [h0])
    clear hq h0
    go_wp2_with fail
    generalize w.alloc (.cells An 27) = w1 at *
    refine wp_region_vs [isV (.agg An), isV (.agg Zn), isV (.bool true)]
      (by kernel_rfl) (by kernel_rfl) rfl ?keep ?todo ?rest
    case keep => exact ⟨Keep.isV _, Keep.isV _, Keep.isV _, trivial⟩
    case todo =>
      refine ⟨?_, ?_, ?_, trivial⟩
      · intro ev X hT hb hk hf
        have e0 : ev (.tmp 1) = .pointer (some ⟨w.heap.size, 0, Option.none⟩) := hk.1
        exact OpOk.load_row _ _ rfl _ e0 _ An (0, 0) _ (on_blk_mul (H1.out.below hT)) hun rfl HsAn.out ⟨rfl, Stay.refl _⟩
      · intro ev X hT hb hk hf
        refine OpOk.enters (f := 23) (args := #[.int .i64 0]) (W' := X) (by simp [execOp, resolve, invoke, hb.1, hb.2.1, go_sem]) ((H0s.out X).mono ?_)
        rintro e _ ⟨rfl, hB⟩
        exact ⟨_, rfl, rfl, hB⟩
      · intro ev X hT hb hk hf
        have e0 : ev (.tmp 5) = .agg An := hf.1
        have e1 : ev (.tmp 6) = .agg Zn := hf.2.1
        exact OpOk.run (v := .bool true) (W' := X) (by
          unfold execOp
          simp only [e0, e1, Sem.run_bind, run_eqGuard_agg X _ _ _ _ _ _ Hgd.out, run_eql_struct, HQ9.out X, Result.andThen_ok]
          rfl) ⟨rfl, Stay.refl _⟩
    case rest =>
      intro w2 hX
      rintro _ - _ - _ rfl
      have H2 := hide (H1.out.below hX)
      have S2 := hide (S1.out.trans (Str.below hX))
      clear hX H1 S1
      go_wp2
      refine Rest.done ?_
      have HB := hide (all_below H2.out.right S2.out)
      go_wp2_with fail
      go_ret
      exact ⟨by rw [HR.out]; rfl, HB.out⟩
  · have hq := HQ0.out
    simp only [h0, decide_false] at hq
    have HQ9 := hide hq
    have HR := hide (show decide (a = 0 ∨ pw = 1) = decide (pw = 1) by simp [h0])
    clear hq h0
    go_wp2_with fail
    generalize w.alloc (.cells An 27) = w1 at *
    refine wp_region_vs [isV (.agg An), isV (.agg Zn), isV (.bool false)]
      (by kernel_rfl) (by kernel_rfl) rfl ?keep ?todo ?rest
    case keep => exact ⟨Keep.isV _, Keep.isV _, Keep.isV _, trivial⟩
    case todo =>
      refine ⟨?_, ?_, ?_, trivial⟩
      · intro ev X hT hb hk hf
        have e0 : ev (.tmp 1) = .pointer (some ⟨w.heap.size, 0, Option.none⟩) := hk.1
        exact OpOk.load_row _ _ rfl _ e0 _ An (0, 0) _ (on_blk_mul (H1.out.below hT)) hun rfl HsAn.out ⟨rfl, Stay.refl _⟩
      · intro ev X hT hb hk hf
        refine OpOk.enters (f := 23) (args := #[.int .i64 0]) (W' := X) (by simp [execOp, resolve, invoke, hb.1, hb.2.1, go_sem]) ((H0s.out X).mono ?_)
        rintro e _ ⟨rfl, hB⟩
        exact ⟨_, rfl, rfl, hB⟩
      · intro ev X hT hb hk hf
        have e0 : ev (.tmp 5) = .agg An := hf.1
        have e1 : ev (.tmp 6) = .agg Zn := hf.2.1
        exact OpOk.run (v := .bool false) (W' := X) (by
          unfold execOp
          simp only [e0, e1, Sem.run_bind, run_eqGuard_agg X _ _ _ _ _ _ Hgd.out, run_eql_struct, HQ9.out X, Result.andThen_ok]
          rfl) ⟨rfl, Stay.refl _⟩
    case rest =>
      intro w2 hX
      rintro _ - _ - _ rfl
      have H2 := hide (H1.out.below hX)
      have S2 := hide (S1.out.trans (Str.below hX))
      clear hX H1 S1
      go_wp2
      refine Rest.done ?_
      go_wp2_with fail
      refine (HP.out _).mono ?_
      rintro e w3 ⟨rfl, hB⟩
      have H3 := hide (H2.out.below hB)
      have S3 := hide (S2.out.trans (Str.below hB))
      clear hB H2 S2
      go_wp2_with fail
      refine (H1s.out _).mono ?_
      rintro e w4 ⟨rfl, hB⟩
      have H4 := hide (H3.out.below hB)
      have S4 := hide (S3.out.trans (Str.below hB))
      clear hB H3 S3
      go_wp2_with fail
      refine (HU.out _).mono ?_
      rintro e w5 ⟨rfl, hB⟩
      have H5 := hide (H4.out.below hB)
      have S5 := hide (S4.out.trans (Str.below hB))
      clear hB H4 S4
      have hN := H5.out.alloc (.cells Zn 27)
      have gN := on_blk_mul hN
      have hM := hN.setRow Hm
      have gM := on_blk_mul hM
      have H6 := hide hM
      have S6 := hide ((S5.out.alloc (.cells Zn 27)).setRow w5.heap.size Hm)
      clear hN hM
      go_wp2_with (first
        | (refine wpList_store_row rfl _ _ _ rfl (w5.heap.size) Hm rfl rfl _ _ gN HsHm.out HzHm.out HoHm.out ?_))
      generalize (w5.alloc (.cells Zn 27)).setRow w5.heap.size Hm = w6 at *
      clear gN gM H5 S5
      generalize w5.heap.size = p5 at *
      go_loopw [4] (fun i wr => ∃ k : Nat, k ≤ 17 ∧ i = .int .i64 k ∧ (blk p5 (.cells (dvs (hl k)) 27 (0, 0)) * (blk w.heap.size (.cells An 27 (0, 0)) * all w)).on wr ∧ Str w wr) (fun i _ => 17 - (intOf i).toNat)
      case atStart => exact ⟨0, by omega, rfl, by rw [Hl0.out]; exact H6.out, S6.out⟩
      case round =>
        obtain ⟨k, hk, rfl, hX, hS2⟩ := hrel
        have HXk := hide hX
        have HSk := hide hS2
        clear hX hS2 H6 S6
        by_cases hlt : k < 17
        · obtain ⟨hlen, hbd⟩ := hl_ok k (List.mem_range.2 (by omega))
          have hx := getD_some (hl k) k (by omega)
          have hxb := hbd _ (List.mem_of_getElem? hx)
          have hst9 : hl (k + 1) = hstep k (hl k) := rfl
          have hcell := rowCell HXk.out k _ hx
          have hfr := frozen_of_row wr p5 k _ _ (on_blk_mul HXk.out)
          have hk17 : (k : Int) < 17 := by omega
          by_cases hc : 0 < k ∧ (hl k).getD k 0 % 2 = 1
          · obtain ⟨hk0, hodd⟩ := hc
            have hy := getD_some (hl k) (k - 1) (by omega)
            have hyb := hbd _ (List.mem_of_getElem? hy)
            have hset1 := rowSet HXk.out (k - 1) ((hl k).getD (k - 1) 0 + 16384)
            have hx2 : ((hl k).set (k - 1) ((hl k).getD (k - 1) 0 + 16384))[k]? = some ((hl k).getD k 0) := by rw [List.getElem?_set_ne (by omega)]; exact hx
            have hset2 := rowSet hset1 k ((hl k).getD k 0 / 2)
            have hcell2 := rowCell hset1 k _ hx2
            have hfr2 := frozen_of_row _ p5 k _ _ (on_blk_mul hset1)
            have hcell1 := rowCell HXk.out (k - 1) _ hy
            have hfr1 := frozen_of_row wr p5 (k - 1) _ _ (on_blk_mul HXk.out)
            rw [show ((hl k).set (k - 1) ((hl k).getD (k - 1) 0 + 16384)).set k ((hl k).getD k 0 / 2) = hl (k + 1) by rw [hst9]; unfold hstep; rw [if_pos ⟨hk0, hodd⟩]] at hset2
            have HN := hide hset2
            have hb : ((((hl k).getD k 0 : Nat) : Int) % 2 == 1) = true := by rw [beq_iff_eq]; omega
            clear hset1 hset2 hx2 hst9 hx hy hbd hlen hodd HXk
            generalize (hl k).getD k 0 = x at *
            generalize (hl k).getD (k - 1) 0 = y at *
            have s1 : IntKind.i64.wrap ((k : Int) - 1) = ((k - 1 : Nat) : Int) := by rw [IntWalk.i64_in _ (by omega)]; omega
            have s2 : IntKind.i64.wrap ((y : Int) + 16384) = ((y + 16384 : Nat) : Int) := by rw [IntWalk.i64_in _ (by omega)]; omega
            have s3 : IntKind.i64.wrap ((x : Int) / 2) = ((x / 2 : Nat) : Int) := by rw [IntWalk.i64_in _ (by omega)]; omega
            have hkp : (0 : Int) < (k : Int) := by omega
            have hj17 : ((k - 1 : Nat) : Int) < 17 := by omega
            obtain ⟨j, hj⟩ : ∃ j, j = k - 1 := ⟨_, rfl⟩
            rw [← hj] at s1 hj17 hcell1 hfr1 hcell2 hfr2 HN
            generalize hz : y + 16384 = z at *
            generalize hx2 : x / 2 = x2 at *
            clear hz hx2 hj hk0 hxb hyb
            go_wp2_with fail
            exact ⟨⟨k + 1, by omega, by simp, HN.out, (HSk.out.setCell _ _).setCell _ _⟩, by simp [intOf]; omega⟩
          · have hset2 := rowSet HXk.out k ((hl k).getD k 0 / 2)
            rw [show (hl k).set k ((hl k).getD k 0 / 2) = hl (k + 1) by rw [hst9]; unfold hstep; rw [if_neg hc]] at hset2
            have HN := hide hset2
            have s3 : IntKind.i64.wrap ((((hl k).getD k 0 : Nat) : Int) / 2) = (((hl k).getD k 0 / 2 : Nat) : Int) := by rw [IntWalk.i64_in _ (by omega)]; omega
            by_cases hk0 : 0 < k
            · have hb : ((((hl k).getD k 0 : Nat) : Int) % 2 == 1) = false := by
                have h9 : (hl k).getD k 0 % 2 ≠ 1 := fun h => hc ⟨hk0, h⟩
                rw [beq_eq_false_iff_ne]; omega
              have hkp : (0 : Int) < (k : Int) := by omega
              clear hset2 hst9 hx hbd hlen HXk hc hk0 hxb
              generalize hx2 : (hl k).getD k 0 / 2 = x2 at *
              clear hx2
              generalize (hl k).getD k 0 = x at *
              go_wp2_with fail
              exact ⟨⟨k + 1, by omega, by simp, HN.out, HSk.out.setCell _ _⟩, by simp [intOf]; omega⟩
            · obtain rfl : k = 0 := by omega
              clear hset2 hst9 hx hbd hlen HXk hc hk0 hxb
              generalize hx2 : (hl 0).getD 0 0 / 2 = x2 at *
              clear hx2
              generalize (hl 0).getD 0 0 = x at *
              go_wp2_with fail
              exact ⟨⟨0 + 1, by omega, by simp, HN.out, HSk.out.setCell _ _⟩, by simp [intOf]⟩
        · obtain rfl : k = 17 := by omega
          rw [Hl17.out] at HXk
          have H2 := HXk
          have S2 := HSk
          clear HXk HSk
          generalize hdd : decide (pw = 1) = dd at *
          have Hdd := hide hdd
          clear hdd
          go_wp2_with fail
          refine wp_region_vs [isV (.agg An), isV (.agg Hn), isV (.agg H4), isV (.agg Qn), isV (.agg On), isV (.bool dd), isV (.bool dd)]
            (by kernel_rfl) (by kernel_rfl) rfl ?keep ?todo ?rest
          case keep => exact ⟨Keep.isV _, Keep.isV _, Keep.isV _, Keep.isV _, Keep.isV _, Keep.isV _, Keep.isV _, trivial⟩
          case todo =>
            refine ⟨?_, ?_, ?_, ?_, ?_, ?_, ?_, trivial⟩
            · intro ev X hT hb hk hf
              have e0 : ev (.tmp 1) = .pointer (some ⟨w.heap.size, 0, Option.none⟩) := hk.1
              exact OpOk.load_row _ _ rfl _ e0 _ An (0, 0) _ (on_blk_mul (H2.out.below hT).right) hun rfl HsAn.out ⟨rfl, Stay.refl _⟩
            · intro ev X hT hb hk hf
              have e0 : ev (.tmp 3) = .pointer (some ⟨p5, 0, Option.none⟩) := hk.1
              exact OpOk.load_row _ _ rfl _ e0 _ Hn (0, 0) _ (on_blk_mul (H2.out.below hT)) hun rfl HsHn.out ⟨rfl, Stay.refl _⟩
            · intro ev X hT hb hk hf
              have e0 : ev (.tmp 37) = .agg Hn := hf.1
              refine OpOk.enters (f := 55) (args := #[.agg Hn]) (W' := X) (by simp [execOp, resolve, invoke, e0, hb.1, hb.2.1, go_sem]) ((HL.out X).mono ?_)
              rintro e _ ⟨rfl, hB⟩
              exact ⟨_, rfl, rfl, hB⟩
            · intro ev X hT hb hk hf
              have e0 : ev (.tmp 36) = .agg An := hf.1
              have e1 : ev (.tmp 38) = .agg H4 := hf.2.1
              refine OpOk.enters (f := 26) (args := #[.agg An, .agg H4]) (W' := X) (by simp [execOp, resolve, invoke, e0, e1, hb.1, hb.2.1, go_sem]) ((HW.out X).mono ?_)
              rintro e _ ⟨rfl, hB⟩
              exact ⟨_, rfl, rfl, hB⟩
            · intro ev X hT hb hk hf
              refine OpOk.enters (f := 23) (args := #[.int .i64 1]) (W' := X) (by simp [execOp, resolve, invoke, hb.1, hb.2.1, go_sem]) ((H1s.out X).mono ?_)
              rintro e _ ⟨rfl, hB⟩
              exact ⟨_, rfl, rfl, hB⟩
            · intro ev X hT hb hk hf
              have e0 : ev (.tmp 39) = .agg Qn := hf.1
              have e1 : ev (.tmp 40) = .agg On := hf.2.1
              exact OpOk.run (v := .bool dd) (W' := X) (by
                unfold execOp
                simp only [e0, e1, Sem.run_bind, run_eqGuard_agg X _ _ _ _ _ _ Hgd.out, run_eql_struct, HQ1.out X, Result.andThen_ok]
                rfl) ⟨rfl, Stay.refl _⟩
            · intro ev X hT hb hk hf
              have e0 : ev (.tmp 41) = .bool dd := hf.1
              exact OpOk.assign rfl e0 ⟨rfl, Stay.refl _⟩
          case rest =>
            intro X hX
            rintro _ - _ - _ - _ - _ - _ - _ rfl
            have HB := hide (all_below (H2.out.below hX).right.right (S2.out.trans (Str.below hX)))
            clear hX
            go_wp2
            refine Rest.done ?_
            go_wp2_with fail
            go_ret
            exact ⟨by rw [HR.out]; rfl, HB.out⟩
end Fe
end Go.Proofs.YtgkofpfjbjnhfaaDoor
