/- The law CrcFinds: bits turned beside each other, up to thirty-two, change the sum. -/
import Derived.Test.YtdbnjejpejmmjaaCrcParts
import Derived.Test.YtdbnjejpejmmjaaCrcFindsMath
namespace Go.Proofs.Ytdbnjejpejmmjaa
open Go.ChangeShapes Go.WideShapes Go.ChangeAt Go.RowKit
set_option linter.unusedVariables false

def FindRel (w : World) (l : List UInt8) (g cap i b : Nat) (q : Value) (wr : World) : Prop :=
  ∃ (k : Nat) (m : List UInt8), k ≤ 32 ∧ q = .int .i64 k ∧ m.length = l.length ∧ (own 5 1 (.slice (some ⟨g, 0, Option.none⟩) l.length cap) l.length (vbs m) * all w).on wr ∧ numOf m = numOf l ^^^ 2 ^ i * (b % 2 ^ k) ∧ Str w wr

set_option maxRecDepth 100000 in
set_option maxHeartbeats 2000000 in
theorem walk_CrcFinds (w : World) (v : Value) (l : List UInt8) (hb : IsBytes w v l) (at0 : Int) (ha0 : -9223372036854775808 ≤ at0) (ha1 : at0 ≤ 9223372036854775807) (b : Int) (h0 : 0 ≤ b) (h1 : b ≤ 4294967295) :
    Calls Try.prog 7 #[v, .int .i64 at0, .int .u32 b] w fun e w' => e = .returned (.bool true) ∧ Below w.heap.size w w' := by
  obtain ⟨b, rfl⟩ := Int.eq_ofNat_of_zero_le h0
  have hv := hb
  obtain ⟨a, c, rfl, hc, hm, _⟩ := hb
  unfold maxLen at hm
  by_cases hlen : l.length < 8 ∨ 3000 < l.length ∨ b = 0
  · rcases (show (l.length < 8) ∨ (8 ≤ l.length ∧ 3000 < l.length) ∨ (8 ≤ l.length ∧ l.length ≤ 3000 ∧ b = 0) by omega) with hx | ⟨hx, hy⟩ | ⟨hx, hy, rfl⟩
    all_goals
      clear hlen
      go_enter Try.func7, Try.ntmps7
      go_wp2_with fail
      refine (lives02_any _).mono ?_
      rintro e w1 ⟨rfl, hb1⟩
      go_wp2_with fail
      refine (lives02_any _).mono ?_
      rintro e w2 ⟨rfl, hb2⟩
      go_wp2
      go_ret
      exact ⟨rfl, hb1.trans (hb2.mono hb1.size)⟩
  · have hl8 : 8 ≤ l.length := by omega
    have hl3 : l.length ≤ 3000 := by omega
    have hb0 : 1 ≤ b := by omega
    clear hlen
    have hbz : ((b : Int) == 0) = false := by rw [beq_eq_false_iff_ne]; omega
    have hi : (Try.prog.info? 5).map (fun i => (i.zero, i.size, i.bytes)) = some (some (.int .u8 0), 1, 1) := by kernel_rfl
    have hu := Try.underlying22
    have Hi := hide hi
    have Hv := hide hv
    clear hi hv
    go_enter Try.func7, Try.ntmps7
    go_wp2_with fail
    refine (lives02_any _).mono ?_
    rintro e w1 ⟨rfl, hb1⟩
    obtain ⟨i, hi, hil⟩ := uint_mod at0 (8 * (l.length : Int) - 31) (by omega) (by omega)
    have ho0 := own_new (F := all w) 5 1 0 [] ((on_all w).below hb1) rfl (by decide)
    have Ho0 := hide ho0
    have Hv1 := hide ((Hv.out.below hb1).below ((Below.refl _ _).alloc (Nat.le_refl _) (.cells #[] 5)))
    clear ho0
    go_wp2_with (at_builtin; refine wpList_append_bytes (F := all w) rfl _ _ 22 rfl 5 hu Hi.out _ [] l rfl Ho0.out _ rfl Hv1.out (by simp; omega) ?_; intro v2 w2 ho2 hs2)
    rw [List.nil_append] at ho2
    have hs2 := ((Str.below hb1).alloc _).trans hs2
    obtain ⟨g, cap, rfl, hcap1, hcap2⟩ := own_block ho2 (by omega)
    have Ho2 := hide ho2
    have Hs2 := hide hs2
    clear ho2 hs2 Ho0 Hv1 hi
    unfold maxLen at hcap2
    go_loopw [39] (fun q wr => FindRel w l g cap i b q wr) (fun q _ => 32 - (intOf q).toNat)
    case atStart => exact ⟨0, l, by omega, rfl, rfl, Ho2.out, by simp [Nat.mod_one], Hs2.out⟩
    case round =>
      obtain ⟨k, m, hk, rfl, hml, how, hnum, hstr⟩ := hrel
      have How := hide how
      have Hstr := hide hstr
      have Hnum := hide hnum
      have Hml := hide hml
      have hB : Below w.heap.size w wr := all_below how.right hstr
      clear how hstr hnum hml
      by_cases hlt : k < 32
      · have hp : ((b : Int) / 2 ^ k) = ((b / 2 ^ k : Nat) : Int) := by simp
        have hble : b / 2 ^ k ≤ b := Nat.div_le_self _ _
        have HM := hide (mod_succ b k)
        generalize b / 2 ^ k = y at hp hble HM
        have e1 : bits .and .u32 (y : Int) 1 = ((y % 2 : Nat) : Int) := by
          rw [show (1 : Int) = ((1 : Nat) : Int) from rfl, u32_and_nat y 1 (by omega) (by omega), Nat.and_one_is_mod]
        rcases Nat.mod_two_eq_zero_or_one y with hm2 | hm2
        · have e3 : ((bits .and .u32 (y : Int) 1) == 1) = false := by rw [e1, hm2]; rfl
          have HM2 := hide (show b % 2 ^ (k + 1) = b % 2 ^ k by rw [HM.out, hm2]; simp)
          clear e1 hm2
          go_wp2
          go_roundw
          case rel => exact ⟨k + 1, m, by omega, by go_num, Hml.out, How.out, by rw [HM2.out]; exact Hnum.out, Hstr.out⟩
          case measure => simp [intOf]; omega
        · have e3 : ((bits .and .u32 (y : Int) 1) == 1) = true := by rw [e1, hm2]; rfl
          have HM2 := hide (show b % 2 ^ (k + 1) = b % 2 ^ k ^^^ 2 ^ k by rw [HM.out, hm2]; simp)
          clear e1 hm2
          have hj : (i + k) / 8 < m.length := by rw [Hml.out]; omega
          have hce := own_cell How.out ((i + k) / 8) _ (vbs_get m _ hj)
          have hfr := own_free How.out ((i + k) / 8)
          have hx := u8lt m[(i + k) / 8]
          generalize hxx : m[(i + k) / 8] = x at hce hx
          have Hxx := hide hxx
          clear hxx
          have hm8 : (i + k) % 8 < 8 := Nat.mod_lt _ (by omega)
          go_wp2_with fail
          go_region
          have hpw : 2 ^ ((i + k) % 8) < 256 := Nat.lt_of_lt_of_le (Nat.pow_lt_pow_right (by decide) hm8) (by decide)
          have hxl : x.toNat ^^^ 2 ^ ((i + k) % 8) < 256 := Nat.xor_lt_two_pow (n := 8) (by omega) (by omega)
          have e4 : bits .xor .u8 ((x.toNat : Nat) : Int) (2 ^ ((i + k) % 8) % 256) = ((x.toNat ^^^ 2 ^ ((i + k) % 8) : Nat) : Int) := by
            rw [show ((2 : Int) ^ ((i + k) % 8) % 256) = ((2 ^ ((i + k) % 8) : Nat) : Int) by push_cast; exact Int.emod_eq_of_lt (Int.le_of_lt (Int.pow_pos (by decide))) (by exact_mod_cast hpw), u8_xor_nat _ _ hx hpw]
          have e5 : (UInt8.ofNat (x.toNat ^^^ 2 ^ ((i + k) % 8))).toNat = x.toNat ^^^ 2 ^ ((i + k) % 8) := by
            generalize x.toNat ^^^ 2 ^ ((i + k) % 8) = z at hxl ⊢
            simp; omega
          have Hst := hide (own_store How.out (j := (i + k) / 8) (by rw [← Hml.out]; exact hj) (vb (UInt8.ofNat (x.toNat ^^^ 2 ^ ((i + k) % 8)))))
          have Hset := hide (numOf_set m ((i + k) / 8) ((i + k) % 8) hj hm8 (UInt8.ofNat (x.toNat ^^^ 2 ^ ((i + k) % 8))) (by rw [e5, Hxx.out]))
          rw [vbs_set, vb, e5] at Hst
          have Hml' := hide (show (m.set ((i + k) / 8) (UInt8.ofNat (x.toNat ^^^ 2 ^ ((i + k) % 8)))).length = l.length by rw [List.length_set]; exact Hml.out)
          generalize m.set ((i + k) / 8) (UInt8.ofNat (x.toNat ^^^ 2 ^ ((i + k) % 8))) = m' at Hst Hset Hml'
          go_wp2
          go_roundw
          case rel => exact ⟨k + 1, m', by omega, by go_num, Hml'.out, Hst.out.drew, by rw [Hset.out, HM2.out, Hnum.out, mul_xor, Nat.xor_assoc, ← Nat.pow_add, Nat.div_add_mod], ((Hstr.out).setCell _ _).drew⟩
          case measure => simp [intOf]; omega
      · obtain rfl : k = 32 := by omega
        have hne := burst_found 4294967295 l m i b Hml.out (by omega) (by omega) (by omega) (by rw [Hnum.out, Nat.mod_eq_of_lt (by omega)])
        have hq1 := crcBytes_lt (r := 4294967295) (by omega) l
        have hq2 := crcBytes_lt (r := 4294967295) (by omega) m
        have e1 : ((crcUpd 0 m : Nat) : Int) != ((crcUpd 0 l : Nat) : Int) := by
          rw [bne_iff_ne]; unfold crcUpd; simp only [Nat.sub_zero]; omega
        have hO : IsBytes wr (.slice (some ⟨g, 0, Option.none⟩) l.length cap) m := by have := How.out; rw [← Hml.out] at this ⊢; exact own_bytes this
        have Hne := hide hne
        clear hne
        generalize hg1 : crcUpd 0 m = q1 at e1
        generalize hg2 : crcUpd 0 l = q2 at e1
        have Hg1 := hide hg1
        have Hg2 := hide hg2
        clear hg1 hg2
        go_wp2_with fail
        refine (sum_any _ [m] _ (IsRows.one hO 22)).mono ?_
        simp only [List.flatten_cons, List.flatten_nil, List.append_nil]
        rw [Hg1.out]
        rintro e w4 ⟨rfl, hb4⟩
        have hB4 : Below w.heap.size w w4 := (hB.alloc hB.size _).trans (hb4.mono (by have := hB.size; simp; omega))
        go_wp2_with fail
        refine (sum_any _ [l] _ (IsRows.one (Hv.out.below hB4) 22)).mono ?_
        simp only [List.flatten_cons, List.flatten_nil, List.append_nil]
        rw [Hg2.out]
        rintro e w5 ⟨rfl, hb5⟩
        go_wp2
        go_ret
        exact ⟨rfl, (hB4.alloc hB4.size _).trans (hb5.mono (by have := hB4.size; simp; omega))⟩
namespace lawCrcFinds
theorem own : ownKnob Try.prog.godebug = Option.none := by kernel_rfl
theorem laidOut : laidOutB Try.prog = true := by kernel_rfl
set_option maxRecDepth 100000 in
theorem lifted (os : Os) (started : os.Started) (H : Type) (enc : TypeId × Value → H) :
    ReturnsInHanded {} Try.checked os 7 .any (Rows.crcFindsSpec.pre6 enc Try.prog Try.f7 Rows.crcFindsRow.domain false) (Rows.crcFindsSpec.post enc Try.prog Try.f7 false true false false) := by
  refine returnsInHanded_of_change (C := Try.checked) own started (by kernel_rfl) Try.func7
    (ChangeSpec.witness6 (enc := enc) (C := Try.checked) false ⟨#[], #[.slice Option.none 0 0, .int .i64 0, .int .u32 0], []⟩ 8 (by kernel_rfl) (by kernel_rfl) (by kernel_rfl) (by kernel_rfl)) ?_
  intro W base args ds gs before hval0 hW hcnd _
  have hval : ∀ (j : Nat) t v, Try.f7.params[j]? = some t → args[j]? = some v → Value.okWide Try.prog W .any base t v := hval0
  have hW' := hW
  obtain ⟨p, q, hA0, hV, rfl, hfz, hnd⟩ := hW
  have hA : DataW.TrodAll enc Try.prog W 0 (fun _ => true) true Try.f7.params.toList args.toList ds p := hA0
  rw [Try.params7] at hA hval
  obtain ⟨v0, vs0, d0, ds0, p0, q0, hargs, rfl, rfl, h0, r0⟩ := trodAll_cons hA
  obtain ⟨v1, vs1, d1, ds1, p1, q1, rfl, rfl, rfl, h1, r1⟩ := trodAll_cons r0
  obtain ⟨v2, vs2, d2, ds2, p2, q2, rfl, rfl, rfl, h2, r2⟩ := trodAll_cons r1
  obtain ⟨rfl, rfl, rfl⟩ := trodAll_nil r2
  obtain rfl : args = #[v0, v1, v2] := by cases args; simp_all
  obtain ⟨rfl, rfl⟩ := trodVars_none hV
  have k0 := h0
  have lt0 : ∀ x ∈ p0, x.block < W.heap.size := by obtain ⟨m, hm⟩ := k0; exact DataW.trod_lt m _ _ _ hm
  obtain ⟨l0, b0⟩ := open_bytes Try.underlying22 Try.underlying5 (by kernel_rfl) (hval 0 22 v0 rfl rfl) h0
  have k1 := h1
  have lt1 : ∀ x ∈ p1, x.block < W.heap.size := by obtain ⟨m, hm⟩ := k1; exact DataW.trod_lt m _ _ _ hm
  obtain ⟨a1, rfl, rfl, rfl, w1⟩ := open_int Try.underlying3 (hval 1 3 v1 rfl rfl) h1
  obtain ⟨l1, u1⟩ := wf_i64 w1
  have k2 := h2
  have lt2 : ∀ x ∈ p2, x.block < W.heap.size := by obtain ⟨m, hm⟩ := k2; exact DataW.trod_lt m _ _ _ hm
  obtain ⟨a2, rfl, rfl, rfl, w2⟩ := open_int Try.underlying23 (hval 2 23 v2 rfl rfl) h2
  obtain ⟨l2, u2⟩ := wf_u32 w2
  clear hA0 hval0
  refine (walk_CrcFinds W v0 l0 b0 a1 l1 u1 a2 l2 u2).mono fun e W' ⟨he, bel⟩ => ?_
  subst he
  exact ⟨_, rfl, _, _, _, [], _, [], hW', trodAll_mk1 (shut_bool Try.underlying4 _), (trodAll_cons_mk (Below.trod laidOut (by kernel_rfl) (of_decide_eq_true (by kernel_rfl)) k0 bel lt0) (trodAll_cons_mk (shut_int Try.underlying3 w1) (trodAll_cons_mk (shut_int Try.underlying23 w2) trodAll_mk0))), rfl, bel.frame _, fun h => by cases h⟩

theorem over : Rows.crcFindsRow.holds Try.pinned (OpenSpec.ofChange Rows.crcFindsSpec) :=
  OpenClaim.holds_of_wide 7 Try.f7 rfl rfl rfl rfl rfl rfl rfl ⟨rfl, rfl, rfl, rfl, rfl⟩ rfl rfl rfl rfl rfl (by kernel_rfl) Try.func7 (by kernel_rfl)
    (of_decide_eq_true (by kernel_rfl)) (by unfold Func.isWrapper; first | (rw [if_pos (by decide +kernel)]; kernel_rfl) | (rw [if_neg (by decide +kernel)]; exact ⟨rfl, rfl⟩))
    (fun os started H enc _ => lifted os started H enc)

theorem proved : Rows.CrcFindsSaid := over
end lawCrcFinds
end Go.Proofs.Ytdbnjejpejmmjaa
