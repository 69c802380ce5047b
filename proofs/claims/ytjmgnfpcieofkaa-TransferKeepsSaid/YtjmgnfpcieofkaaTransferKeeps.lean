/- The law TransferKeeps: an image that is kept piece by piece, the power going anywhere, is kept as it is, as far as it is told. -/
import Derived.Test.YtjmgnfpcieofkaaGKeep
import Derived.Test.YtjmgnfpcieofkaaRowsOpen
import Derived.Test.YtjmgnfpcieofkaaTr9
import Derived.Deep.QuietTactic
import Derived.BigQuiet

namespace Go.Proofs.Ytjmgnfpcieofkaa
open Go.ChangeShapes Go.WideShapes Go.ChangeAt Go.RowKit
set_option linter.unusedVariables false
set_option linter.unusedSimpArgs false

theorem IsBytes.inAll {w w' : World} {v : Value} {l : List UInt8} (h : IsBytes w v l) (ha : (all w).on w') : IsBytes w' v l := by
  obtain ⟨a, c, rfl, h1, h2, h3, h4⟩ := h
  refine ⟨a, c, rfl, h1, h2, fun i v e => ?_, h4⟩
  obtain ⟨b, off, ea, hc⟩ := h3 i v e
  refine ⟨b, off, ea, ?_⟩
  obtain ⟨x, hs, p⟩ := ha
  have hb := World.block_lt_of_cell? _ _ hc
  have e1 : w'.heap[b]? = w.heap[b]? := by
    have e0 : w.heap[b]? = some (w.heap[b]'hb) := Array.getElem?_eq_getElem hb
    rw [e0]
    exact hs b _ ((p b hb).trans e0)
  have : w'.cell? ⟨b, off + i, Option.none⟩ = w.cell? ⟨b, off + i, Option.none⟩ := by
    unfold World.cell?
    simp only [e1]
  rw [this]
  exact hc
theorem um400 (t : Int) : ∃ k : Nat, k < 400 ∧ (IntKind.u64.wrap t).tmod 400 = (k : Int) := by
  have h0 : 0 ≤ IntKind.u64.wrap t := by rw [IntKind.wrap_u64]; omega
  refine ⟨((IntKind.u64.wrap t) % 400).toNat, by omega, ?_⟩
  rw [Int.tmod_eq_emod_of_nonneg h0]
  omega
theorem new_kErr (n : Nat) (h : 34 ≤ n) : (FlS.new n).kErr = 0 := by
  have : (FlS.new n).B.length = n * 256 := by simp [FlS.new]
  unfold FlS.kErr
  rw [if_neg (by omega), new_load n (by omega), if_neg (fun c => c.2 rfl)]
theorem Kept.got {t M i : Nat} {image : List UInt8} {s : FlS} {R : RecS} (h : Kept t M image i s R) : R.got = (packetB, R.done) := by
  unfold RecS.got
  rw [if_pos h.phase, h.init]
theorem Kept.image {t M i : Nat} {image : List UInt8} {s : FlS} {R : RecS} (h : Kept t M image i s R) (hl : image.length ≤ 4096) : (s.B.drop (4608 + 0)).take R.done = image.take R.done := by
  have hpg := h.live.ok.pages
  have hw := h.worn
  have hle := h.le
  apply List.ext_getElem?
  intro j
  rw [List.getElem?_take, List.getElem?_take]
  by_cases hj : j < R.done
  · rw [if_pos hj, if_pos hj, List.getElem?_drop]
    exact get_of_getD (by omega) (by omega) (h.bytes j hj)
  · rw [if_neg hj, if_neg hj]

set_option maxRecDepth 100000 in
set_option maxHeartbeats 32000000 in
theorem walk_TransferKeeps (w : World) (v0 : Value) (image : List UInt8) (b0 : IsBytes w v0 image) (v1 : Value) (M : List Int) (b1 : IsRowsC 1 i64C w v1 M) (g1 : ∀ y ∈ M, -9223372036854775808 ≤ y ∧ y ≤ 9223372036854775807) (a2 : Int) (l2 : 0 ≤ a2) (u2 : a2 ≤ 4294967295) :
    Calls Try.prog 6 #[v0, v1, .int .u32 a2] w fun e w' => e = .returned (.bool true) ∧ Below w.heap.size w w' := by
  have hui := Try.underlying3
  have huu := Try.underlying24
  have hsu := Try.underlying33
  have hsb := Try.underlying5
  have hst := Try.underlying9
  have kc := fun (w : World) (b : Nat) (hb : b = w.heap.size) (C : Array Value) (n c : Nat) => run_bytes_const (P := Try.prog) w b hb 33 5 C n c Try.underlying33 Try.underlying5
  have hlive := lives18_any w
  obtain ⟨t, rfl⟩ := Int.eq_ofNat_of_zero_le l2
  have ht32 : t < 4294967296 := by omega
  have HB0 := hide b0
  obtain ⟨ia, ic, rfl, hic, him, hil, _⟩ := b0
  have HIL := hide hil
  obtain ⟨ma, mc, rfl, hmc, hmm, hcell1⟩ := b1
  have B1 := hide (show IsRowsC 1 i64C w (.slice ma M.length mc) M from ⟨_, _, rfl, hmc, hmm, hcell1⟩)
  have C1 := hide hcell1
  have G1 := hide g1
  clear hcell1 g1 l2 u2 hil
  unfold maxLen at him hmm
  go_enter Try.func6, Try.ntmps6
  go_wp2_with fail
  refine hlive.mono ?_
  clear hlive
  rintro e w1 ⟨rfl, hb⟩
  by_cases hbig : 4096 < image.length ∨ 20 < M.length
  · have hl2 := lives18_any w1
    have HB := hide hb
    clear hb
    rcases Nat.lt_or_ge 4096 image.length with c1 | c1
    · go_wp2_with fail
      refine hl2.mono ?_
      rintro e w2 ⟨rfl, hb2⟩
      go_wp2_with fail
      go_ret
      exact ⟨rfl, HB.out.trans (hb2.mono HB.out.size)⟩
    · have c2 : 20 < M.length := by omega
      clear hbig
      go_wp2_with fail
      refine hl2.mono ?_
      rintro e w2 ⟨rfl, hb2⟩
      go_wp2_with fail
      go_ret
      exact ⟨rfl, HB.out.trans (hb2.mono HB.out.size)⟩
  have hlen : image.length ≤ 4096 := by omega
  have hM : M.length ≤ 20 := by omega
  clear hbig
  have H1 := hide ((on_all w).below hb)
  have S1 := hide (Str.below hb)
  clear hb
  go_wp2_with fail
  refine (new_any 34 (by omega) (by omega) w1).mono ?_
  rintro e w2 ⟨v, rfl, ho, hs⟩
  obtain ⟨p, rfl, ho2⟩ := newQ.out ho
  have H2 := hide (on_all_to ho2 H1.out)
  have S2 := hide (S1.out.trans hs)
  have Hks := hide (keep_start t M.length image)
  have Hke := hide (show (FlS.new 34).kErr = 0 ∧ (FlS.new 34).load.1 = zeroS from ⟨new_kErr 34 (by omega), by rw [new_load 34 (by omega)]⟩)
  have Hfit := hide (FlS.Fit.new 34 (by omega) (by omega))
  have hwn : 34 ≤ (FlS.new 34).worn.length := by simp [FlS.new]
  clear ho ho2 hs H1 S1
  generalize FlS.new 34 = s0 at *
  have hT := tnew_any p s0 _ w2 H2.out Hfit.out.ok
  go_wp2_with fail
  refine hT.mono ?_
  clear hT
  rintro e w3 (⟨h0, _⟩ | ⟨_, q, rfl, h3, hs3⟩)
  · exact absurd Hke.out.1 h0
  rw [Hke.out.2] at h3
  have h4 := h3.alloc (.cells (vbs packetB).toArray 5 (6, 7))
  rw [SP.mul_left_comm, SP.mul_left_comm (blk _ _) (Flash p s0)] at h4
  obtain ⟨s1, R1, hst1, hkp⟩ := Hks.out
  have hP := kstart_any q p zeroS s0 _ 0 Hfit.out (by omega) hwn zeroS_ok (.slice (some ⟨w3.heap.size, 0, Option.none⟩) 6 6) packetB (by decide) (fun W h => bytes_blk (l := packetB) h (by decide)) _ h4
  rw [hst1] at hP
  have HP := hide hP
  have HS4 := hide ((S2.out.trans hs3).alloc (.cells (vbs packetB).toArray 5 (6, 7)))
  have Hkp := hide hkp
  clear h3 h4 hs3 S2 H2 hP hst1 Hks Hke Hfit hwn hkp
  go_wp2_with fail
  refine HP.out.mono ?_
  clear HP
  rintro e w5 ⟨rfl, h5, hs5⟩
  have h5 : (Kp q p R1 * (Flash p s1 * (blk w3.heap.size (.cells (vbs packetB).toArray 5 (6, 7)) * all w))).on w5 := h5
  have h6 : (Kp q p R1 * (Flash p s1 * all w)).on w5 := by
    rw [← SP.mul_assoc] at h5 ⊢
    exact SP.le.on (SP.le.mul (SP.le.refl _) (SP.le_right _ _)) h5
  have H5 := hide h6
  have S5 := hide (HS4.out.trans hs5)
  clear h5 h6 hs5 HS4
  dsimp only
  go_wp2_with fail
  go_loopw [9, 11] (fun kv i wr => ∃ (k : Nat) (s : FlS) (R : RecS) (q : Nat), i = .int .i64 k ∧ kv = .pointer (some ⟨q, 0, Option.none⟩) ∧ Kept t M.length image k s R ∧ (Kp q p R * (Flash p s * all w)).on wr ∧ Str w wr) (fun _ i _ => 40 - (intOf i).toNat)
  case atStart => exact ⟨0, s1, R1, q, rfl, rfl, Hkp.out, H5.out, S5.out⟩
  case round =>
    clear H5 S5 Hkp
    obtain ⟨k, s, R, q, rfl, rfl, hkt, hw, hstr⟩ := hrel
    have hdl := hkt.le
    have hk24 : k ≤ 24 := by have := hkt.count; omega
    have hgot := hkt.got
    have himg := hkt.image hlen
    have hL := kload_any q p R _ wr hw hkt.ok
    have Hgot := hide hgot
    have Himg := hide himg
    have HW := hide hw
    have HS := hide hstr
    have Hkt := hide hkt
    have HL := hide hL
    clear hw hstr hkt hL hgot himg
    go_wp2_with fail
    refine HL.out.mono ?_
    clear HL
    rintro e wa ⟨va, rfl, ho, hs⟩
    rw [Hgot.out] at ho ⊢
    simp only at ho ⊢
    have ha := HW.out.below (all_below ho.right hs)
    have Hva := hide ho
    have HWa := hide ha
    have HSa := hide (HS.out.trans hs)
    have hI := kimage_any q p R s _ Hkt.out.live.ok Hkt.out.live.off (by rw [Hkt.out.worn]; omega) Hkt.out.ok (by rw [Hgot.out]; show R.done ≤ 4096; omega) wa ha
    rw [Hgot.out] at hI
    simp only at hI
    rw [Himg.out] at hI
    have HI := hide hI
    clear ho hs ha hI HW HS Hgot Himg
    go_wp2_with fail
    refine HI.out.mono ?_
    clear HI
    rintro e wb ⟨v2, rfl, h2, hs2⟩
    obtain ⟨x, rfl, h3⟩ := readQ.out h2
    have hbl := all_below h3.right hs2
    have HWb := hide (HWa.out.below hbl)
    have HSb := hide (HSa.out.trans hs2)
    have hbv := (own_bytes Hva.out).below hbl
    have hbx := own_bytes h3
    have hbi := HB0.out.inAll HWb.out.right.right
    obtain ⟨xa, xc, rfl, hxc, hxm, hxl, _⟩ := hbx
    obtain ⟨ya, yc, rfl, hyc, hym, hyl, _⟩ := hbv
    clear Hva HWa HSa h2 h3 hs2 hbl
    have hlt : (image.take R.done).length = R.done := by rw [List.length_take]; omega
    have hpl : packetB.length = 6 := rfl
    have k1 : ∀ n, (convert 33 9 (.slice ya 6 yc)).run Try.prog (wb.drewN n) = .ok (.string { data := #[112, 97, 99, 107, 101, 116] }) (wb.drewN n) := fun n => run_string_of (P := Try.prog) (w := wb.drewN n) (c := yc) (l := [112, 97, 99, 107, 101, 116]) hsu hsb (show Lay (wb.drewN n) ya (vbs ([112, 97, 99, 107, 101, 116] : List UInt8)) from fun i v e => by
        obtain ⟨b, off, h1, h2⟩ := hyl i v e
        exact ⟨b, off, h1, by simpa using h2⟩) _ hst
    have k2 := fun n => run_string_of (P := Try.prog) (w := wb.drewN n) (c := xc) hsu hsb (show Lay (wb.drewN n) xa (vbs (image.take R.done)) from fun i v e => by
        obtain ⟨b, off, h1, h2⟩ := hxl i v e
        exact ⟨b, off, h1, by simpa using h2⟩) _ hst
    have k3 := fun n => run_string_of (P := Try.prog) (w := wb.drewN n) (c := ic) hsu hsb (show Lay (wb.drewN n) ia (vbs (image.take R.done)) from fun i v e => by
        have e2 : (vbs image)[i]? = some v := by
          have h1 : (vbs (image.take R.done))[i]? = some v := e
          unfold vbs at h1 ⊢
          rw [List.map_take, List.getElem?_take] at h1
          split at h1
          · exact h1
          · cases h1
        obtain ⟨a', c', e3, _, _, hbil, _⟩ := hbi
        simp only [Value.slice.injEq] at e3
        obtain ⟨rfl, _, _⟩ := e3
        obtain ⟨b, off, h1, h2⟩ := hbil i v e2
        exact ⟨b, off, h1, by simpa using h2⟩) _ hst
    rw [hlt] at k2 k3 ⊢
    rw [hpl]
    have hdl2 : (R.done : Int) ≤ image.length := by omega
    have Hlt := hide hlt
    clear hlt hpl hxl hyl hbi
    clear hxc hxm hyc hym
    have hdc : (R.done : Int) ≤ ic := by omega
    generalize strOf (image.take R.done) = sx at k2 k3
    go_wp2_with fail
    go_quiet (fail)
    have HWc := hide (SP.on_of_heap (w' := wb.drewN nq) HWb.out rfl)
    have HSc := hide (show Str w (wb.drewN nq) from ⟨HSb.out.os, HSb.out.tape, HSb.out.output, HSb.out.size⟩)
    clear HWb HSb k1 k2 k3 hdc
    generalize wb.drewN nq = wc at *
    by_cases hdone : R.done = image.length
    · have hdI : (R.done : Int) = image.length := by omega
      clear hdone
      go_wp2_with fail
      go_ret
      exact ⟨rfl, all_below HWc.out.right.right HSc.out⟩
    have hdlt : R.done < image.length := by omega
    obtain ⟨ib, io, rfl⟩ : ∃ b off, ia = some ⟨b, off, Option.none⟩ := HIL.out.isAddr 0 (by simp; omega)
    obtain ⟨n, hn⟩ : ∃ n, n = min (R.done + 1024) image.length - R.done := ⟨_, rfl⟩
    have hnb : 1 ≤ n ∧ n ≤ 1024 ∧ R.done + n ≤ image.length := by omega
    have Hn := hide hn
    by_cases hkm : k < M.length
    · obtain ⟨m, hmk⟩ : ∃ y, M[k]? = some y := ⟨_, List.getElem?_eq_getElem hkm⟩
      obtain ⟨b2, off2, rfl, _⟩ := C1.out _ _ hmk
      have hcm := B1.out.cell (all_below HWc.out.right.right HSc.out) k hmk 0 _ rfl
      simp only [Nat.mul_one, Nat.add_zero] at hcm
      clear hmk
      by_cases hfull : R.done + 1024 ≤ image.length
      · have hn2 : n = 1024 := by omega
        have Hn2 := hide hn2
        clear hn hn2
        go_wp2_with fail
        obtain ⟨kk, hkk, hq⟩ := um400 m
        have hw1 : wrap64 (kk : Int) = (kk : Int) := IntWalk.wrap64_in _ (by omega)
        rw [hq, hw1, tear_eq t k ht32, show R.done + 1024 - R.done = n by have := Hn2.out; omega]
        clear hw1 hq
        have h6 := HWc.out
        rw [SP.mul_left_comm] at h6
        refine (fail_any p s _ _ h6 kk (tearK t k)).mono ?_
        rintro e W13 ⟨rfl, h7, hs7⟩
        have hmin : min k M.length = k := by omega
        have hkr := keep_round hM hlen Hkt.out hdlt (s1 := s.fail kk (tearK t k)) (by rw [hmin]; exact Hkt.out.live.fail kk _ (by omega) (tearK_lt t k ht32)) rfl rfl (Hkt.out.fit.fail kk _ (by omega) (tearK_lt t k ht32)) (fun _ => hkm) _ n Hn.out rfl
        have hft := Hkt.out.fit.fail kk _ (by omega) (tearK_lt t k ht32)
        have hwo : 34 ≤ (s.fail kk (tearK t k)).worn.length := by show 34 ≤ s.worn.length; rw [Hkt.out.worn]; omega
        have h8 : (Flash p (s.fail kk (tearK t k)) * (Kp q p R * all w)).on W13 := h7
        rw [SP.mul_left_comm] at h8
        have H13 := hide h8
        have S13 := hide (HSc.out.trans hs7)
        have Hkr := hide hkr
        have Hft := hide hft
        clear h6 h7 hs7 h8 hkr hft hmin HWc HSc hcm
        generalize s.fail kk (tearK t k) = s1 at *
        have hbi : ∀ W, (all w).on W → IsBytes W (.slice (some ⟨ib, io + R.done, Option.none⟩) n (ic - R.done)) ((image.drop R.done).take n) := fun W hW => (HB0.out.inAll hW).part' R.done n (by omega)
        have hP := kput_any q p R s1 _ (k * 3000 + 3000) Hft.out (by omega) hwo Hkt.out.ok (by omega) _ _ hbi _ H13.out
        obtain ⟨hbl, G, hk2, hld, hke, hcs⟩ := Hkr.out
        generalize (image.drop R.done).take n = bb at *
        obtain ⟨X, hX⟩ : ∃ y, y = kPut s1 R bb := ⟨_, rfl⟩
        rw [← hX] at hP hk2 hld hke hcs
        clear hX Hkr Hft hbi
        obtain ⟨s2, r2, er⟩ := X
        have HP := hide hP
        have Hk2 := hide hk2
        have Hld := hide hld
        have Hke := hide hke
        have Hcs := hide hcs
        clear hP hk2 hld hke hcs hbl
        go_wp2_with fail
        refine HP.out.mono ?_
        clear HP
        rintro e W14 ⟨rfl, h9, hs9⟩
        simp only at h9
        rw [SP.mul_left_comm] at h9
        have S14 := hide (S13.out.trans hs9)
        have hPw := hide (power_any p s2 _ _ h9)
        clear h9 hs9 S13 H13
        dsimp only
        go_wp2_with fail
        refine hPw.out.mono ?_
        clear hPw
        rintro e W15 ⟨⟨_, rfl⟩, h10, hs10⟩
        have h10 : (Flash p s2.power * (Kp q p r2 * all w)).on W15 := h10
        have S15 := hide (S14.out.trans hs10)
        replace Hk2 : Hid (Kept t M.length image (k + 1) s2.power G) := Hk2
        replace Hld : Hid (s2.power.load.1 = G) := Hld
        replace Hke : Hid (s2.power.kErr = 0) := Hke
        generalize s2.power = s3 at *
        have hT := hide (tnew_any p s3 _ _ h10 Hk2.out.live.ok)
        clear h10 hs10 S14
        go_wp2_with fail
        refine hT.out.mono ?_
        clear hT
        rintro e W16 (⟨h0, _⟩ | ⟨_, q2, rfl, h11, hs11⟩)
        · exact absurd Hke.out h0
        rw [Hld.out] at h11
        have hL := hide (kload_any q2 p G _ _ h11 Hk2.out.ok)
        have h12 : (Kp q2 p G * (Flash p s3 * all w)).on W16 := by
          rw [← SP.mul_assoc] at h11 ⊢
          exact SP.le.on (SP.le.mul (SP.le.refl _) (SP.le_right _ _)) h11
        have H16 := hide h12
        have S16 := hide (S15.out.trans hs11)
        have Hgot := hide Hk2.out.got
        clear h11 h12 hs11 S15
        go_wp2_with fail
        refine hL.out.mono ?_
        clear hL
        rintro e W17 ⟨v5, rfl, ho, hs⟩
        rw [Hgot.out] at ho ⊢
        simp only at ho ⊢
        have H17 := hide (H16.out.below (all_below ho.right hs))
        have S17 := hide (S16.out.trans hs)
        obtain ⟨va5, vc5, rfl, _, _, _, _⟩ := own_value ho
        clear ho hs H16 S16
        rcases Hcs.out with ⟨rfl, hg⟩ | ⟨rfl, hg | hg⟩
        all_goals
          first | rw [show ((0 : Nat) : Int) = 0 from rfl] | rw [show ((5 : Nat) : Int) = 5 from rfl]
          rw [hg]
          try rw [Int.natCast_add]
          clear hg
          have hnI : (1 : Int) ≤ n ∧ (n : Int) ≤ 1024 := by omega
          have hdI : (R.done : Int) ≤ 4096 := by omega
          have hne : ((R.done : Int) + n == (R.done : Int)) = false := by simp; omega
          go_wp2_with fail
          exact ⟨⟨k + 1, s3, G, q2, by simp, rfl, Hk2.out, H17.out, S17.out⟩, by simp [intOf]; omega⟩
      · have hn2 : n = image.length - R.done := by omega
        have Hn2 := hide hn2
        clear hn hn2
        go_wp2_with fail
        obtain ⟨kk, hkk, hq⟩ := um400 m
        have hw1 : wrap64 (kk : Int) = (kk : Int) := IntWalk.wrap64_in _ (by omega)
        rw [hq, hw1, tear_eq t k ht32, show image.length - R.done = n by have := Hn2.out; omega]
        clear hw1 hq
        have h6 := HWc.out
        rw [SP.mul_left_comm] at h6
        refine (fail_any p s _ _ h6 kk (tearK t k)).mono ?_
        rintro e W13 ⟨rfl, h7, hs7⟩
        have hmin : min k M.length = k := by omega
        have hkr := keep_round hM hlen Hkt.out hdlt (s1 := s.fail kk (tearK t k)) (by rw [hmin]; exact Hkt.out.live.fail kk _ (by omega) (tearK_lt t k ht32)) rfl rfl (Hkt.out.fit.fail kk _ (by omega) (tearK_lt t k ht32)) (fun _ => hkm) _ n Hn.out rfl
        have hft := Hkt.out.fit.fail kk _ (by omega) (tearK_lt t k ht32)
        have hwo : 34 ≤ (s.fail kk (tearK t k)).worn.length := by show 34 ≤ s.worn.length; rw [Hkt.out.worn]; omega
        have h8 : (Flash p (s.fail kk (tearK t k)) * (Kp q p R * all w)).on W13 := h7
        rw [SP.mul_left_comm] at h8
        have H13 := hide h8
        have S13 := hide (HSc.out.trans hs7)
        have Hkr := hide hkr
        have Hft := hide hft
        clear h6 h7 hs7 h8 hkr hft hmin HWc HSc hcm
        generalize s.fail kk (tearK t k) = s1 at *
        have hbi : ∀ W, (all w).on W → IsBytes W (.slice (some ⟨ib, io + R.done, Option.none⟩) n (ic - R.done)) ((image.drop R.done).take n) := fun W hW => (HB0.out.inAll hW).part' R.done n (by omega)
        have hP := kput_any q p R s1 _ (k * 3000 + 3000) Hft.out (by omega) hwo Hkt.out.ok (by omega) _ _ hbi _ H13.out
        obtain ⟨hbl, G, hk2, hld, hke, hcs⟩ := Hkr.out
        generalize (image.drop R.done).take n = bb at *
        obtain ⟨X, hX⟩ : ∃ y, y = kPut s1 R bb := ⟨_, rfl⟩
        rw [← hX] at hP hk2 hld hke hcs
        clear hX Hkr Hft hbi
        obtain ⟨s2, r2, er⟩ := X
        have HP := hide hP
        have Hk2 := hide hk2
        have Hld := hide hld
        have Hke := hide hke
        have Hcs := hide hcs
        clear hP hk2 hld hke hcs hbl
        go_wp2_with fail
        refine HP.out.mono ?_
        clear HP
        rintro e W14 ⟨rfl, h9, hs9⟩
        simp only at h9
        rw [SP.mul_left_comm] at h9
        have S14 := hide (S13.out.trans hs9)
        have hPw := hide (power_any p s2 _ _ h9)
        clear h9 hs9 S13 H13
        dsimp only
        go_wp2_with fail
        refine hPw.out.mono ?_
        clear hPw
        rintro e W15 ⟨⟨_, rfl⟩, h10, hs10⟩
        have h10 : (Flash p s2.power * (Kp q p r2 * all w)).on W15 := h10
        have S15 := hide (S14.out.trans hs10)
        replace Hk2 : Hid (Kept t M.length image (k + 1) s2.power G) := Hk2
        replace Hld : Hid (s2.power.load.1 = G) := Hld
        replace Hke : Hid (s2.power.kErr = 0) := Hke
        generalize s2.power = s3 at *
        have hT := hide (tnew_any p s3 _ _ h10 Hk2.out.live.ok)
        clear h10 hs10 S14
        go_wp2_with fail
        refine hT.out.mono ?_
        clear hT
        rintro e W16 (⟨h0, _⟩ | ⟨_, q2, rfl, h11, hs11⟩)
        · exact absurd Hke.out h0
        rw [Hld.out] at h11
        have hL := hide (kload_any q2 p G _ _ h11 Hk2.out.ok)
        have h12 : (Kp q2 p G * (Flash p s3 * all w)).on W16 := by
          rw [← SP.mul_assoc] at h11 ⊢
          exact SP.le.on (SP.le.mul (SP.le.refl _) (SP.le_right _ _)) h11
        have H16 := hide h12
        have S16 := hide (S15.out.trans hs11)
        have Hgot := hide Hk2.out.got
        clear h11 h12 hs11 S15
        go_wp2_with fail
        refine hL.out.mono ?_
        clear hL
        rintro e W17 ⟨v5, rfl, ho, hs⟩
        rw [Hgot.out] at ho ⊢
        simp only at ho ⊢
        have H17 := hide (H16.out.below (all_below ho.right hs))
        have S17 := hide (S16.out.trans hs)
        obtain ⟨va5, vc5, rfl, _, _, _, _⟩ := own_value ho
        clear ho hs H16 S16
        rcases Hcs.out with ⟨rfl, hg⟩ | ⟨rfl, hg | hg⟩
        all_goals
          first | rw [show ((0 : Nat) : Int) = 0 from rfl] | rw [show ((5 : Nat) : Int) = 5 from rfl]
          rw [hg]
          try rw [Int.natCast_add]
          clear hg
          have hnI : (1 : Int) ≤ n ∧ (n : Int) ≤ 1024 := by omega
          have hdI : (R.done : Int) ≤ 4096 := by omega
          have hne : ((R.done : Int) + n == (R.done : Int)) = false := by simp; omega
          go_wp2_with fail
          exact ⟨⟨k + 1, s3, G, q2, by simp, rfl, Hk2.out, H17.out, S17.out⟩, by simp [intOf]; omega⟩
    · by_cases hfull : R.done + 1024 ≤ image.length
      · have hn2 : n = 1024 := by omega
        have Hn2 := hide hn2
        clear hn hn2
        have hkr := keep_round hM hlen Hkt.out hdlt (s1 := s) (Hkt.out.live.up _) rfl rfl Hkt.out.fit (fun c => by rw [Hkt.out.live.armed] at c; cases c) _ n Hn.out rfl
        have hwo : 34 ≤ s.worn.length := by rw [Hkt.out.worn]; omega
        have H13 := HWc
        have S13 := HSc
        have Hkr := hide hkr
        have Hft := hide Hkt.out.fit
        have Hokr := hide Hkt.out.ok
        clear hkr HWc HSc
        obtain ⟨s1, hs1⟩ : ∃ y, y = s := ⟨_, rfl⟩
        rw [← hs1] at H13 Hkr Hft hwo
        clear hs1
        obtain ⟨W13, hW13⟩ : ∃ y, y = wc := ⟨_, rfl⟩
        rw [← hW13] at H13 S13
        have hbi : ∀ W, (all w).on W → IsBytes W (.slice (some ⟨ib, io + R.done, Option.none⟩) n (ic - R.done)) ((image.drop R.done).take n) := fun W hW => (HB0.out.inAll hW).part' R.done n (by omega)
        have hP := kput_any q p R s1 _ (k * 3000 + 3000) Hft.out (by omega) hwo Hkt.out.ok (by omega) _ _ hbi _ H13.out
        obtain ⟨hbl, G, hk2, hld, hke, hcs⟩ := Hkr.out
        generalize (image.drop R.done).take n = bb at *
        obtain ⟨X, hX⟩ : ∃ y, y = kPut s1 R bb := ⟨_, rfl⟩
        rw [← hX] at hP hk2 hld hke hcs
        clear hX Hkr Hft hbi
        obtain ⟨s2, r2, er⟩ := X
        have HP := hide hP
        have Hk2 := hide hk2
        have Hld := hide hld
        have Hke := hide hke
        have Hcs := hide hcs
        clear hP hk2 hld hke hcs hbl
        go_wp2_with fail
        rw [show (Value.slice (some ⟨ib, io + R.done, Option.none⟩) 1024 (ic - R.done)) = .slice (some ⟨ib, io + R.done, Option.none⟩) n (ic - R.done) by rw [Hn2.out], ← hW13]
        refine HP.out.mono ?_
        clear HP
        rintro e W14 ⟨rfl, h9, hs9⟩
        simp only at h9
        rw [SP.mul_left_comm] at h9
        have S14 := hide (S13.out.trans hs9)
        have hPw := hide (power_any p s2 _ _ h9)
        clear h9 hs9 S13 H13
        dsimp only
        go_wp2_with fail
        refine hPw.out.mono ?_
        clear hPw
        rintro e W15 ⟨⟨_, rfl⟩, h10, hs10⟩
        have h10 : (Flash p s2.power * (Kp q p r2 * all w)).on W15 := h10
        have S15 := hide (S14.out.trans hs10)
        replace Hk2 : Hid (Kept t M.length image (k + 1) s2.power G) := Hk2
        replace Hld : Hid (s2.power.load.1 = G) := Hld
        replace Hke : Hid (s2.power.kErr = 0) := Hke
        generalize s2.power = s3 at *
        have hT := hide (tnew_any p s3 _ _ h10 Hk2.out.live.ok)
        clear h10 hs10 S14
        go_wp2_with fail
        refine hT.out.mono ?_
        clear hT
        rintro e W16 (⟨h0, _⟩ | ⟨_, q2, rfl, h11, hs11⟩)
        · exact absurd Hke.out h0
        rw [Hld.out] at h11
        have hL := hide (kload_any q2 p G _ _ h11 Hk2.out.ok)
        have h12 : (Kp q2 p G * (Flash p s3 * all w)).on W16 := by
          rw [← SP.mul_assoc] at h11 ⊢
          exact SP.le.on (SP.le.mul (SP.le.refl _) (SP.le_right _ _)) h11
        have H16 := hide h12
        have S16 := hide (S15.out.trans hs11)
        have Hgot := hide Hk2.out.got
        clear h11 h12 hs11 S15
        go_wp2_with fail
        refine hL.out.mono ?_
        clear hL
        rintro e W17 ⟨v5, rfl, ho, hs⟩
        rw [Hgot.out] at ho ⊢
        simp only at ho ⊢
        have H17 := hide (H16.out.below (all_below ho.right hs))
        have S17 := hide (S16.out.trans hs)
        obtain ⟨va5, vc5, rfl, _, _, _, _⟩ := own_value ho
        clear ho hs H16 S16
        rcases Hcs.out with ⟨rfl, hg⟩ | ⟨rfl, hg | hg⟩
        all_goals
          first | rw [show ((0 : Nat) : Int) = 0 from rfl] | rw [show ((5 : Nat) : Int) = 5 from rfl]
          rw [hg]
          try rw [Int.natCast_add]
          clear hg
          have hnI : (1 : Int) ≤ n ∧ (n : Int) ≤ 1024 := by omega
          have hdI : (R.done : Int) ≤ 4096 := by omega
          have hne : ((R.done : Int) + n == (R.done : Int)) = false := by simp; omega
          go_wp2_with fail
          exact ⟨⟨k + 1, s3, G, q2, by simp, rfl, Hk2.out, H17.out, S17.out⟩, by simp [intOf]; omega⟩
      · have hn2 : n = image.length - R.done := by omega
        have Hn2 := hide hn2
        clear hn hn2
        have hkr := keep_round hM hlen Hkt.out hdlt (s1 := s) (Hkt.out.live.up _) rfl rfl Hkt.out.fit (fun c => by rw [Hkt.out.live.armed] at c; cases c) _ n Hn.out rfl
        have hwo : 34 ≤ s.worn.length := by rw [Hkt.out.worn]; omega
        have H13 := HWc
        have S13 := HSc
        have Hkr := hide hkr
        have Hft := hide Hkt.out.fit
        have Hokr := hide Hkt.out.ok
        clear hkr HWc HSc
        obtain ⟨s1, hs1⟩ : ∃ y, y = s := ⟨_, rfl⟩
        rw [← hs1] at H13 Hkr Hft hwo
        clear hs1
        obtain ⟨W13, hW13⟩ : ∃ y, y = wc := ⟨_, rfl⟩
        rw [← hW13] at H13 S13
        have hbi : ∀ W, (all w).on W → IsBytes W (.slice (some ⟨ib, io + R.done, Option.none⟩) n (ic - R.done)) ((image.drop R.done).take n) := fun W hW => (HB0.out.inAll hW).part' R.done n (by omega)
        have hP := kput_any q p R s1 _ (k * 3000 + 3000) Hft.out (by omega) hwo Hkt.out.ok (by omega) _ _ hbi _ H13.out
        obtain ⟨hbl, G, hk2, hld, hke, hcs⟩ := Hkr.out
        generalize (image.drop R.done).take n = bb at *
        obtain ⟨X, hX⟩ : ∃ y, y = kPut s1 R bb := ⟨_, rfl⟩
        rw [← hX] at hP hk2 hld hke hcs
        clear hX Hkr Hft hbi
        obtain ⟨s2, r2, er⟩ := X
        have HP := hide hP
        have Hk2 := hide hk2
        have Hld := hide hld
        have Hke := hide hke
        have Hcs := hide hcs
        clear hP hk2 hld hke hcs hbl
        go_wp2_with fail
        rw [show (Value.slice (some ⟨ib, io + R.done, Option.none⟩) (image.length - R.done) (ic - R.done)) = .slice (some ⟨ib, io + R.done, Option.none⟩) n (ic - R.done) by rw [Hn2.out], ← hW13]
        refine HP.out.mono ?_
        clear HP
        rintro e W14 ⟨rfl, h9, hs9⟩
        simp only at h9
        rw [SP.mul_left_comm] at h9
        have S14 := hide (S13.out.trans hs9)
        have hPw := hide (power_any p s2 _ _ h9)
        clear h9 hs9 S13 H13
        dsimp only
        go_wp2_with fail
        refine hPw.out.mono ?_
        clear hPw
        rintro e W15 ⟨⟨_, rfl⟩, h10, hs10⟩
        have h10 : (Flash p s2.power * (Kp q p r2 * all w)).on W15 := h10
        have S15 := hide (S14.out.trans hs10)
        replace Hk2 : Hid (Kept t M.length image (k + 1) s2.power G) := Hk2
        replace Hld : Hid (s2.power.load.1 = G) := Hld
        replace Hke : Hid (s2.power.kErr = 0) := Hke
        generalize s2.power = s3 at *
        have hT := hide (tnew_any p s3 _ _ h10 Hk2.out.live.ok)
        clear h10 hs10 S14
        go_wp2_with fail
        refine hT.out.mono ?_
        clear hT
        rintro e W16 (⟨h0, _⟩ | ⟨_, q2, rfl, h11, hs11⟩)
        · exact absurd Hke.out h0
        rw [Hld.out] at h11
        have hL := hide (kload_any q2 p G _ _ h11 Hk2.out.ok)
        have h12 : (Kp q2 p G * (Flash p s3 * all w)).on W16 := by
          rw [← SP.mul_assoc] at h11 ⊢
          exact SP.le.on (SP.le.mul (SP.le.refl _) (SP.le_right _ _)) h11
        have H16 := hide h12
        have S16 := hide (S15.out.trans hs11)
        have Hgot := hide Hk2.out.got
        clear h11 h12 hs11 S15
        go_wp2_with fail
        refine hL.out.mono ?_
        clear hL
        rintro e W17 ⟨v5, rfl, ho, hs⟩
        rw [Hgot.out] at ho ⊢
        simp only at ho ⊢
        have H17 := hide (H16.out.below (all_below ho.right hs))
        have S17 := hide (S16.out.trans hs)
        obtain ⟨va5, vc5, rfl, _, _, _, _⟩ := own_value ho
        clear ho hs H16 S16
        rcases Hcs.out with ⟨rfl, hg⟩ | ⟨rfl, hg | hg⟩
        all_goals
          first | rw [show ((0 : Nat) : Int) = 0 from rfl] | rw [show ((5 : Nat) : Int) = 5 from rfl]
          rw [hg]
          try rw [Int.natCast_add]
          clear hg
          have hnI : (1 : Int) ≤ n ∧ (n : Int) ≤ 1024 := by omega
          have hdI : (R.done : Int) ≤ 4096 := by omega
          have hne : ((R.done : Int) + n == (R.done : Int)) = false := by simp; omega
          go_wp2_with fail
          exact ⟨⟨k + 1, s3, G, q2, by simp, rfl, Hk2.out, H17.out, S17.out⟩, by simp [intOf]; omega⟩
namespace lawTransferKeeps
theorem own : ownKnob Try.prog.godebug = Option.none := by kernel_rfl
theorem laidOut : laidOutB Try.prog = true := by kernel_rfl
set_option maxRecDepth 100000 in
theorem lifted (os : Os) (started : os.Started) (H : Type) (enc : TypeId × Value → H) :
    ReturnsInHanded {} Try.checked os 6 .any (Rows.transferKeepsSpec.pre6 enc Try.prog Try.f6 Rows.transferKeepsRow.domain false) (Rows.transferKeepsSpec.post enc Try.prog Try.f6 false true false false) := by
  refine returnsInHanded_of_change_sized (C := Try.checked) own started (by kernel_rfl) Try.func6
    (ChangeSpec.witness6 (enc := enc) (C := Try.checked) false ⟨#[], #[.slice Option.none 0 0, .slice Option.none 0 0, .int .u32 0], []⟩ 8 (by kernel_rfl) (by kernel_rfl) (by kernel_rfl) (by kernel_rfl)) ?_
  intro W base args ds gs before hval0 hW hcnd hsz _
  have hval : ∀ (j : Nat) t v, Try.f6.params[j]? = some t → args[j]? = some v → Value.okWide Try.prog W .any base t v := hval0
  have hW' := hW
  obtain ⟨p, q, hA0, hV, rfl, hfz, hnd⟩ := hW
  have hA : DataW.TrodAll enc Try.prog W 0 (fun _ => true) true Try.f6.params.toList args.toList ds p := hA0
  rw [Try.params6] at hA hval
  obtain ⟨v0, vs0, d0, ds0, p0, q0, hargs, rfl, rfl, h0, r0⟩ := trodAll_cons hA
  obtain ⟨v1, vs1, d1, ds1, p1, q1, rfl, rfl, rfl, h1, r1⟩ := trodAll_cons r0
  obtain ⟨v2, vs2, d2, ds2, p2, q2, rfl, rfl, rfl, h2, r2⟩ := trodAll_cons r1
  obtain ⟨rfl, rfl, rfl⟩ := trodAll_nil r2
  obtain rfl : args = #[v0, v1, v2] := by cases args; simp_all
  obtain ⟨rfl, rfl⟩ := trodVars_none hV
  have k0 := h0
  have lt0 : ∀ x ∈ p0, x.block < W.heap.size := by obtain ⟨m, hm⟩ := k0; exact DataW.trod_lt m _ _ _ hm
  obtain ⟨l0, b0, n0⟩ := open_bytes Try.underlying33 Try.underlying5 (by kernel_rfl) (hval 0 33 v0 rfl rfl) h0
  have k1 := h1
  have lt1 : ∀ x ∈ p1, x.block < W.heap.size := by obtain ⟨m, hm⟩ := k1; exact DataW.trod_lt m _ _ _ hm
  obtain ⟨l1, b1, g1⟩ := open_each i64C (fun y : Int => -9223372036854775808 ≤ y ∧ y ≤ 9223372036854775807) Try.underlying42 (show Try.prog.cellsOf 3 = 1 by kernel_rfl) (by decide) (each_i64 Try.underlying3) (hval 1 42 v1 rfl rfl) h1
  have k2 := h2
  have lt2 : ∀ x ∈ p2, x.block < W.heap.size := by obtain ⟨m, hm⟩ := k2; exact DataW.trod_lt m _ _ _ hm
  obtain ⟨a2, rfl, rfl, rfl, w2⟩ := open_int Try.underlying32 (hval 2 32 v2 rfl rfl) h2
  obtain ⟨l2, u2⟩ := wf_u32 w2
  clear hA0 hval0 hsz
  refine (walk_TransferKeeps W v0 l0 b0 v1 l1 b1 g1 a2 l2 u2).mono fun e W' ⟨he, bel⟩ => ?_
  subst he
  exact ⟨_, rfl, _, _, _, [], _, [], hW', trodAll_mk1 (shut_bool Try.underlying4 _), (trodAll_cons_mk (Below.trod laidOut (by kernel_rfl) (of_decide_eq_true (by kernel_rfl)) k0 bel lt0) (trodAll_cons_mk (Below.trod laidOut (by kernel_rfl) (of_decide_eq_true (by kernel_rfl)) k1 bel lt1) (trodAll_cons_mk (shut_int Try.underlying32 w2) trodAll_mk0))), rfl, bel.frame _, fun h => by cases h⟩

theorem over : Rows.transferKeepsRow.holds Try.pinned (OpenSpec.ofChange Rows.transferKeepsSpec) :=
  OpenClaim.holds_of_wide 6 Try.f6 rfl rfl rfl rfl rfl rfl rfl ⟨rfl, rfl, rfl, rfl, rfl⟩ rfl rfl rfl rfl rfl (by kernel_rfl) Try.func6 (by kernel_rfl)
    (of_decide_eq_true (by kernel_rfl)) (by unfold Func.isWrapper; first | (rw [if_pos (by decide +kernel)]; kernel_rfl) | (rw [if_neg (by decide +kernel)]; exact ⟨rfl, rfl⟩))
    (fun os started H enc _ => lifted os started H enc)

theorem proved : Rows.TransferKeepsSaid := over
end lawTransferKeeps
end Go.Proofs.Ytjmgnfpcieofkaa
