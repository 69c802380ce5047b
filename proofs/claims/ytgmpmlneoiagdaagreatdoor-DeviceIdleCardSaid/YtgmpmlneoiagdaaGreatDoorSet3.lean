/- settings: a page is written, in three steps. -/
import Derived.Test.YtgmpmlneoiagdaaGreatDoorSet2
namespace Go.Proofs.YtgmpmlneoiagdaaGreatDoor
open Go.ChangeShapes Go.WideShapes Go.ChangeAt Go.RowKit
set_option linter.unusedVariables false
set_option linter.unusedSimpArgs false

/-- behind so many of the steps: the flash, and the last one's error -/
def FlS.wk (s : FlS) (to : Nat) (b : List UInt8) : Nat → FlS × Nat
  | 0 => (s, 0)
  | 1 => s.prog (to * 256) [0, 0, 0, 0]
  | 2 => (s.prog (to * 256) [0, 0, 0, 0]).1.era to
  | _ => ((s.prog (to * 256) [0, 0, 0, 0]).1.era to).1.prog (to * 256) b
theorem wk_stop (s : FlS) (to : Nat) (b : List UInt8) (k : Nat) (hk : k < 3) (h : ∀ j, j ≤ k → (s.wk to b j).2 = 0) (hn : (s.wk to b (k + 1)).2 ≠ 0) : s.write to b = s.wk to b (k + 1) := by
  unfold FlS.write
  match k, hk with
  | 0, _ => exact if_pos hn
  | 1, _ => exact (if_neg (fun hh => hh (h 1 (by omega)))).trans (if_pos hn)
  | 2, _ => exact (if_neg (fun hh => hh (h 1 (by omega)))).trans (if_neg (fun hh => hh (h 2 (by omega))))
theorem wk_end (s : FlS) (to : Nat) (b : List UInt8) (h : ∀ j, j ≤ 3 → (s.wk to b j).2 = 0) : s.write to b = s.wk to b 3 := by
  unfold FlS.write
  exact (if_neg (fun hh => hh (h 1 (by omega)))).trans (if_neg (fun hh => hh (h 2 (by omega))))
theorem wk_fit {s : FlS} {n : Nat} (h : s.Fit n) (to : Nat) (b : List UInt8) (hb : b.length ≤ 1000000) : ∀ k, k ≤ 3 → (s.wk to b k).1.Fit (n + k * 250001)
  | 0, _ => h.mono (by omega)
  | 1, _ => (h.prog _ _).mono (by simp)
  | 2, _ => ((h.prog (to * 256) [0, 0, 0, 0]).era to).mono (by simp)
  | 3, _ => (((h.prog (to * 256) [0, 0, 0, 0]).era to).prog (to * 256) b).mono (by simp; omega)
def wBlks (p to : Nat) (v : Value) (g : Nat) (R : SP) : SP :=
  blk (g + 1 + 1 + 1 + 1) (.cells #[.func (.func 38) #[] #[.pointer (some ⟨g, 0, Option.none⟩), .pointer (some ⟨g + 1 + 1 + 1, 0, Option.none⟩)], .func (.func 39) #[] #[.pointer (some ⟨g, 0, Option.none⟩), .pointer (some ⟨g + 1, 0, Option.none⟩)], .func (.func 41) #[] #[.pointer (some ⟨g, 0, Option.none⟩), .pointer (some ⟨g + 1 + 1 + 1, 0, Option.none⟩), .pointer (some ⟨g + 1 + 1, 0, Option.none⟩)]] 54 (0, 0)) *
  (blk (g + 1 + 1 + 1) (.cells #[.int .i64 ((to : Int) * 256)] 3 (0, 0)) * (blk (g + 1 + 1) (.cells #[v] 22 (0, 0)) * (blk (g + 1) (.cells #[.int .i64 (to : Int)] 3 (0, 0)) * (blk g (.cells #[fptr p] 24 (0, 0)) * R))))

set_option maxRecDepth 100000 in
set_option maxHeartbeats 8000000 in
theorem write_any (p : Nat) (s : FlS) (F : SP) (n : Nat) (fit : s.Fit n) (hn : n ≤ 1099500000000) (to : Nat) (hto : to ≤ 1) (v : Value) (b : List UInt8) (hb4 : b.length % 4 = 0) (hbl : b.length ≤ 1000000) (hrd : ∀ w, F.on w → IsBytes w v b) (w : World) (h : (Flash p s * F).on w) :
    Calls Tryz.prog 23 #[fptr p, .int .i64 (to : Int), v] w fun e w' => e = .returned (.int .i64 ((s.write to b).2 : Int)) ∧ (Flash p (s.write to b).1 * F).on w' ∧ Str w w' := by
  have hmf : ∀ (fn : Fn) (first cap : Array Value) (w : World), (Instr.makeFunc fn first cap).run Tryz.prog w = .ok (.func fn first cap) w := fun _ _ _ _ => rfl
  have hv := hrd w h.right
  obtain ⟨av, cv, rfl, _, _, _, _⟩ := hv
  generalize hg : w.heap.size = g
  have h0 : (wBlks p to (.slice av b.length cv) g (Flash p (s.wk to b 0).1 * F)).on (((((w.alloc (.cells #[fptr p] 24)).alloc (.cells #[.int .i64 (to : Int)] 3)).alloc (.cells #[.slice av b.length cv] 22)).alloc (.cells #[.int .i64 ((to : Int) * 256)] 3)).alloc (.cells #[.func (.func 38) #[] #[.pointer (some ⟨g, 0, Option.none⟩), .pointer (some ⟨g + 1 + 1 + 1, 0, Option.none⟩)], .func (.func 39) #[] #[.pointer (some ⟨g, 0, Option.none⟩), .pointer (some ⟨g + 1, 0, Option.none⟩)], .func (.func 41) #[] #[.pointer (some ⟨g, 0, Option.none⟩), .pointer (some ⟨g + 1 + 1 + 1, 0, Option.none⟩), .pointer (some ⟨g + 1 + 1, 0, Option.none⟩)]] 54)) := by
    have := ((((h.alloc (.cells #[fptr p] 24)).alloc (.cells #[.int .i64 (to : Int)] 3)).alloc (.cells #[.slice av b.length cv] 22)).alloc (.cells #[.int .i64 ((to : Int) * 256)] 3)).alloc (.cells #[.func (.func 38) #[] #[.pointer (some ⟨g, 0, Option.none⟩), .pointer (some ⟨g + 1 + 1 + 1, 0, Option.none⟩)], .func (.func 39) #[] #[.pointer (some ⟨g, 0, Option.none⟩), .pointer (some ⟨g + 1, 0, Option.none⟩)], .func (.func 41) #[] #[.pointer (some ⟨g, 0, Option.none⟩), .pointer (some ⟨g + 1 + 1 + 1, 0, Option.none⟩), .pointer (some ⟨g + 1 + 1, 0, Option.none⟩)]] 54)
    simp only [World.size_alloc, hg] at this
    exact this
  have H0 := hide h0
  have S0 := hide ((((((Str.refl w).alloc (.cells #[fptr p] 24)).alloc (.cells #[.int .i64 (to : Int)] 3)).alloc (.cells #[.slice av b.length cv] 22)).alloc (.cells #[.int .i64 ((to : Int) * 256)] 3)).alloc (.cells #[.func (.func 38) #[] #[.pointer (some ⟨g, 0, Option.none⟩), .pointer (some ⟨g + 1 + 1 + 1, 0, Option.none⟩)], .func (.func 39) #[] #[.pointer (some ⟨g, 0, Option.none⟩), .pointer (some ⟨g + 1, 0, Option.none⟩)], .func (.func 41) #[] #[.pointer (some ⟨g, 0, Option.none⟩), .pointer (some ⟨g + 1 + 1 + 1, 0, Option.none⟩), .pointer (some ⟨g + 1 + 1, 0, Option.none⟩)]] 54))
  have Hfit := hide (wk_fit fit to b hbl)
  have Hrd := hide hrd
  have Hstop := hide (wk_stop s to b)
  have Hend := hide (wk_end s to b)
  have Hb4 := hide hb4
  have Hg := hide hg
  clear h h0 hrd hb4
  go_enter Tryz.func23, Tryz.ntmps23
  go_wp2_with fail
  try clear hg
  go_loopw [20] (fun i wr => ∃ k : Nat, k ≤ 3 ∧ i = .int .i64 k ∧ (∀ j, j ≤ k → (s.wk to b j).2 = 0) ∧ (wBlks p to (.slice av b.length cv) g (Flash p (s.wk to b k).1 * F)).on wr ∧ Str w wr) (fun i _ => 3 - (intOf i).toNat)
  case atStart =>
    refine ⟨0, by omega, rfl, ?_, H0.out, S0.out⟩
    intro j hj
    obtain rfl : j = 0 := by omega
    rfl
  case round =>
    obtain ⟨k, hk, rfl, he, hw, hstr⟩ := hrel
    have Hw := hide hw
    have Hstr := hide hstr
    have He := hide he
    have q0 := cell_of_row wr g 0 _ _ _ (on_blk_mul hw.right.right.right.right)
    have q1 := cell_of_row wr (g + 1) 0 _ _ _ (on_blk_mul hw.right.right.right)
    have q2 := cell_of_row wr (g + 1 + 1) 0 _ _ _ (on_blk_mul hw.right.right)
    have q3 := cell_of_row wr (g + 1 + 1 + 1) 0 _ _ _ (on_blk_mul hw.right)
    have hq3 : wr.cell? ⟨g + 1 + 1 + 1, 0, Option.none⟩ = some (.int .i64 ((to * 256 : Nat) : Int)) := by rw [show ((to * 256 : Nat) : Int) = (to : Int) * 256 by omega]; exact q3
    have ft := Hfit.out k (by omega)
    have hF : (Flash p (s.wk to b k).1 * (blk (g + 1 + 1 + 1 + 1) (.cells #[.func (.func 38) #[] #[.pointer (some ⟨g, 0, Option.none⟩), .pointer (some ⟨g + 1 + 1 + 1, 0, Option.none⟩)], .func (.func 39) #[] #[.pointer (some ⟨g, 0, Option.none⟩), .pointer (some ⟨g + 1, 0, Option.none⟩)], .func (.func 41) #[] #[.pointer (some ⟨g, 0, Option.none⟩), .pointer (some ⟨g + 1 + 1 + 1, 0, Option.none⟩), .pointer (some ⟨g + 1 + 1, 0, Option.none⟩)]] 54 (0, 0)) * (blk (g + 1 + 1 + 1) (.cells #[.int .i64 ((to : Int) * 256)] 3 (0, 0)) * (blk (g + 1 + 1) (.cells #[.slice av b.length cv] 22 (0, 0)) * (blk (g + 1) (.cells #[.int .i64 (to : Int)] 3 (0, 0)) * (blk g (.cells #[fptr p] 24 (0, 0)) * F)))))).on wr := by
      have h9 := hw
      unfold wBlks at h9
      rw [show ∀ A B C D E X Y : SP, A * (B * (C * (D * (E * (X * Y))))) = X * (A * (B * (C * (D * (E * Y))))) from fun A B C D E X Y => by ac_rfl] at h9
      exact h9
    have hback : ∀ X W, (Flash p X * (blk (g + 1 + 1 + 1 + 1) (.cells #[.func (.func 38) #[] #[.pointer (some ⟨g, 0, Option.none⟩), .pointer (some ⟨g + 1 + 1 + 1, 0, Option.none⟩)], .func (.func 39) #[] #[.pointer (some ⟨g, 0, Option.none⟩), .pointer (some ⟨g + 1, 0, Option.none⟩)], .func (.func 41) #[] #[.pointer (some ⟨g, 0, Option.none⟩), .pointer (some ⟨g + 1 + 1 + 1, 0, Option.none⟩), .pointer (some ⟨g + 1 + 1, 0, Option.none⟩)]] 54 (0, 0)) * (blk (g + 1 + 1 + 1) (.cells #[.int .i64 ((to : Int) * 256)] 3 (0, 0)) * (blk (g + 1 + 1) (.cells #[.slice av b.length cv] 22 (0, 0)) * (blk (g + 1) (.cells #[.int .i64 (to : Int)] 3 (0, 0)) * (blk g (.cells #[fptr p] 24 (0, 0)) * F)))))).on W → (wBlks p to (.slice av b.length cv) g (Flash p X * F)).on W := by
      intro X W hX
      unfold wBlks
      rw [show ∀ A B C D E X Y : SP, A * (B * (C * (D * (E * (X * Y))))) = X * (A * (B * (C * (D * (E * Y))))) from fun A B C D E X Y => by ac_rfl]
      exact hX
    have Hback := hide hback
    have q4 := fun j => cell_of_row wr (g + 1 + 1 + 1 + 1) j _ _ _ (on_blk_mul hw)
    by_cases hlt : k < 3
    · have hkk : k = 0 ∨ k = 1 ∨ k = 2 := by omega
      clear hlt hk
      rcases hkk with rfl | rfl | rfl
      · have c4 : wr.cell? ⟨g + 1 + 1 + 1 + 1, 0, Option.none⟩ = some (.func (.func 38) #[] #[.pointer (some ⟨g, 0, Option.none⟩), .pointer (some ⟨g + 1 + 1 + 1, 0, Option.none⟩)]) := q4 0
        have HE := hide (write1_any p (s.wk to b 0).1 _ _ ft (by omega) to g (g + 1 + 1 + 1) hto wr q0 hq3 hF)
        have hks := Hstop.out 0 (by omega) He.out
        have Hks := hide hks
        clear hw hstr he q0 q1 q2 q3 q4 hq3 ft hF hback hks
        change Hid (Calls _ _ _ _ fun e w' => e = .returned (.int .i64 ((s.wk to b 1).2 : Nat)) ∧ (Flash p (s.wk to b 1).1 * _).on w' ∧ Str wr w') at HE
        have hid : ∀ j, j ≤ 0 → (s.wk to b j).2 = 0 := He.out
        have hnx : (s.wk to b 1).2 = 0 → ∀ j, j ≤ 1 → (s.wk to b j).2 = 0 := fun h j hj => by
          by_cases hj2 : j ≤ 0
          · exact hid j hj2
          · obtain rfl : j = 1 := by omega
            exact h
        have Hnx := hide hnx
        clear hnx hid
        generalize hwk : s.wk to b 1 = K at *
        obtain ⟨st, er⟩ := K
        have Hwk := hide hwk
        clear hwk
        rw [show (((0 : Nat) : Int)) = 0 from rfl]
        by_cases h0 : er = 0
        · have h00 := Hnx.out h0
          have H00 := hide h00
          clear h00 Hks Hnx
          subst h0
          go_wp2_with fail
          refine HE.out.mono ?_
          rintro e w2 ⟨rfl, h1, h2⟩
          have H1 := hide (Hback.out _ _ h1)
          have H2 := hide (Hstr.out.trans h2)
          clear h1 h2 HE c4
          go_wp2_with fail
          refine ⟨⟨1, by omega, by rfl, H00.out, by rw [Hwk.out]; exact H1.out, H2.out⟩, by simp [intOf]⟩
        · have hks := Hks.out h0
          have Hk2 := hide hks
          have e1 : (((er : Nat) : Int) != 0) = true := by simp only [bne_iff_ne, ne_eq]; omega
          clear hks Hks Hnx h0
          go_wp2_with fail
          refine HE.out.mono ?_
          rintro e w2 ⟨rfl, h1, h2⟩
          have H1 := hide h1
          have H2 := hide (Hstr.out.trans h2)
          clear h1 h2 HE c4
          go_wp2_with fail
          go_ret
          refine ⟨by rw [Hk2.out]; rfl, ?_, H2.out⟩
          rw [Hk2.out]
          have h9 := H1.out
          rw [show ∀ A B C D E X Y : SP, X * (A * (B * (C * (D * (E * Y))))) = A * (B * (C * (D * (E * (X * Y))))) from fun A B C D E X Y => by ac_rfl] at h9
          exact h9.right.right.right.right.right
      · have c4 : wr.cell? ⟨g + 1 + 1 + 1 + 1, 1, Option.none⟩ = some (.func (.func 39) #[] #[.pointer (some ⟨g, 0, Option.none⟩), .pointer (some ⟨g + 1, 0, Option.none⟩)]) := q4 1
        have HE := hide (write2_any p (s.wk to b 1).1 _ _ ft (by omega) to g (g + 1) hto wr q0 q1 hF)
        have hks := Hstop.out 1 (by omega) He.out
        have Hks := hide hks
        clear hw hstr he q0 q1 q2 q3 q4 hq3 ft hF hback hks
        change Hid (Calls _ _ _ _ fun e w' => e = .returned (.int .i64 ((s.wk to b 2).2 : Nat)) ∧ (Flash p (s.wk to b 2).1 * _).on w' ∧ Str wr w') at HE
        have hid : ∀ j, j ≤ 1 → (s.wk to b j).2 = 0 := He.out
        have hnx : (s.wk to b 2).2 = 0 → ∀ j, j ≤ 2 → (s.wk to b j).2 = 0 := fun h j hj => by
          by_cases hj2 : j ≤ 1
          · exact hid j hj2
          · obtain rfl : j = 2 := by omega
            exact h
        have Hnx := hide hnx
        clear hnx hid
        generalize hwk : s.wk to b 2 = K at *
        obtain ⟨st, er⟩ := K
        have Hwk := hide hwk
        clear hwk
        rw [show (((1 : Nat) : Int)) = 1 from rfl]
        by_cases h0 : er = 0
        · have h00 := Hnx.out h0
          have H00 := hide h00
          clear h00 Hks Hnx
          subst h0
          go_wp2_with fail
          refine HE.out.mono ?_
          rintro e w2 ⟨rfl, h1, h2⟩
          have H1 := hide (Hback.out _ _ h1)
          have H2 := hide (Hstr.out.trans h2)
          clear h1 h2 HE c4
          go_wp2_with fail
          refine ⟨⟨2, by omega, by rfl, H00.out, by rw [Hwk.out]; exact H1.out, H2.out⟩, by simp [intOf]⟩
        · have hks := Hks.out h0
          have Hk2 := hide hks
          have e1 : (((er : Nat) : Int) != 0) = true := by simp only [bne_iff_ne, ne_eq]; omega
          clear hks Hks Hnx h0
          go_wp2_with fail
          refine HE.out.mono ?_
          rintro e w2 ⟨rfl, h1, h2⟩
          have H1 := hide h1
          have H2 := hide (Hstr.out.trans h2)
          clear h1 h2 HE c4
          go_wp2_with fail
          go_ret
          refine ⟨by rw [Hk2.out]; rfl, ?_, H2.out⟩
          rw [Hk2.out]
          have h9 := H1.out
          rw [show ∀ A B C D E X Y : SP, X * (A * (B * (C * (D * (E * Y))))) = A * (B * (C * (D * (E * (X * Y))))) from fun A B C D E X Y => by ac_rfl] at h9
          exact h9.right.right.right.right.right
      · have c4 : wr.cell? ⟨g + 1 + 1 + 1 + 1, 2, Option.none⟩ = some (.func (.func 41) #[] #[.pointer (some ⟨g, 0, Option.none⟩), .pointer (some ⟨g + 1 + 1 + 1, 0, Option.none⟩), .pointer (some ⟨g + 1 + 1, 0, Option.none⟩)]) := q4 2
        have HE := hide (write3_any p (s.wk to b 2).1 _ _ ft (by omega) to g (g + 1 + 1 + 1) (g + 1 + 1) hto wr _ b Hb4.out hbl (fun W hW => Hrd.out W hW.right.right.right.right.right) q0 hq3 q2 hF)
        have hks := Hstop.out 2 (by omega) He.out
        have Hks := hide hks
        clear hw hstr he q0 q1 q2 q3 q4 hq3 ft hF hback hks
        change Hid (Calls _ _ _ _ fun e w' => e = .returned (.int .i64 ((s.wk to b 3).2 : Nat)) ∧ (Flash p (s.wk to b 3).1 * _).on w' ∧ Str wr w') at HE
        have hid : ∀ j, j ≤ 2 → (s.wk to b j).2 = 0 := He.out
        have hnx : (s.wk to b 3).2 = 0 → ∀ j, j ≤ 3 → (s.wk to b j).2 = 0 := fun h j hj => by
          by_cases hj2 : j ≤ 2
          · exact hid j hj2
          · obtain rfl : j = 3 := by omega
            exact h
        have Hnx := hide hnx
        clear hnx hid
        generalize hwk : s.wk to b 3 = K at *
        obtain ⟨st, er⟩ := K
        have Hwk := hide hwk
        clear hwk
        rw [show (((2 : Nat) : Int)) = 2 from rfl]
        by_cases h0 : er = 0
        · have h00 := Hnx.out h0
          have H00 := hide h00
          clear h00 Hks Hnx
          subst h0
          go_wp2_with fail
          refine HE.out.mono ?_
          rintro e w2 ⟨rfl, h1, h2⟩
          have H1 := hide (Hback.out _ _ h1)
          have H2 := hide (Hstr.out.trans h2)
          clear h1 h2 HE c4
          go_wp2_with fail
          refine ⟨⟨3, by omega, by rfl, H00.out, by rw [Hwk.out]; exact H1.out, H2.out⟩, by simp [intOf]⟩
        · have hks := Hks.out h0
          have Hk2 := hide hks
          have e1 : (((er : Nat) : Int) != 0) = true := by simp only [bne_iff_ne, ne_eq]; omega
          clear hks Hks Hnx h0
          go_wp2_with fail
          refine HE.out.mono ?_
          rintro e w2 ⟨rfl, h1, h2⟩
          have H1 := hide h1
          have H2 := hide (Hstr.out.trans h2)
          clear h1 h2 HE c4
          go_wp2_with fail
          go_ret
          refine ⟨by rw [Hk2.out]; rfl, ?_, H2.out⟩
          rw [Hk2.out]
          have h9 := H1.out
          rw [show ∀ A B C D E X Y : SP, X * (A * (B * (C * (D * (E * Y))))) = A * (B * (C * (D * (E * (X * Y))))) from fun A B C D E X Y => by ac_rfl] at h9
          exact h9.right.right.right.right.right
    · have hk3 : k = 3 := by omega
      subst hk3
      have hE := Hend.out He.out
      have HE := hide hE
      clear hw hstr he q0 q1 q2 q3 q4 hq3 ft hF hback hE
      rw [show (((3 : Nat) : Int)) = 3 from rfl]
      go_wp2_with fail
      go_ret
      refine ⟨by rw [HE.out, He.out 3 (by omega)]; rfl, ?_, Hstr.out⟩
      rw [HE.out]
      have h9 := Hw.out
      unfold wBlks at h9
      exact h9.right.right.right.right.right
end Go.Proofs.YtgmpmlneoiagdaaGreatDoor
