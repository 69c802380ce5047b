/- transfer: Start. -/
import Derived.Test.YtjmgnfpcieofkaaTr4
namespace Go.Proofs.Ytjmgnfpcieofkaa
open Go.ChangeShapes Go.WideShapes Go.ChangeAt Go.RowKit
set_option linter.unusedVariables false
set_option linter.unusedSimpArgs false

theorem FlS.write_wornlen (s : FlS) (to : Nat) (b : List UInt8) : (s.write to b).1.worn.length = s.worn.length := by
  unfold FlS.write
  split
  · rw [FlS.prog_worn]
  · split
    · rw [FlS.era_wornlen, FlS.prog_worn]
    · rw [FlS.prog_worn, FlS.era_wornlen, FlS.prog_worn]
theorem FlS.save_wornlen (s : FlS) (r : RecS) : (s.save r).1.worn.length = s.worn.length := by
  unfold FlS.save
  split
  · rfl
  · split
    · rfl
    · split
      · rfl
      · split
        · exact FlS.write_wornlen _ _ _
        · exact FlS.write_wornlen _ _ _
theorem save_ok (s : FlS) (r : RecS) (h : r.Ok) : (s.save r).2.1.Ok := by
  have hl := (load_ok s).seq
  unfold FlS.save
  split
  · exact zeroS_ok
  · split
    · exact zeroS_ok
    · rename_i h2
      split
      · exact zeroS_ok
      · split
        · exact zeroS_ok
        · exact ⟨by show s.load.1.seq + 1 < 4294967296; omega, h.floor, h.bytes, h.sum, h.done, h.init⟩
/-- a keeper remembers: the flash, its record, and the error -/
def kRem (s : FlS) (R : RecS) (phase : UInt8) (done : Nat) (init : List UInt8) : FlS × RecS × Nat :=
  ((s.save (R.put phase done init)).1, (if (s.save (R.put phase done init)).2.2 = 0 then (s.save (R.put phase done init)).2.1 else R), (s.save (R.put phase done init)).2.2)
theorem kRem_fit {s : FlS} {n : Nat} (h : s.Fit n) (R : RecS) (phase : UInt8) (done : Nat) (init : List UInt8) : (kRem s R phase done init).1.Fit (n + 252) := h.save _
theorem kRem_worn (s : FlS) (R : RecS) (phase : UInt8) (done : Nat) (init : List UInt8) : (kRem s R phase done init).1.worn.length = s.worn.length := FlS.save_wornlen _ _
theorem put_ok {R : RecS} (h : R.Ok) (phase : UInt8) (done : Nat) (hd : done < 4294967296) (init : List UInt8) (hi : init.length ≤ 1000000) : (R.put phase done init).Ok := ⟨h.seq, h.floor, h.bytes, h.sum, hd, hi⟩
theorem kRem_ok (s : FlS) {R : RecS} (h : R.Ok) (phase : UInt8) (done : Nat) (hd : done < 4294967296) (init : List UInt8) (hi : init.length ≤ 1000000) : (kRem s R phase done init).2.1.Ok := by
  unfold kRem
  simp only
  split
  · exact save_ok _ _ (put_ok h _ _ hd _ hi)
  · exact h
/-- how a call ends that turns a keeper, and its flash -/
def KTurn (q p : Nat) (X : FlS × RecS × Nat) (F : SP) (w : World) (e : Ending) (w' : World) : Prop := e = .returned (.int .i64 (X.2.2 : Nat)) ∧ (Kp q p X.2.1 * (Flash p X.1 * F)).on w' ∧ Str w w'
theorem krem_any (q p : Nat) (R : RecS) (s : FlS) (F : SP) (n : Nat) (fit : s.Fit n) (hn : n ≤ 1099500000000) (hR : R.Ok) (phase : UInt8) (done : Nat) (hd : done < 4294967296) (vi : Value) (init : List UInt8) (hi : init.length ≤ 1000000)
    (hrd : ∀ W, F.on W → IsBytes W vi init) (w : World) (h : (Kp q p R * (Flash p s * F)).on w) :
    Calls Try.prog 57 #[.pointer (some ⟨q, 0, Option.none⟩), vb phase, .int .i64 (done : Nat), vi] w (KTurn q p (kRem s R phase done init) F w) := by
  obtain ⟨iv, h⟩ := Kp.open h
  refine (remember_any q p R iv s F n fit hn hR phase done hd vi init hi (fun W hW => hrd W hW.right) w h).mono ?_
  rintro e w' ⟨h1, ⟨iv', h2⟩, h3⟩
  exact ⟨h1, Kp.shut h2, h3⟩
/-- a transfer begins: the flash, the record, and the error -/
def kStart (s : FlS) (R : RecS) (init : List UInt8) : FlS × RecS × Nat :=
  if (kRem s R 0 0 []).2.2 ≠ 0 then kRem s R 0 0 []
  else if ((kRem s R 0 0 []).1.clr 18 0 16).2 ≠ 0 then (((kRem s R 0 0 []).1.clr 18 0 16).1, (kRem s R 0 0 []).2.1, ((kRem s R 0 0 []).1.clr 18 0 16).2)
  else kRem ((kRem s R 0 0 []).1.clr 18 0 16).1 (kRem s R 0 0 []).2.1 1 0 init
theorem kStart_fit {s : FlS} {n : Nat} (h : s.Fit n) (R : RecS) (init : List UInt8) : (kStart s R init).1.Fit (n + 520) := by
  have h1 := kRem_fit h R 0 0 []
  have h2 := clr_fit (first := 18) 16 0 _ _ h1
  unfold kStart
  split
  · exact h1.mono (by omega)
  · split
    · exact h2.mono (by omega)
    · exact (kRem_fit h2 _ _ _ _).mono (by omega)
theorem kStart_worn (s : FlS) (R : RecS) (init : List UInt8) : (kStart s R init).1.worn.length = s.worn.length := by
  unfold kStart
  split
  · exact kRem_worn _ _ _ _ _
  · split
    · rw [clr_wornlen, kRem_worn]
    · rw [kRem_worn, clr_wornlen, kRem_worn]
theorem kStart_ok (s : FlS) {R : RecS} (h : R.Ok) (init : List UInt8) (hi : init.length ≤ 1000000) : (kStart s R init).2.1.Ok := by
  have h1 := kRem_ok s h 0 0 (by decide) [] (by decide)
  unfold kStart
  split
  · exact h1
  · split
    · exact h1
    · exact kRem_ok _ h1 _ _ (by decide) _ hi
theorem kp_bank (p : Nat) (s : RecS) (iv : Value) (X : World) (g : Nat) (t : TypeId) (hX : X.heap[g]? = some (.cells (kpCells p s iv) t (0, 0))) : ∀ j v, (#[fptr p, .int .i64 18] : Array Value)[j]? = some v → X.cell? ⟨g, 0 + j, Option.none⟩ = some v := by
  intro j v hv
  rw [Nat.zero_add, cell_of_row _ _ _ _ _ _ hX]
  unfold kpCells
  match j, hv with
  | 0, hv => exact hv
  | 1, hv => exact hv
  | n + 2, hv => simp at hv
theorem bk_info (p : Nat) : (Try.prog.info? 113).map (·.size) = some (#[fptr p, .int .i64 18] : Array Value).size := by rw [show (#[fptr p, .int .i64 18] : Array Value).size = 2 from rfl]; kernel_rfl

set_option maxRecDepth 100000 in
set_option maxHeartbeats 16000000 in
theorem kstart_any (q p : Nat) (R : RecS) (s : FlS) (F : SP) (n : Nat) (fit : s.Fit n) (hn : n ≤ 1099400000000) (hw34 : 34 ≤ s.worn.length) (hR : R.Ok) (vi : Value) (init : List UInt8) (hi : init.length ≤ 1000000)
    (hrd : ∀ W, F.on W → IsBytes W vi init) (w : World) (h : (Kp q p R * (Flash p s * F)).on w) :
    Calls Try.prog 23 #[.pointer (some ⟨q, 0, Option.none⟩), vi] w (KTurn q p (kStart s R init) F w) := by
  have hub := Try.underlying113
  have hA := krem_any q p R s F n fit (by omega) hR 0 0 (by decide) nilV [] (by decide) (fun W _ => IsBytes.nil W) w h
  have fit1 := kRem_fit fit R 0 0 []
  have worn1 := kRem_worn s R 0 0 []
  have ok1 := kRem_ok s hR 0 0 (by decide) [] (by decide)
  have hst : kStart s R init = if (kRem s R 0 0 []).2.2 ≠ 0 then kRem s R 0 0 [] else if ((kRem s R 0 0 []).1.clr 18 0 16).2 ≠ 0 then (((kRem s R 0 0 []).1.clr 18 0 16).1, (kRem s R 0 0 []).2.1, ((kRem s R 0 0 []).1.clr 18 0 16).2) else kRem ((kRem s R 0 0 []).1.clr 18 0 16).1 (kRem s R 0 0 []).2.1 1 0 init := rfl
  obtain ⟨av, cv, rfl, _, _, _, _⟩ := hrd w h.right.right
  have Hrd := hide hrd
  generalize kStart s R init = ST at *
  obtain ⟨⟨s1, R1, e1⟩, hX⟩ : ∃ x, x = kRem s R 0 0 [] := ⟨_, rfl⟩
  rw [← hX] at hA fit1 worn1 ok1 hst
  clear hX hrd h fit hR
  simp only at fit1 worn1 ok1 hst
  have HA := hide (show Calls Try.prog 57 #[.pointer (some ⟨q, 0, Option.none⟩), .int .u8 0, .int .i64 0, .slice Option.none 0 0] w (KTurn q p (s1, R1, e1) F w) from hA)
  have Hfit1 := hide fit1
  have Hok1 := hide ok1
  have h34 : 18 + 16 ≤ s1.worn.length := by omega
  clear hA fit1 ok1 worn1 hw34
  by_cases h1 : e1 = 0
  · rw [if_neg (by simp [h1])] at hst
    have Hst := hide hst
    clear hst
    subst h1
    go_enter Try.func23, Try.ntmps23
    go_wp2_with fail
    refine HA.out.mono ?_
    clear HA
    rintro e w1 ⟨rfl, hk, hs⟩
    obtain ⟨iv, hk⟩ := Kp.open hk
    have hbank := kp_bank p R1 iv w1 q _ (on_blk_mul hk)
    have Hib := hide (bk_info p)
    have Hk := hide hk
    have Hs := hide hs
    have hC := clear_any p s1 _ w1 (show (Flash p s1 * (blk q (.cells (kpCells p R1 iv) 115 (0, 0)) * (ownR iv R1.init * F))).on w1 from by
      rw [SP.mul_left_comm, SP.mul_left_comm (Flash p s1)]; exact hk) (n + 252) Hfit1.out (by omega) 18 0 16 h34 (by omega) (by omega)
    have fit2 := clr_fit (first := 18) 16 0 _ _ Hfit1.out
    obtain ⟨⟨s2, e2⟩, hY⟩ : ∃ x, x = s1.clr 18 0 16 := ⟨_, rfl⟩
    rw [show 16 - 0 = 16 from rfl, ← hY] at hC
    have hst2 := Hst.out
    rw [← hY] at hst2 fit2
    simp only at hst2 fit2
    have HC := hide (show Calls Try.prog 58 #[.agg #[fptr p, .int .i64 18], .int .i64 0, .int .i64 16] w1 _ from hC)
    have Hfit2 := hide fit2
    rw [show ((0 : Nat) : Int) = 0 from rfl]
    clear hk hs hC hY fit2 Hst h34
    by_cases h2 : e2 = 0
    · rw [if_neg (by simp [h2])] at hst2
      have Hst2 := hide hst2
      clear hst2
      subst h2
      go_wp2_with (refine wpList_load_part rfl _ _ rfl q 0 rfl (#[fptr p, .int .i64 18]) _ hbank hub rfl Hib.out ?_; clear hbank)
      refine HC.out.mono ?_
      clear HC
      rintro e w2 ⟨rfl, hk, hs⟩
      have hk2 : (Kp q p R1 * (Flash p s2 * F)).on w2 := by
        rw [SP.mul_left_comm, SP.mul_left_comm (Flash p _)] at hk
        exact Kp.shut hk
      have hB := krem_any q p R1 s2 F _ Hfit2.out (by omega) Hok1.out 1 0 (by decide) (.slice av init.length cv) init hi Hrd.out w2 hk2
      have HB := hide (show Calls Try.prog 57 #[.pointer (some ⟨q, 0, Option.none⟩), .int .u8 1, .int .i64 0, .slice av init.length cv] w2 _ from hB)
      have Hs2 := hide (Hs.out.trans hs)
      rw [show ((0 : Nat) : Int) = 0 from rfl]
      clear hk hs hk2 hB
      go_wp2_with fail
      refine HB.out.mono ?_
      clear HB
      rintro e w3 ⟨rfl, hk, hs⟩
      have Hk3 := hide hk
      have Hs3 := hide (Hs2.out.trans hs)
      clear hk hs
      go_wp2_with fail
      go_ret
      unfold KTurn
      rw [Hst2.out]
      exact ⟨rfl, Hk3.out, Hs3.out⟩
    · rw [if_pos (by simpa using h2)] at hst2
      have Hst2 := hide hst2
      have en : (((e2 : Nat) : Int) != 0) = true := by simp only [bne_iff_ne, ne_eq]; omega
      clear hst2 h2
      go_wp2_with (refine wpList_load_part rfl _ _ rfl q 0 rfl (#[fptr p, .int .i64 18]) _ hbank hub rfl Hib.out ?_; clear hbank)
      refine HC.out.mono ?_
      clear HC
      rintro e w2 ⟨rfl, hk, hs⟩
      have Hk2 := hide (show (Kp q p R1 * (Flash p s2 * F)).on w2 by
        rw [SP.mul_left_comm, SP.mul_left_comm (Flash p _)] at hk
        exact Kp.shut hk)
      have Hs2 := hide (Hs.out.trans hs)
      clear hk hs
      go_wp2_with fail
      go_ret
      unfold KTurn
      rw [Hst2.out]
      exact ⟨rfl, Hk2.out, Hs2.out⟩
  · rw [if_pos (by simpa using h1)] at hst
    have Hst := hide hst
    have en : (((e1 : Nat) : Int) != 0) = true := by simp only [bne_iff_ne, ne_eq]; omega
    clear hst h1
    go_enter Try.func23, Try.ntmps23
    go_wp2_with fail
    refine HA.out.mono ?_
    clear HA
    rintro e w1 ⟨rfl, hk, hs⟩
    have Hk := hide hk
    have Hs := hide hs
    clear hk hs
    go_wp2_with fail
    go_ret
    unfold KTurn
    rw [Hst.out]
    exact ⟨rfl, Hk.out, Hs.out⟩
end Go.Proofs.Ytjmgnfpcieofkaa
