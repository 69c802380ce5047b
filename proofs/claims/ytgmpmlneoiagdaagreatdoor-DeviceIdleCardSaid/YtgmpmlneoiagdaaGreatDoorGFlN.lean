/- LAID TOGETHER: Flash6, FlashLives, Flash7, FlashNils. -/
import Derived.Test.YtgmpmlneoiagdaaGreatDoorGFl
/- A page of flash is erased. -/
namespace Go.Proofs.YtgmpmlneoiagdaaGreatDoor
open Go.ChangeShapes Go.WideShapes Go.ChangeAt Go.RowKit
set_option linter.unusedVariables false
set_option linter.unusedSimpArgs false

/-- a page is erased, as far as a mask tells: behind k bytes -/
def eraK (B : List UInt8) (page mask : Nat) : Nat → List UInt8
  | 0 => B
  | k + 1 => if mask / 2 ^ (k % 32) % 2 = 1 then (eraK B page mask k).set (page * 256 + k) 255 else eraK B page mask k
theorem eraK_length (B : List UInt8) (page mask k : Nat) : (eraK B page mask k).length = B.length := by
  induction k with
  | zero => rfl
  | succ k ih => unfold eraK; split <;> simp [ih]
/-- an erasure's step: what is there behind it -/
def FlS.eraS (s : FlS) (page : Nat) : FlS := { s.step with B := eraK s.B page s.mask 256, worn := if s.step.off then s.worn else s.worn.set page (s.worn.getD page 0 + 1) }
/-- a page is erased: the flash, and the error -/
def FlS.era (s : FlS) (page : Nat) : FlS × Nat := if s.off then (s, 5) else if s.worn.length ≤ page then (s, 3) else (s.eraS page, if s.step.off then 5 else 0)

theorem bit_and (m k : Nat) (h : m < 4294967296) : bits .and .u32 ((m : Int) / 2 ^ k) 1 = ((m / 2 ^ k % 2 : Nat) : Int) := by
  have h1 : m / 2 ^ k < 4294967296 := Nat.lt_of_le_of_lt (Nat.div_le_self _ _) h
  rw [show ((m : Int) / 2 ^ k) = ((m / 2 ^ k : Nat) : Int) by simp, show (1 : Int) = ((1 : Nat) : Int) from rfl, u32_and_nat _ _ h1 (by omega), Nat.and_one_is_mod]
theorem FlS.eraS_length (s : FlS) (page : Nat) : (s.eraS page).B.length = s.B.length := by simp [FlS.eraS, eraK_length]
theorem FlS.eraS_ok {s : FlS} (h : s.Ok) (page : Nat) : (s.eraS page).Ok := by
  have h' := FlS.step_ok h
  have hw : (if s.step.off then s.worn else s.worn.set page (s.worn.getD page 0 + 1)).length = s.worn.length := by split <;> simp
  refine ⟨?_, ?_, h'.lf, h'.lt, h'.left, h'.tear⟩
  · simp only [FlS.eraS, eraK_length, hw]; exact h.pages
  · simp only [FlS.eraS, hw]; exact h.most

set_option maxRecDepth 100000 in
set_option maxHeartbeats 4000000 in
theorem erase_off (p : Nat) (s : FlS) (F : SP) (w : World) (h : (Flash p s * F).on w) (hoff : s.off = true) (page : Nat) :
    Calls Tryz.prog 40 #[fptr p, .int .i64 page] w fun e w' => e = .returned (.int .i64 5) ∧ w = w' := by
  have H := hide h
  clear h
  go_enter Tryz.func40, Tryz.ntmps40
  go_wp2_with fail
  refine (ready_any p s F w H.out).mono ?_
  rintro e w1 ⟨rfl, rfl⟩
  rw [hoff]
  clear hoff
  go_wp2_with fail
  go_ret
  exact ⟨rfl, rfl⟩
set_option maxRecDepth 100000 in
set_option maxHeartbeats 4000000 in
theorem erase_beyond (p : Nat) (s : FlS) (F : SP) (w : World) (h : (Flash p s * F).on w) (ok : s.Ok) (hoff : s.off = false) (page : Nat) (hp : page ≤ 1000000) (hw : s.worn.length ≤ page) :
    Calls Tryz.prog 40 #[fptr p, .int .i64 page] w fun e w' => e = .returned (.int .i64 3) ∧ w = w' := by
  have H := hide h
  have hm := ok.most
  obtain ⟨g, cap, vw, hc1, hc2, h2⟩ := Flash.parts h ok
  obtain ⟨aw, cw, rfl, hc3, hc4, _, _⟩ := own_value h2.right.right
  have c1 := cell_of_row w p 1 _ _ _ (on_blk_mul h2)
  simp only [flCells] at c1
  unfold maxLen at hc2 hc4
  clear h h2 ok
  go_enter Tryz.func40, Tryz.ntmps40
  go_wp2_with fail
  refine (ready_any p s F w H.out).mono ?_
  rintro e w1 ⟨rfl, rfl⟩
  rw [hoff]
  clear hoff
  go_wp2_with fail
  go_ret
  exact ⟨rfl, rfl⟩
set_option maxRecDepth 100000 in
set_option maxHeartbeats 8000000 in
theorem erase_on (p : Nat) (s : FlS) (F : SP) (w : World) (h : (Flash p s * F).on w) (ok : s.Ok) (hst : s.steps ≤ 1099511627776) (hoff : s.off = false) (page : Nat) (hw : page < s.worn.length) (hlk : s.locked (page : Int) = false) (hwn : ∀ x ∈ s.worn, x ≤ 1099511627776) :
    Calls Tryz.prog 40 #[fptr p, .int .i64 page] w fun e w' => e = .returned (.int .i64 ((if s.step.off then 5 else 0 : Nat) : Int)) ∧ (Flash p (s.eraS page) * F).on w' ∧ Str w w' := by
  obtain ⟨er, her⟩ : ∃ er, er = (if s.step.off then 5 else 0 : Nat) := ⟨_, rfl⟩
  rw [← her]
  have Her := hide her
  clear her
  have H := hide h
  have hm := ok.most
  have hpg := ok.pages
  have hmask := FlS.mask_lt ok
  have hL := locked_any p s F w h (page : Int)
  have hS := step_any p s F w h ok hst
  have ok1 := FlS.step_ok ok
  obtain ⟨g, cap, vw, hc1, hc2, h2⟩ := Flash.parts h ok
  obtain ⟨aw, cw, rfl, hc3, hc4, _, _⟩ := own_value h2.right.right
  have c1 := cell_of_row w p 1 _ _ _ (on_blk_mul h2)
  simp only [flCells] at c1
  unfold maxLen at hc2 hc4
  rw [hlk] at hL
  have Hwn := hide hwn
  have hB : s.B.length ≤ 16384 := by omega
  have hp64 : page < 64 := by omega
  have hend : page * 256 + 256 ≤ s.B.length := by omega
  clear h h2 ok hlk hwn hst hpg hm
  go_enter Tryz.func40, Tryz.ntmps40
  go_wp2_with fail
  refine (ready_any p s F w H.out).mono ?_
  rintro e w1 ⟨rfl, rfl⟩
  rw [hoff]
  clear hoff
  go_wp2_with fail
  refine hL.mono ?_
  clear hL
  rintro e w1 ⟨rfl, rfl⟩
  go_wp2_with fail
  refine hS.mono ?_
  clear hS c1
  rintro e w1 ⟨rfl, h1, hs1⟩
  obtain ⟨g, cap, vw, hc1, hc2, h1⟩ := Flash.parts h1 ok1
  rw [FlS.step_B, FlS.step_worn] at h1
  rw [FlS.step_B] at hc1
  have H1 := hide h1
  have Hs1 := hide hs1
  unfold maxLen at hc2
  clear h1 hs1 ok1
  go_wp2_with fail
  go_loopw [29] (fun i wr => ∃ k : Nat, k ≤ 256 ∧ i = .int .i64 k ∧ (blk p (.cells (flCells (.slice (some ⟨g, 0, Option.none⟩) s.B.length cap) vw s.step) 53 (0, 0)) * (own 5 1 (.slice (some ⟨g, 0, Option.none⟩) s.B.length cap) s.B.length (vbs (eraK s.B page s.mask k)) * (ownInts vw s.worn * F))).on wr ∧ Str w wr) (fun i _ => 256 - (intOf i).toNat)
  case atStart => exact ⟨0, by omega, rfl, H1.out, Hs1.out⟩
  case round =>
    obtain ⟨k, hk, rfl, hw', hstr⟩ := hrel
    have Hw := hide hw'
    have Hstr := hide hstr
    have hb := on_blk_mul hw'
    have c0 := cell_of_row wr p 0 _ _ _ hb
    have c1 := cell_of_row wr p 1 _ _ _ hb
    have c5 := cell_of_row wr p 5 _ _ _ hb
    simp only [flCells] at c0 c1 c5
    clear hb hstr
    by_cases hlt : k < 256
    · have hw2 : (own 5 1 (.slice (some ⟨g, 0, Option.none⟩) s.B.length cap) s.B.length (vbs (eraK s.B page s.mask k)) * (ownInts vw s.worn * F)).on wr := hw'.right
      have hpl := eraK_length s.B page s.mask k
      obtain ⟨x, hx⟩ : ∃ x, (vbs (eraK s.B page s.mask k))[page * 256 + k]? = some x := ⟨_, List.getElem?_eq_getElem (by simp [hpl]; omega)⟩
      have cb := own_cell hw2 (page * 256 + k) _ hx
      have fr := own_free hw2 (page * 256 + k)
      have hE : eraK s.B page s.mask (k + 1) = if s.mask / 2 ^ (k % 32) % 2 = 1 then (eraK s.B page s.mask k).set (page * 256 + k) 255 else eraK s.B page s.mask k := rfl
      have Hst := hide (own_store hw2 (j := page * 256 + k) (by omega) (vb 255))
      have Hx := hide hx
      have e1 : (k : Int).tmod 32 = ((k % 32 : Nat) : Int) := by rw [Int.tmod_eq_emod_of_nonneg (by omega)]; omega
      clear hw' hw2 hx
      have hba := bit_and s.mask (k % 32) hmask
      by_cases hbit : s.mask / 2 ^ (k % 32) % 2 = 1
      · rw [if_pos hbit] at hE
        have HE := hide hE
        have e2 : (bits .and .u32 ((s.mask : Int) / 2 ^ (k % 32)) 1 == 1) = true := by rw [hba, hbit]; rfl
        clear hE hbit hba
        go_wp2_with fail
        refine ⟨⟨k + 1, by omega, by simp, ?_, Hstr.out.setCell _ _⟩, by simp [intOf]; omega⟩
        have hw3 : (own 5 1 (.slice (some ⟨g, 0, Option.none⟩) s.B.length cap) s.B.length (vbs (eraK s.B page s.mask k)) * (blk p (.cells (flCells (.slice (some ⟨g, 0, Option.none⟩) s.B.length cap) vw s.step) 53 (0, 0)) * (ownInts vw s.worn * F))).on wr := by
          rw [SP.mul_left_comm]; exact Hw.out
        have h2 := own_store hw3 (j := page * 256 + k) (by omega) (vb 255)
        rw [vbs_set, ← HE.out, SP.mul_left_comm] at h2
        exact h2
      · rw [if_neg hbit] at hE
        have HE := hide hE
        have e2 : (bits .and .u32 ((s.mask : Int) / 2 ^ (k % 32)) 1 == 1) = false := by rw [hba]; simp only [beq_eq_false_iff_ne]; omega
        clear hE hbit hba
        go_wp2_with fail
        exact ⟨⟨k + 1, by omega, by simp, by rw [HE.out]; exact Hw.out, Hstr.out⟩, by simp [intOf]; omega⟩
    · have hk6 : k = 256 := by omega
      subst hk6
      clear hw'
      cases ho : s.step.off with
      | true =>
        rw [ho] at c5
        have HE := hide (show er = 5 by rw [Her.out, ho]; rfl)
        have HW := hide (show s.eraS page = { s.step with B := eraK s.B page s.mask 256, worn := s.worn } by unfold FlS.eraS; rw [ho]; rfl)
        clear ho
        go_wp2_with fail
        go_ret
        refine ⟨by rw [HE.out]; rfl, Flash.ofParts (vb := .slice (some ⟨g, 0, Option.none⟩) s.B.length cap) (vw := vw) ?_, Hstr.out⟩
        rw [HW.out]
        show (_ * (own 5 1 _ (eraK s.B page s.mask 256).length (vbs (eraK s.B page s.mask 256)) * (ownInts vw s.worn * F))).on wr
        rw [eraK_length]
        exact Hw.out
      | false =>
        rw [ho] at c5
        have HE := hide (show er = 0 by rw [Her.out, ho]; rfl)
        have HW := hide (show s.eraS page = { s.step with B := eraK s.B page s.mask 256, worn := s.worn.set page (s.worn.getD page 0 + 1) } by unfold FlS.eraS; rw [ho]; rfl)
        have hw4 : (ownInts vw s.worn * (blk p (.cells (flCells (.slice (some ⟨g, 0, Option.none⟩) s.B.length cap) vw s.step) 53 (0, 0)) * (own 5 1 (.slice (some ⟨g, 0, Option.none⟩) s.B.length cap) s.B.length (vbs (eraK s.B page s.mask 256)) * F))).on wr := by
          have h9 := Hw.out
          rw [SP.mul_left_comm (own _ _ _ _ _), SP.mul_left_comm (blk _ _)] at h9
          exact h9
        obtain ⟨gw, cw2, rfl, hc5, hc6⟩ := own_block hw4 (by omega)
        unfold maxLen at hc6
        obtain ⟨y, hy⟩ : ∃ y, s.worn[page]? = some y := ⟨_, List.getElem?_eq_getElem hw⟩
        have hy2 : s.worn.getD page 0 = y := by rw [List.getD_eq_getElem?_getD, hy]; rfl
        have hyl : y ≤ 1099511627776 := Hwn.out y (List.mem_of_getElem? hy)
        rw [hy2] at HW
        have cb := own_cell hw4 page (.int .i64 (y : Int)) (by simp [hy])
        have fr := own_free hw4 page
        have hst := own_store hw4 (j := page) hw (.int .i64 ((y : Int) + 1))
        rw [show (s.worn.map fun n => Value.int .i64 ((n : Nat) : Int)).set page (.int .i64 ((y : Int) + 1)) = (s.worn.set page (y + 1)).map fun n => Value.int .i64 ((n : Nat) : Int) by rw [List.map_set]; congr 2] at hst
        have Hst2 := hide hst
        have hpi : (page : Int) < s.worn.length := by omega
        clear ho hw4 hy hy2 hst
        go_wp2_with fail
        go_ret
        refine ⟨by rw [HE.out]; rfl, Flash.ofParts (vb := .slice (some ⟨g, 0, Option.none⟩) s.B.length cap) (vw := .slice (some ⟨gw, 0, Option.none⟩) s.worn.length cw2) ?_, Hstr.out.setCell _ _⟩
        rw [HW.out]
        have h9 := Hst2.out
        rw [SP.mul_left_comm, SP.mul_left_comm (own _ _ _ _ _) (own _ _ _ _ _)] at h9
        show (_ * (own 5 1 _ (eraK s.B page s.mask 256).length (vbs (eraK s.B page s.mask 256)) * (own 3 1 _ (s.worn.set page (y + 1)).length ((s.worn.set page (y + 1)).map fun n => Value.int .i64 ((n : Nat) : Int)) * F))).on _
        rw [eraK_length, List.length_set]
        exact h9
end Go.Proofs.YtgmpmlneoiagdaaGreatDoor

/- The chapter's example of flash. -/
namespace Go.Proofs.YtgmpmlneoiagdaaGreatDoor
open Go.ChangeShapes Go.WideShapes Go.ChangeAt Go.RowKit
set_option linter.unusedVariables false

theorem progW_ok {lb : List UInt8} {a : Nat} : ∀ (r i : Nat) (s : FlS), s.Ok → (FlS.progW lb a r i s).1.Ok := by
  intro r
  induction r with
  | zero => intro i s h; exact h
  | succ r ih =>
    intro i s h
    unfold FlS.progW
    split
    · exact ih _ _ (FlS.word_ok h _ _)
    · exact FlS.word_ok h _ _
theorem progW_length {lb : List UInt8} {a : Nat} : ∀ (r i : Nat) (s : FlS), (FlS.progW lb a r i s).1.B.length = s.B.length := by
  intro r
  induction r with
  | zero => intro i s; rfl
  | succ r ih =>
    intro i s
    unfold FlS.progW
    split
    · rw [ih, FlS.word_length]
    · exact FlS.word_length _ _ _
theorem progW_steps {lb : List UInt8} {a : Nat} : ∀ (r i : Nat) (s : FlS), (FlS.progW lb a r i s).1.steps ≤ s.steps + r := by
  intro r
  induction r with
  | zero => intro i s; exact Nat.le_refl _
  | succ r ih =>
    intro i s
    unfold FlS.progW
    split
    · have := ih (i + 1) (s.word (a + i * 4) ((lb.drop (i * 4)).take 4)); have := FlS.word_steps s (a + i * 4) ((lb.drop (i * 4)).take 4); omega
    · have := FlS.word_steps s (a + i * 4) ((lb.drop (i * 4)).take 4); simp only; omega
theorem progW_locks {lb : List UInt8} {a : Nat} : ∀ (r i : Nat) (s : FlS), (FlS.progW lb a r i s).1.lf = s.lf ∧ (FlS.progW lb a r i s).1.lt = s.lt := by
  intro r
  induction r with
  | zero => intro i s; exact ⟨rfl, rfl⟩
  | succ r ih =>
    intro i s
    unfold FlS.progW
    split
    · have := ih (i + 1) (s.word (a + i * 4) ((lb.drop (i * 4)).take 4)); have := FlS.word_lf s (a + i * 4) ((lb.drop (i * 4)).take 4); omega
    · exact FlS.word_lf s _ _
theorem unlocked {s : FlS} (h : s.lt = 0) (x : Nat) : s.locked (x : Int) = false := by simp only [FlS.locked, h, Bool.and_eq_false_iff, decide_eq_false_iff_not]; right; omega
theorem newQ.out {k : Nat} {v : Value} {F : SP} {w : World} (h : (newQ k v * F).on w) : ∃ p, v = .tuple #[fptr p, .int .i64 0] ∧ (Flash p (FlS.new k) * F).on w := by
  obtain ⟨p, h⟩ := on_ex_mul.1 h
  rw [SP.mul_assoc] at h
  obtain ⟨h1, h2⟩ := on_pure_mul.1 h
  exact ⟨p, h1, h2⟩
theorem IsBytes.blk {w : World} {g : Nat} {l : List UInt8} {t : TypeId} {F : SP} (h : (blk g (.cells (vbs l).toArray t (0, 0)) * F).on w) (hl : l.length ≤ maxLen) : IsBytes w (.slice (some ⟨g, 0, Option.none⟩) l.length l.length) l := by
  have h2 : (own t 1 (.slice (some ⟨g, 0, Option.none⟩) l.length l.length) l.length (vbs l) * F).on w := own_of_blk h (by simp) (Nat.le_refl _) hl (by simp) (by rw [Nat.mul_one]; exact List.take_of_length_le (by simp))
  exact own_bytes h2

end Go.Proofs.YtgmpmlneoiagdaaGreatDoor

/- Flash is erased and programmed: all answers, of a flash without locks. -/
namespace Go.Proofs.YtgmpmlneoiagdaaGreatDoor
open Go.ChangeShapes Go.WideShapes Go.ChangeAt Go.RowKit
set_option linter.unusedVariables false
set_option linter.unusedSimpArgs false

/-- words are programmed: the flash, and the error -/
def FlS.prog (s : FlS) (a : Nat) (lb : List UInt8) : FlS × Nat := if s.off then (s, 5) else if a + lb.length ≤ s.B.length then FlS.progW lb a (lb.length / 4) 0 s else (s, 3)
/-- a flash without locks, that was not used too often -/
structure FlS.Fit (s : FlS) (n : Nat) : Prop where
  ok : s.Ok
  free : s.lt = 0
  steps : s.steps ≤ n
  worn : ∀ x ∈ s.worn, x ≤ n
theorem FlS.Fit.mono {s : FlS} {n m : Nat} (h : s.Fit n) (k : n ≤ m) : s.Fit m := ⟨h.ok, h.free, Nat.le_trans h.steps k, fun x hx => Nat.le_trans (h.worn x hx) k⟩
theorem FlS.Fit.new (k : Nat) (h1 : 1 ≤ k) (h2 : k ≤ 64) : (FlS.new k).Fit 0 := ⟨FlS.new_ok k h1 h2, rfl, Nat.le_refl _, fun x hx => by
  simp only [FlS.new, List.mem_replicate] at hx
  omega⟩
theorem progW_worn {lb : List UInt8} {a : Nat} : ∀ (r i : Nat) (s : FlS), (FlS.progW lb a r i s).1.worn = s.worn
  | 0, _, _ => rfl
  | r + 1, i, s => by
    unfold FlS.progW
    have h : (s.word (a + i * 4) ((lb.drop (i * 4)).take 4)).worn = s.worn := by simp [FlS.word, FlS.step_worn]
    split
    · rw [progW_worn r (i + 1), h]
    · exact h
theorem FlS.prog_length (s : FlS) (a : Nat) (lb : List UInt8) : (s.prog a lb).1.B.length = s.B.length := by
  unfold FlS.prog
  split
  · rfl
  · split
    · exact progW_length _ _ _
    · rfl
theorem FlS.prog_worn (s : FlS) (a : Nat) (lb : List UInt8) : (s.prog a lb).1.worn = s.worn := by
  unfold FlS.prog
  split
  · rfl
  · split
    · exact progW_worn _ _ _
    · rfl
theorem FlS.Fit.prog {s : FlS} {n : Nat} (h : s.Fit n) (a : Nat) (lb : List UInt8) : (s.prog a lb).1.Fit (n + lb.length / 4) := by
  have hw := FlS.prog_worn s a lb
  unfold FlS.prog at hw ⊢
  split
  · exact h.mono (by omega)
  · split
    · refine ⟨progW_ok _ _ _ h.ok, by rw [(progW_locks _ _ _).2]; exact h.free, Nat.le_trans (progW_steps _ _ _) (by have := h.steps; omega), ?_⟩
      rw [progW_worn]
      exact fun x hx => Nat.le_trans (h.worn x hx) (by omega)
    · exact h.mono (by omega)
theorem FlS.step_free {s : FlS} : s.step.lt = s.lt := by unfold FlS.step; split <;> rfl
theorem FlS.era_length (s : FlS) (page : Nat) : (s.era page).1.B.length = s.B.length := by
  unfold FlS.era
  split
  · rfl
  · split
    · rfl
    · exact FlS.eraS_length s page
theorem FlS.era_wornlen (s : FlS) (page : Nat) : (s.era page).1.worn.length = s.worn.length := by
  unfold FlS.era
  split
  · rfl
  · split
    · rfl
    · simp only [FlS.eraS]; split <;> simp
theorem FlS.Fit.era {s : FlS} {n : Nat} (h : s.Fit n) (page : Nat) : (s.era page).1.Fit (n + 1) := by
  unfold FlS.era
  split
  · exact h.mono (by omega)
  · split
    · exact h.mono (by omega)
    · refine ⟨FlS.eraS_ok h.ok page, ?_, ?_, ?_⟩
      · show s.step.lt = 0; rw [FlS.step_free]; exact h.free
      · have := FlS.step_steps s; have := h.steps; show s.step.steps ≤ n + 1; omega
      · intro x hx
        simp only [FlS.eraS] at hx
        split at hx
        · have := h.worn x hx; omega
        · rcases List.mem_or_eq_of_mem_set hx with h1 | h1
          · have := h.worn x h1; omega
          · rename_i h9
            by_cases hp : page < s.worn.length
            · have := h.worn (s.worn.getD page 0) (by rw [List.getD_eq_getElem?_getD, List.getElem?_eq_getElem hp]; exact List.getElem_mem hp)
              omega
            · rw [List.getD_eq_getElem?_getD, List.getElem?_eq_none (by omega)] at h1; simp at h1; omega

set_option maxRecDepth 100000 in
set_option maxHeartbeats 4000000 in
theorem program_off (p : Nat) (s : FlS) (F : SP) (w : World) (h : (Flash p s * F).on w) (hoff : s.off = true) (a : Nat) (v : Value) :
    Calls Tryz.prog 7 #[fptr p, .int .i64 a, v] w fun e w' => e = .returned (.int .i64 5) ∧ w = w' := by
  have H := hide h
  clear h
  go_enter Tryz.func7, Tryz.ntmps7
  go_wp2_with fail
  refine (ready_any p s F w H.out).mono ?_
  rintro e w1 ⟨rfl, rfl⟩
  rw [hoff]
  clear hoff
  go_wp2_with fail
  go_ret
  exact ⟨rfl, rfl⟩
set_option maxRecDepth 100000 in
set_option maxHeartbeats 4000000 in
theorem program_out (p : Nat) (s : FlS) (F : SP) (w : World) (h : (Flash p s * F).on w) (ok : s.Ok) (hoff : s.off = false) (a : Nat) (ha4 : a % 4 = 0) (v : Value) (lb : List UInt8) (hlb : lb.length % 4 = 0) (ha : a ≤ 1000000) (hl : lb.length ≤ 1000000) (hin : ¬ a + lb.length ≤ s.B.length) (hv : IsBytes w v lb) :
    Calls Tryz.prog 7 #[fptr p, .int .i64 a, v] w fun e w' => e = .returned (.int .i64 3) ∧ w = w' := by
  obtain ⟨av, cv, rfl, hcv, hmv, hlv, hnv⟩ := hv
  have hpg := ok.pages
  have hmo := ok.most
  have hB : s.B.length ≤ 16384 := by omega
  clear hpg hmo hlv hnv
  unfold maxLen at hmv
  have H := hide h
  have Hin := hide (inside_any p s F w H.out ok a lb.length (by omega) (by omega))
  have hins : s.inside a lb.length = false := by
    simp only [FlS.inside, Bool.and_eq_false_iff, decide_eq_false_iff_not]
    omega
  rw [hins] at Hin
  clear h hins
  have e1 : ((a : Int)).tmod 4 = 0 := by rw [Int.tmod_eq_emod_of_nonneg (by omega)]; omega
  have e2 : ((lb.length : Nat) : Int).tmod 4 = 0 := by rw [Int.tmod_eq_emod_of_nonneg (by omega)]; omega
  generalize lb.length = n at *
  clear hin ok ha4 hlb
  go_enter Tryz.func7, Tryz.ntmps7
  go_wp2_with fail
  refine (ready_any p s F w H.out).mono ?_
  rintro e w1 ⟨rfl, rfl⟩
  rw [hoff]
  clear hoff
  go_wp2_with fail
  refine Hin.out.mono ?_
  rintro e w1 ⟨rfl, rfl⟩
  go_wp2_with fail
  go_ret
  exact ⟨rfl, rfl⟩
/-- a program, whatever comes of it -/
theorem prog_any (p : Nat) (s : FlS) (F : SP) (w : World) (h : (Flash p s * F).on w) (n : Nat) (fit : s.Fit n) (hn : n ≤ 1099511000000) (a : Nat) (v : Value) (lb : List UInt8) (ha4 : a % 4 = 0) (hlb : lb.length % 4 = 0) (ha : a ≤ 1000000) (hl : lb.length ≤ 1000000) (hrd : ∀ w, F.on w → IsBytes w v lb) :
    Calls Tryz.prog 7 #[fptr p, .int .i64 a, v] w fun e w' => e = .returned (.int .i64 ((s.prog a lb).2 : Int)) ∧ (Flash p (s.prog a lb).1 * F).on w' ∧ Str w w' := by
  unfold FlS.prog
  by_cases ho : s.off = true
  · rw [if_pos ho]
    refine (program_off p s F w h ho a v).mono ?_
    rintro e w' ⟨rfl, rfl⟩
    exact ⟨rfl, h, Str.refl _⟩
  · rw [if_neg ho]
    have ho' : s.off = false := by simpa using ho
    by_cases hin : a + lb.length ≤ s.B.length
    · rw [if_pos hin]
      refine (program_any p s F w h fit.ok (by have := fit.steps; omega) ho' a v lb (lb.length / 4) ha4 (by omega) hin (fun i _ => unlocked fit.free _) hrd)
    · rw [if_neg hin]
      refine (program_out p s F w h fit.ok ho' a ha4 v lb hlb ha hl hin (hrd w h.right)).mono ?_
      rintro e w' ⟨rfl, rfl⟩
      exact ⟨rfl, h, Str.refl _⟩
theorem era_any (p : Nat) (s : FlS) (F : SP) (w : World) (h : (Flash p s * F).on w) (n : Nat) (fit : s.Fit n) (hn : n ≤ 1099511000000) (page : Nat) (hp : page ≤ 1000000) :
    Calls Tryz.prog 40 #[fptr p, .int .i64 page] w fun e w' => e = .returned (.int .i64 ((s.era page).2 : Int)) ∧ (Flash p (s.era page).1 * F).on w' ∧ Str w w' := by
  unfold FlS.era
  by_cases ho : s.off = true
  · rw [if_pos ho]
    refine (erase_off p s F w h ho page).mono ?_
    rintro e w' ⟨rfl, rfl⟩
    exact ⟨rfl, h, Str.refl _⟩
  · rw [if_neg ho]
    have ho' : s.off = false := by simpa using ho
    by_cases hw : s.worn.length ≤ page
    · rw [if_pos hw]
      refine (erase_beyond p s F w h fit.ok ho' page hp hw).mono ?_
      rintro e w' ⟨rfl, rfl⟩
      exact ⟨rfl, h, Str.refl _⟩
    · rw [if_neg hw]
      exact erase_on p s F w h fit.ok (by have := fit.steps; omega) ho' page (by omega) (unlocked fit.free _) (fun x hx => by have := fit.worn x hx; omega)
end Go.Proofs.YtgmpmlneoiagdaaGreatDoor

/- No flash: what its functions answer. -/
namespace Go.Proofs.YtgmpmlneoiagdaaGreatDoor
open Go.ChangeShapes Go.WideShapes Go.ChangeAt Go.RowKit
set_option linter.unusedVariables false

end Go.Proofs.YtgmpmlneoiagdaaGreatDoor
