/- A word of flash is programmed. -/
import Derived.Test.YtjmgnfpcieofkaaFlash
import Derived.BigRegion
namespace Go.Proofs.Ytjmgnfpcieofkaa
open Go.ChangeShapes Go.WideShapes Go.ChangeAt Go.RowKit
set_option linter.unusedVariables false

theorem or_lt8 {a b : Nat} (ha : a < 256) (hb : b < 256) : a ||| b < 256 := Nat.or_lt_two_pow (n := 8) (by omega) (by omega)
theorem and_lt8 {a b : Nat} (ha : a < 256) : a &&& b < 256 := Nat.lt_of_le_of_lt Nat.and_le_left ha

/-- the flash, its parts seen one by one -/
theorem Flash.parts {p : Nat} {s : FlS} {F : SP} {w : World} (h : (Flash p s * F).on w) (ok : s.Ok) :
    ∃ g cap vw, s.B.length ≤ cap ∧ cap ≤ maxLen ∧ (blk p (.cells (flCells (.slice (some ⟨g, 0, Option.none⟩) s.B.length cap) vw s) 96 (0, 0)) * (ownBy (.slice (some ⟨g, 0, Option.none⟩) s.B.length cap) s.B * (ownInts vw s.worn * F))).on w := by
  obtain ⟨vb, vw, h⟩ := Flash.open h
  rw [SP.mul_assoc] at h
  have h1 := ok.pages
  have h2 := ok.most
  obtain ⟨g, cap, rfl, h3, h4⟩ := own_block h.right (by omega)
  exact ⟨g, cap, vw, h3, h4, h⟩
theorem Flash.ofParts {p : Nat} {s : FlS} {F : SP} {w : World} {vb vw : Value} (h : (blk p (.cells (flCells vb vw s) 96 (0, 0)) * (ownBy vb s.B * (ownInts vw s.worn * F))).on w) : (Flash p s * F).on w := by
  rw [← SP.mul_assoc (ownBy vb s.B)] at h
  exact Flash.shut h

def WordRel (p : Nat) (s : FlS) (F : SP) (w : World) (a : Nat) (lb : List UInt8) (g cap : Nat) (vw : Value) (e i : Value) (wr : World) : Prop :=
  ∃ k : Nat, k ≤ 4 ∧ i = .int .i64 k ∧ e = .int .i64 ((if badK s.B a lb s.mask k then 6 else 0 : Nat) : Int) ∧
    (blk p (.cells (flCells (.slice (some ⟨g, 0, Option.none⟩) s.B.length cap) vw s.step) 96 (0, 0)) * (own 5 1 (.slice (some ⟨g, 0, Option.none⟩) s.B.length cap) s.B.length (vbs (progK s.B a lb s.mask k)) * (ownInts vw s.worn * F))).on wr ∧ Str w wr

set_option maxRecDepth 100000 in
set_option maxHeartbeats 2000000 in
theorem word_any (p : Nat) (s : FlS) (F : SP) (w : World) (h : (Flash p s * F).on w) (ok : s.Ok) (hst : s.steps ≤ 1099511627776) (a : Nat) (ha : a + 4 ≤ s.B.length) (v : Value) (lb : List UInt8) (hlb : lb.length = 4) (hrd : ∀ w, F.on w → IsBytes w v lb) :
    Calls Try.prog 84 #[.pointer (some ⟨p, 0, Option.none⟩), .int .i64 a, v] w fun e w' => e = .returned (.int .i64 (s.wordErr a lb : Int)) ∧ (Flash p (s.word a lb) * F).on w' ∧ Str w w' := by
  have hv := hrd w h.right
  obtain ⟨av, cv, rfl, hcv, hmv, hlv, _⟩ := hv
  obtain ⟨bv, offv, rfl⟩ := Lay.isAddr hlv 0 (by simp; omega)
  rw [hlb] at hcv ⊢
  have Hrd := hide hrd
  clear hrd hlv
  have hpg := ok.pages
  have hmo := ok.most
  have hB : s.B.length ≤ 16384 := by omega
  clear hpg hmo
  have hmask := FlS.mask_lt ok
  unfold maxLen at hmv
  go_enter Try.func84, Try.ntmps84
  go_wp2_with fail
  refine (step_any p s F _ h ok hst).mono ?_
  rintro e w1 ⟨rfl, h1, hs1⟩
  have ok1 := FlS.step_ok ok
  obtain ⟨g, cap, vw, hc1, hc2, h1⟩ := Flash.parts h1 ok1
  rw [FlS.step_B, FlS.step_worn] at h1
  rw [FlS.step_B] at hc1
  have H1 := hide h1
  have Hs1 := hide hs1
  unfold maxLen at hc2
  clear h h1 hs1 ok1
  go_wp2_with fail
  go_loopw [8, 12] (fun e i wr => WordRel p s F w a lb g cap vw e i wr) (fun _ i _ => 4 - (intOf i).toNat)
  case atStart => exact ⟨0, by omega, rfl, rfl, H1.out, Hs1.out⟩
  case round =>
    obtain ⟨k, hk, rfl, rfl, hw, hstr⟩ := hrel
    have Hw := hide hw
    have Hstr := hide hstr
    have hb := on_blk_mul hw
    have c0 := cell_of_row wr p 0 _ _ _ hb
    have c5 := cell_of_row wr p 5 _ _ _ hb
    simp only [flCells] at c0 c5
    clear hb
    by_cases hlt : k < 4
    · have hl := Hrd.out wr hw.right.right.right
      obtain ⟨_, _, he, _, _, hl, _⟩ := hl
      simp only [Value.slice.injEq] at he
      obtain ⟨rfl, _, rfl⟩ := he
      have hkl : k < lb.length := by omega
      have cv1 := Lay.cell hl k (vbs_get lb k hkl)
      have hw2 : (own 5 1 (.slice (some ⟨g, 0, Option.none⟩) s.B.length cap) s.B.length (vbs (progK s.B a lb s.mask k)) * (ownInts vw s.worn * F)).on wr := hw.right
      have hpl := progK_length s.B a lb s.mask k
      have cb := own_cell hw2 (a + k) _ (vbs_get _ (a + k) (by rw [hpl]; omega))
      have fr := own_free hw2 (a + k)
      have HK := hide (show progK s.B a lb s.mask (k + 1) = (progK s.B a lb s.mask k).set (a + k) (dropByte (s.B.getD (a + k) 0) (lb.getD k 0) (s.mask / 2 ^ (8 * k))) from rfl)
      have HE := hide (show badK s.B a lb s.mask (k + 1) = (badK s.B a lb s.mask k || (dropByte (s.B.getD (a + k) 0) (lb.getD k 0) (s.mask / 2 ^ (8 * k)) != lb.getD k 0)) from rfl)
      have hwas : (progK s.B a lb s.mask k)[a + k]'(by rw [hpl]; omega) = s.B.getD (a + k) 0 := by
        have h0 := progK_later s.B a lb s.mask k k (Nat.le_refl _)
        rw [List.getD_eq_getElem?_getD, List.getElem?_eq_getElem (by rw [hpl]; omega)] at h0
        exact h0
      have hbk : lb[k] = lb.getD k 0 := by simp [hkl]
      rw [hwas] at cb
      rw [hbk] at cv1
      have Hst := hide (own_store hw2 (j := a + k) (by omega))
      have hp : ((s.mask : Int) / 2 ^ (8 * k)) = ((s.mask / 2 ^ (8 * k) : Nat) : Int) := by simp
      have hdt := dropByte_toNat (s.B.getD (a + k) 0) (lb.getD k 0) (s.mask / 2 ^ (8 * k))
      have hwl := UInt8.toNat_lt (s.B.getD (a + k) 0)
      have hbl := UInt8.toNat_lt (lb.getD k 0)
      generalize badK s.B a lb s.mask k = bad at *
      generalize hD : dropByte (s.B.getD (a + k) 0) (lb.getD k 0) (s.mask / 2 ^ (8 * k)) = D at *
      clear hD hwas hw2
      have hbk' : vb lb[k] = vb (lb.getD k 0) := by rw [hbk]
      clear hbk
      generalize s.B.getD (a + k) 0 = was at *
      generalize lb.getD k 0 = want at *
      have hml : s.mask / 2 ^ (8 * k) ≤ s.mask := Nat.div_le_self _ _
      generalize s.mask / 2 ^ (8 * k) = m at *
      have hq : 255 - m % 256 < 256 := by omega
      have e1' : bits .xor .u8 IntKind.u8.max ((m : Int) % 256) = ((255 - m % 256 : Nat) : Int) := by
        rw [show ((m : Int) % 256) = ((m % 256 : Nat) : Int) by omega, not_u8 _ (by omega)]
      generalize 255 - m % 256 = q at hq e1' hdt
      have e2' : bits .or .u8 ((want.toNat : Nat) : Int) (q : Int) = ((want.toNat ||| q : Nat) : Int) := u8_or_nat _ _ hbl hq
      have hor := or_lt8 hbl hq
      have e3' : bits .and .u8 ((was.toNat : Nat) : Int) ((want.toNat ||| q : Nat) : Int) = ((D.toNat : Nat) : Int) := by rw [u8_and_nat _ _ hwl hor, hdt]
      have hdl := UInt8.toNat_lt D
      have sg8 : IntKind.u8.signed = false := rfl
      generalize want.toNat ||| q = wq at e2' e3' hor hdt
      clear hdt
      have e1 : bits .xor .u8 IntKind.u8.max ((m : Int) % 256) = (q : Int) := e1'
      have e2 : bits .or .u8 ((want.toNat : Nat) : Int) (q : Int) = (wq : Int) := e2'
      have e3 : bits .and .u8 ((was.toNat : Nat) : Int) (wq : Int) = ((D.toNat : Nat) : Int) := e3'
      clear e1' e2' e3'
      have Hne : ∀ b1 b2 : Bool, b1 = true → True := fun _ _ _ => True.intro
      clear Hne
      have c1 : (wr.setCell ⟨g, a + k, Option.none⟩ (vb D)).cell? ⟨g, a + k, Option.none⟩ = some (vb D) := World.cell?_setCell_same _ _ _ cb
      generalize hev : (((if bad then 6 else 0 : Nat)) : Int) = ev at *
      have Hev := hide hev
      clear hev
      go_wp2_with fail
      go_region
      have hw' : (own 5 1 (.slice (some ⟨g, 0, Option.none⟩) s.B.length cap) s.B.length (vbs (progK s.B a lb s.mask k)) * (blk p (.cells (flCells (.slice (some ⟨g, 0, Option.none⟩) s.B.length cap) vw s.step) 96 (0, 0)) * (ownInts vw s.worn * F))).on wr := by
        rw [SP.mul_left_comm]; exact Hw.out
      have h2 := (own_store hw' (j := a + k) (by omega) (vb D)).drew
      rw [vbs_set, ← HK.out, SP.mul_left_comm] at h2
      have HS2 := hide ((Hstr.out.setCell ⟨g, a + k, Option.none⟩ (vb D)).drew)
      have hD : (progK s.B a lb s.mask (k + 1))[a + k]? = some D := by
        rw [HK.out, List.getElem?_set_self (by rw [hpl]; omega)]
      clear hw' cb cv1 fr hl hw c0 c5 c1
      generalize (wr.setCell ⟨g, a + k, Option.none⟩ (vb D)).drew = w2 at *
      have cg := own_cell h2.right (a + k) (vb D) (by simp only [vbs, List.getElem?_map, hD, Option.map_some])
      have c0 := cell_of_row w2 p 0 _ _ _ (on_blk_mul h2)
      simp only [flCells] at c0
      have hl2 := Hrd.out w2 h2.right.right.right
      obtain ⟨_, _, he, _, _, hl2, _⟩ := hl2
      simp only [Value.slice.injEq] at he
      obtain ⟨rfl, _, rfl⟩ := he
      have cv2 := Lay.cell hl2 k (vbs_get lb k hkl)
      rw [hbk'] at cv2
      have H2 := hide h2
      clear h2 hl2 hD
      cases hc : (D == want) with
      | true =>
        have hx : (((D.toNat : Nat) : Int) == ((want.toNat : Nat) : Int)) = true := by simp only [beq_iff_eq] at hc ⊢; rw [hc]
        have hb2 : (bad || D != want) = bad := by simp [bne, hc]
        have HB2 := hide hb2
        clear hc hb2
        go_wp2_with fail
        go_region
        go_wp2_with fail
        refine ⟨⟨k + 1, by omega, by simp, ?_, H2.out.drew, HS2.out.drew⟩, by simp [intOf]; omega⟩
        rw [HE.out, HB2.out, ← Hev.out]
      | false =>
        have hx : (((D.toNat : Nat) : Int) == ((want.toNat : Nat) : Int)) = false := by
          simp only [beq_eq_false_iff_ne, ne_eq] at hc ⊢
          intro h; exact hc (UInt8.toNat_inj.1 (by omega))
        have hb2 : (bad || D != want) = true := by simp [bne, hc]
        have HB2 := hide hb2
        clear hc hb2
        go_wp2_with fail
        go_region
        go_wp2_with fail
        refine ⟨⟨k + 1, by omega, by simp, ?_, H2.out.drew, HS2.out.drew⟩, by simp [intOf]; omega⟩
        rw [HE.out, HB2.out]; rfl
    · have h4 : k = 4 := by omega
      have HB := hide (show badK s.B a lb s.mask k = badK s.B a lb s.mask 4 by rw [h4])
      have HP := hide (show progK s.B a lb s.mask k = progK s.B a lb s.mask 4 by rw [h4])
      clear h4
      generalize badK s.B a lb s.mask k = bad at *
      generalize hev : (((if bad then 6 else 0 : Nat)) : Int) = ev at *
      have Hev := hide hev
      clear hev
      have hoff : ∀ b : Bool, s.step.off = b → (flCells (.slice (some ⟨g, 0, Option.none⟩) s.B.length cap) vw s.step)[5]? = some (.bool b) := by
        intro b hb; rw [← hb]; rfl
      cases ho : s.step.off with
      | true =>
        rw [ho] at c5
        have HE := hide (show s.wordErr a lb = 5 by simp [FlS.wordErr, ho])
        clear ho hoff
        go_wp2_with fail
        go_ret
        refine ⟨by rw [HE.out]; rfl, Flash.ofParts (vb := .slice (some ⟨g, 0, Option.none⟩) s.B.length cap) (vw := vw) ?_, Hstr.out⟩
        have hfin := Hw.out
        rw [HP.out] at hfin
        show (_ * (own 5 1 _ (progK s.B a lb s.mask 4).length (vbs (progK s.B a lb s.mask 4)) * (ownInts vw s.step.worn * F))).on wr
        rw [progK_length, FlS.step_worn]
        exact hfin
      | false =>
        rw [ho] at c5
        have HE := hide (show ((s.wordErr a lb : Nat) : Int) = ev by rw [← Hev.out, HB.out]; simp [FlS.wordErr, ho])
        clear ho hoff
        go_wp2_with fail
        go_ret
        refine ⟨by rw [HE.out]; rfl, Flash.ofParts (vb := .slice (some ⟨g, 0, Option.none⟩) s.B.length cap) (vw := vw) ?_, Hstr.out⟩
        have hfin := Hw.out
        rw [HP.out] at hfin
        show (_ * (own 5 1 _ (progK s.B a lb s.mask 4).length (vbs (progK s.B a lb s.mask 4)) * (ownInts vw s.step.worn * F))).on wr
        rw [progK_length, FlS.step_worn]
        exact hfin
end Go.Proofs.Ytjmgnfpcieofkaa
