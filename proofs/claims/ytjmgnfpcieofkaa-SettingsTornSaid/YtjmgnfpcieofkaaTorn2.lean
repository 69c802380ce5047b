/- A page of settings behind torn steps: it tells of no record that is as new as the other one's. No Go function is spoken of. -/
import Derived.Test.YtjmgnfpcieofkaaTorn1
namespace Go.Proofs.Ytjmgnfpcieofkaa
set_option linter.unusedVariables false
set_option linter.unusedSimpArgs false

/-- what of a step is done in round i -/
def tearK (t i : Nat) : Nat := t ^^^ (i * 2654435769 % 4294967296)
/-- in which bits the tears of two rounds differ -/
def xK (j k : Nat) : Nat := (j * 2654435769 % 4294967296) ^^^ (k * 2654435769 % 4294967296)
theorem xor_aux (t y z b : Nat) : (t ^^^ z).testBit b = Bool.xor ((t ^^^ y).testBit b) ((y ^^^ z).testBit b) := by
  simp only [Nat.testBit_xor]
  cases t.testBit b <;> cases y.testBit b <;> cases z.testBit b <;> rfl
theorem tearK_bit (t j k b : Nat) : (tearK t k).testBit b = Bool.xor ((tearK t j).testBit b) ((xK j k).testBit b) := by
  unfold tearK xK
  exact xor_aux t _ _ b
/-- may both rounds be part of a mark that was made anew? -/
def canK (j k : Nat) : Bool := (xK j k).testBit 1 && !(xK j k).testBit 14 && !(xK j k).testBit 22
def markBits : List Nat := [1, 6, 8, 9, 12, 14, 17, 18, 19, 22, 24, 28, 29]
def likeK (j k m : Nat) : Bool := markBits.all fun b => (xK j k).testBit b == (xK j m).testBit b
/-- bits that the mark lacks, and what they are in the tear of an erasure -/
def lowBits : List (Nat × Bool) := [(0, true), (2, true), (3, true), (13, false), (15, false), (20, false), (21, false), (23, false), (25, false), (26, false), (27, false)]
def checkK : Bool := (List.range 25).all fun j => (List.range 25).all fun m => !decide (j < m) || !canK j m || lowBits.any fun x => (List.range 25).all fun k => !decide (j < k) || !canK j k || !likeK j k m || (Bool.xor x.2 ((xK j k).testBit x.1) == false)
theorem checkK_true : checkK = true := by decide +kernel
theorem check_low (j m : Nat) (hj : j < m) (hm : m < 25) (hc : canK j m = true) : ∃ x ∈ lowBits, ∀ k, j < k → k < 25 → canK j k = true → likeK j k m = true → Bool.xor x.2 ((xK j k).testBit x.1) = false := by
  have h := checkK_true
  unfold checkK at h
  rw [List.all_eq_true] at h
  have h := h j (List.mem_range.2 (by omega))
  rw [List.all_eq_true] at h
  have h := h m (List.mem_range.2 hm)
  rw [hc, decide_eq_true hj] at h
  simp only [Bool.not_true, Bool.false_or] at h
  rw [List.any_eq_true] at h
  obtain ⟨x, hx, h⟩ := h
  refine ⟨x, hx, fun k k1 k2 k3 k4 => ?_⟩
  rw [List.all_eq_true] at h
  have h := h k (List.mem_range.2 k2)
  rw [k3, k4, decide_eq_true k1] at h
  simpa using h

/-- what a page is, behind torn steps, beside one that tells of the record of a number: whole rounds are as many as i -/
inductive Odd (t i q : Nat) (D : List UInt8) : Prop
  | open (h : ∀ p, 156 ≤ p → p < 160 → D.getD p 0 = 255) : Odd t i q D
  | mark (p c : Nat) (hp : p < 4) (hc : c < 8) (hm : 8 * p + c ∈ markBits) (h : (D.getD p 0).toNat.testBit c = false) : Odd t i q D
  | old (hm : numS D 0 4 = 827216706) (h : recErr D = 0 → (readS D).seq < q) : Odd t i q D
  | torn (j : Nat) (S : List Nat) (hj : j < i) (hS : ∀ k ∈ S, j < k ∧ k < i) (hw : ∀ p, p < 4 → ∀ c, c < 8 → (D.getD p 0).toNat.testBit c = S.all fun k => !(tearK t k).testBit (8 * p + c))
      (h4 : ∀ c, c < 4 → (tearK t j).testBit c = true) (hb : ∀ p, 4 ≤ p → p < 32 → (tearK t j).testBit p = true → D.getD p 0 = 255) : Odd t i q D
theorem Odd.mono {t i q i' q' : Nat} {D : List UInt8} (h : Odd t i q D) (hi : i ≤ i') (hq : q ≤ q') : Odd t i' q' D := by
  rcases h with h | ⟨p, c, hp, hc, hm, h⟩ | ⟨hm, h⟩ | ⟨j, S, hj, hS, hw, h4, hb⟩
  · exact .open h
  · exact .mark p c hp hc hm h
  · exact .old hm fun z => Nat.lt_of_lt_of_le (h z) hq
  · exact .torn j S (by omega) (fun k hk => ⟨(hS k hk).1, by have := (hS k hk).2; omega⟩) hw h4 hb

/-- the mark's bytes -/
theorem mark_bytes {D : List UInt8} (h : numS D 0 4 = 827216706) : (D.getD 0 0).toNat = 66 ∧ (D.getD 1 0).toNat = 83 ∧ (D.getD 2 0).toNat = 78 ∧ (D.getD 3 0).toNat = 49 := by
  rw [numS_four] at h
  have a0 := UInt8.toNat_lt (D.getD 0 0)
  have a1 := UInt8.toNat_lt (D.getD 1 0)
  have a2 := UInt8.toNat_lt (D.getD 2 0)
  have a3 := UInt8.toNat_lt (D.getD 3 0)
  rw [show 0 + 1 = 1 from rfl, show 0 + 2 = 2 from rfl, show 0 + 3 = 3 from rfl] at h
  generalize (D.getD 0 0).toNat = x0 at *
  generalize (D.getD 1 0).toNat = x1 at *
  generalize (D.getD 2 0).toNat = x2 at *
  generalize (D.getD 3 0).toNat = x3 at *
  refine ⟨?_, ?_, ?_, ?_⟩ <;> omega
theorem mark_bit {D : List UInt8} (h : numS D 0 4 = 827216706) (p c : Nat) (hp : p < 4) (hc : c < 8) : (D.getD p 0).toNat.testBit c = decide (8 * p + c ∈ markBits) := by
  obtain ⟨h0, h1, h2, h3⟩ := mark_bytes h
  have hd : ∀ p, p < 4 → ∀ c, c < 8 → (if p = 0 then 66 else if p = 1 then 83 else if p = 2 then 78 else 49 : Nat).testBit c = decide (8 * p + c ∈ markBits) := by decide
  rw [← hd p hp c hc]
  match p, hp with
  | 0, _ => rw [h0]; rfl
  | 1, _ => rw [h1]; rfl
  | 2, _ => rw [h2]; rfl
  | 3, _ => rw [h3]; rfl
theorem recErr_mark {D : List UInt8} (h : recErr D = 0) : D.length = 160 ∧ numS D 0 4 = 827216706 ∧ numS D 156 4 = chkN (D.take 156) ∧ (readS D).right = true ∧ recBytes (readS D) = D := by
  unfold recErr at h
  split at h
  · cases h
  · rename_i h1
    split at h
    · cases h
    · rename_i h2
      split at h
      · rename_i h3
        exact ⟨by omega, by omega, by omega, h3.1, h3.2⟩
      · cases h
theorem recBytes_22 (s : RecS) : (recBytes s).getD 22 0 = 0 ∧ (recBytes s).getD 23 0 = 0 := by
  unfold recBytes recHead wordB
  simp
/-- which bytes of a record aren't 255 -/
theorem low_bytes {D : List UInt8} (h : recErr D = 0) : ∀ p ∈ [13, 14, 15, 20, 21, 22, 23, 25, 26, 27], D.getD p 0 ≠ 255 := by
  obtain ⟨hl, hm, hk, hr, he⟩ := recErr_mark h
  have h21 := recBytes_21 (readS D)
  obtain ⟨h22, h23⟩ := recBytes_22 (readS D)
  rw [he] at h21 h22 h23
  simp only [RecS.right, decide_eq_true_eq] at hr
  obtain ⟨r1, r2, r3, r4, _⟩ := hr
  have e1 : numS D 12 4 ≤ 4096 := r1
  have e2 : numS D 24 4 ≤ 4096 := r2
  have e3 : (D.getD 20 0).toNat ≤ 2 := r3
  rw [numS_four] at e1 e2
  simp only [Nat.reduceAdd] at e1 e2
  have e4 : (D.getD 21 0).toNat ≤ 128 := by
    rw [h21]
    generalize (readS D).init.length = n at r4
    simp
    omega
  have n255 : ∀ x : UInt8, x = 255 → x.toNat = 255 := fun x hx => by rw [hx]; rfl
  intro p hp c
  have hc := n255 _ c
  simp only [List.mem_cons, List.not_mem_nil, or_false] at hp
  rcases hp with rfl | rfl | rfl | rfl | rfl | rfl | rfl | rfl | rfl | rfl
  · omega
  · omega
  · omega
  · omega
  · omega
  · rw [h22] at c; exact absurd c (by decide)
  · rw [h23] at c; exact absurd c (by decide)
  · omega
  · omega
  · omega
/-- what is odd tells of no record that is as new -/
theorem Odd.safe {t i q : Nat} {D : List UInt8} (h : Odd t i q D) (hi : i ≤ 25) (he : recErr D = 0) : (readS D).seq < q := by
  obtain ⟨hl, hm, hk, hr, hrb⟩ := recErr_mark he
  rcases h with h | ⟨p, c, hp, hc, hmb, h⟩ | ⟨_, h⟩ | ⟨j, S, hj, hS, hw, h4, hb⟩
  · exfalso
    rw [numS_four, h 156 (by omega) (by omega), h (156 + 1) (by omega) (by omega), h (156 + 2) (by omega) (by omega), h (156 + 3) (by omega) (by omega)] at hk
    have h255 : (255 : UInt8).toNat = 255 := rfl
    rw [h255] at hk
    unfold chkN at hk
    split at hk
    · omega
    · omega
  · exfalso
    rw [mark_bit hm p c hp hc, decide_eq_true hmb] at h
    cases h
  · exact h he
  · exfalso
    have hlow := low_bytes he
    -- the bits of the mark are in no tear
    have hz : ∀ b ∈ markBits, ∀ k ∈ S, (tearK t k).testBit b = false := by
      intro b hb2 k hk2
      have hb32 : b < 32 := by
        have : ∀ b ∈ markBits, b < 32 := by decide
        exact this b hb2
      have hw1 := hw (b / 8) (by omega) (b % 8) (by omega)
      have e : 8 * (b / 8) + b % 8 = b := by omega
      rw [mark_bit hm _ _ (by omega) (by omega), e, decide_eq_true hb2] at hw1
      have := List.all_eq_true.1 hw1.symm k hk2
      simpa using this
    have hone : ∀ b, b < 32 → b ∉ markBits → ∃ k ∈ S, (tearK t k).testBit b = true := by
      intro b hb32 hb2
      have hw1 := hw (b / 8) (by omega) (b % 8) (by omega)
      have e : 8 * (b / 8) + b % 8 = b := by omega
      rw [mark_bit hm _ _ (by omega) (by omega), e, decide_eq_false hb2] at hw1
      obtain ⟨k, k1, k2⟩ := List.all_eq_false.1 hw1.symm
      exact ⟨k, k1, by simpa using k2⟩
    have hj0 : ∀ p ∈ [13, 14, 15, 20, 21, 22, 23, 25, 26, 27], (tearK t j).testBit p = false := by
      intro p hp
      cases hc : (tearK t j).testBit p with
      | false => rfl
      | true =>
        have hp2 : 4 ≤ p ∧ p < 32 := by
          have : ∀ p ∈ [13, 14, 15, 20, 21, 22, 23, 25, 26, 27], 4 ≤ p ∧ p < 32 := by decide
          exact this p hp
        exact absurd (hb p hp2.1 hp2.2 hc) (hlow p hp)
    have hcan : ∀ k ∈ S, canK j k = true := by
      intro k hk2
      have b1 := tearK_bit t j k 1
      have b2 := tearK_bit t j k 14
      have b3 := tearK_bit t j k 22
      rw [hz 1 (by decide) k hk2, h4 1 (by omega)] at b1
      rw [hz 14 (by decide) k hk2, hj0 14 (by decide)] at b2
      rw [hz 22 (by decide) k hk2, hj0 22 (by decide)] at b3
      unfold canK
      revert b1 b2 b3
      cases (xK j k).testBit 1 <;> cases (xK j k).testBit 14 <;> cases (xK j k).testBit 22 <;> decide
    obtain ⟨m, hmS, _⟩ := hone 0 (by omega) (by decide)
    have hmi := hS m hmS
    have hlike : ∀ k ∈ S, likeK j k m = true := by
      intro k hk2
      unfold likeK
      rw [List.all_eq_true]
      intro b hb2
      have b1 := tearK_bit t j k b
      have b2 := tearK_bit t j m b
      rw [hz b hb2 k hk2] at b1
      rw [hz b hb2 m hmS] at b2
      revert b1 b2
      cases (xK j k).testBit b <;> cases (xK j m).testBit b <;> cases (tearK t j).testBit b <;> decide
    obtain ⟨x, hx, hall⟩ := check_low j m hmi.1 (by omega) (hcan m hmS)
    have hxb : x.1 < 32 ∧ x.1 ∉ markBits := by
      have : ∀ x ∈ lowBits, x.1 < 32 ∧ x.1 ∉ markBits := by decide
      exact this x hx
    have hxj : (tearK t j).testBit x.1 = x.2 := by
      simp only [lowBits, List.mem_cons, List.not_mem_nil, or_false] at hx
      rcases hx with rfl | rfl | rfl | rfl | rfl | rfl | rfl | rfl | rfl | rfl | rfl
      · exact h4 0 (by omega)
      · exact h4 2 (by omega)
      · exact h4 3 (by omega)
      all_goals exact hj0 _ (by decide)
    obtain ⟨k, k1, k2⟩ := hone x.1 hxb.1 hxb.2
    have hki := hS k k1
    have := hall k hki.1 (by omega) (hcan k k1) (hlike k k1)
    rw [tearK_bit t j k, hxj, this] at k2
    cases k2
theorem dropZero_bit (x : UInt8) (T p c : Nat) (hc : c < 8) : (dropByte x 0 (T / 2 ^ (8 * p))).toNat.testBit c = (x.toNat.testBit c && !T.testBit (8 * p + c)) := by
  rw [dropByte_toNat, UInt8.toNat_zero, Nat.zero_or, Nat.testBit_and]
  have e : 255 - T / 2 ^ (8 * p) % 256 = 2 ^ 8 - (T / 2 ^ (8 * p) % 2 ^ 8 + 1) := by omega
  rw [e, Nat.testBit_two_pow_sub_succ (Nat.mod_lt _ (by decide)), Nat.testBit_mod_two_pow, Nat.testBit_div_two_pow, Nat.add_comm c]
  simp [hc]
theorem byte_bits {x y : UInt8} (h : ∀ c, c < 8 → x.toNat.testBit c = y.toNat.testBit c) : x = y := by
  apply UInt8.toNat_inj.1
  apply Nat.eq_of_testBit_eq
  intro c
  by_cases hc : c < 8
  · exact h c hc
  · have h1 := UInt8.toNat_lt x
    have h2 := UInt8.toNat_lt y
    have h3 : 2 ^ 8 ≤ 2 ^ c := Nat.pow_le_pow_right (by decide) (by omega)
    rw [Nat.testBit_lt_two_pow (by omega), Nat.testBit_lt_two_pow (by omega)]
theorem list_getD {l m : List UInt8} (hl : l.length = 160) (hm : m.length = 160) (h : ∀ i, i < 160 → l.getD i 0 = m.getD i 0) : l = m := by
  apply List.ext_getElem?
  intro i
  by_cases hi : i < 160
  · exact get_of_getD (by omega) (by omega) (h i hi)
  · rw [List.getElem?_eq_none (by omega), List.getElem?_eq_none (by omega)]
theorem getD_take (l : List UInt8) (n i : Nat) (h : i < n) : (l.take n).getD i 0 = l.getD i 0 := by
  rw [List.getD_eq_getElem?_getD, List.getD_eq_getElem?_getD, List.getElem?_take, if_pos h]
/-- behind a torn writing the page is the one that was to be, or odd -/
theorem Odd.tear {t i q : Nat} {D D' : List UInt8} {w : RecS} (h : Odd t i q D) (hl : D.length = 160) (hl' : D'.length = 160) (ok : w.Ok) (hr : w.right = true) (ht : PgTorn (tearK t i) D (recBytes w) D') :
    D' = recBytes w ∨ Odd t (i + 1) q D' := by
  have hil : w.init.length ≤ 128 := by
    simp only [RecS.right, decide_eq_true_eq] at hr
    exact hr.2.2.2.1
  have hbl := recBytes_len w hil
  rcases ht with ht | ht | ⟨n, hn, ht⟩
  · right
    rcases h with h | ⟨p, c, hp, hc, hmb, h⟩ | ⟨hm, h⟩ | ⟨j, S, hj, hS, hw, h4, hb⟩
    · exact .open fun p p1 p2 => by rw [ht p p2, if_neg (by omega)]; exact h p p1 p2
    · refine .mark p c hp hc hmb ?_
      rw [ht p (by omega), if_pos hp, dropZero_bit _ _ _ _ hc, h]
      rfl
    · by_cases hd : ∀ p, p < 4 → ∀ c, c < 8 → 8 * p + c ∈ markBits → (tearK t i).testBit (8 * p + c) = false
      · have e : D' = D := by
          refine list_getD hl' hl fun k hk => ?_
          rw [ht k hk]
          by_cases hk4 : k < 4
          · rw [if_pos hk4]
            refine byte_bits fun c hc => ?_
            rw [dropZero_bit _ _ _ _ hc, mark_bit hm k c hk4 hc]
            by_cases hmb : 8 * k + c ∈ markBits
            · rw [hd k hk4 c hc hmb]; simp
            · simp [hmb]
          · rw [if_neg hk4]
        rw [e]
        exact .old hm h
      · have hd : ∃ p, p < 4 ∧ ∃ c, c < 8 ∧ 8 * p + c ∈ markBits ∧ (tearK t i).testBit (8 * p + c) = true := by
          refine Classical.byContradiction fun hn => hd fun p hp c hc hmb => ?_
          cases hb : (tearK t i).testBit (8 * p + c) with
          | false => rfl
          | true => exact absurd ⟨p, hp, c, hc, hmb, hb⟩ hn
        obtain ⟨p, hp, c, hc, hmb, hb⟩ := hd
        refine .mark p c hp hc hmb ?_
        rw [ht p (by omega), if_pos hp, dropZero_bit _ _ _ _ hc, hb]
        simp
    · refine .torn j (i :: S) (by omega) (fun k hk => ?_) (fun p hp c hc => ?_) h4 (fun p p1 p2 hc => ?_)
      · rcases List.mem_cons.1 hk with rfl | hk
        · omega
        · have := hS k hk; omega
      · rw [ht p (by omega), if_pos hp, dropZero_bit _ _ _ _ hc, hw p hp c hc, List.all_cons, Bool.and_comm]
      · rw [ht p (by omega), if_neg (by omega)]
        exact hb p p1 p2 hc
  · right
    have hbit : ∀ k, tearK t i / 2 ^ k % 2 = 1 ↔ (tearK t i).testBit k = true := fun k => by
      rw [Nat.testBit_eq_decide_div_mod_eq, decide_eq_true_eq]
    by_cases hd : ∀ c, c < 4 → (tearK t i).testBit c = true
    · refine .torn i [] (by omega) (fun k hk => by cases hk) (fun p hp c hc => ?_) hd (fun p p1 p2 hc => ?_)
      · rw [ht p (by omega), if_pos ((hbit _).2 (by rw [Nat.mod_eq_of_lt (by omega)]; exact hd p hp))]
        have : ∀ c, c < 8 → (255 : UInt8).toNat.testBit c = true := by decide
        exact this c hc
      · rw [ht p (by omega), if_pos ((hbit _).2 (by rw [Nat.mod_eq_of_lt p2]; exact hc))]
    · have hd : ∃ c, c < 4 ∧ (tearK t i).testBit c = false := by
        refine Classical.byContradiction fun hn => hd fun c hc => ?_
        cases hb : (tearK t i).testBit c with
        | true => rfl
        | false => exact absurd ⟨c, hc, hb⟩ hn
      obtain ⟨p, hp, hb⟩ := hd
      have e : D'.getD p 0 = 0 := by
        rw [ht p (by omega), if_neg (fun c => ?_), if_pos hp]
        have := (hbit _).1 c
        rw [Nat.mod_eq_of_lt (by omega), hb] at this
        cases this
      have hc : ∃ c, c < 8 ∧ 8 * p + c ∈ markBits := by
        have : ∀ p, p < 4 → ∃ c, c < 8 ∧ 8 * p + c ∈ markBits := by decide
        exact this p hp
      obtain ⟨c, hc, hmb⟩ := hc
      refine .mark p c hp hc hmb ?_
      rw [e, UInt8.toNat_zero, Nat.zero_testBit]
  · by_cases hn9 : n < 39
    · right
      refine .open fun p p1 p2 => ?_
      rw [ht p p2]
      unfold tornAt
      rw [if_neg (by omega), if_neg (by omega)]
    · have hn39 : n = 39 := by omega
      subst hn39
      have hlow : ∀ k, k < 156 → D'.getD k 0 = (recBytes w).getD k 0 := fun k hk => by
        rw [ht k (by omega)]
        unfold tornAt
        rw [if_pos (by omega)]
      have hmk : numS D' 0 4 = 827216706 := by
        have h1 := numS_mark w
        rw [numS_four] at h1 ⊢
        rw [hlow 0 (by omega), hlow (0 + 1) (by omega), hlow (0 + 2) (by omega), hlow (0 + 3) (by omega)]
        exact h1
      by_cases he : recErr D' = 0
      · left
        obtain ⟨_, _, hk, _, _⟩ := recErr_mark he
        obtain ⟨_, _, hk2, _, _⟩ := recErr_mark (recErr_bytes w ok hr)
        have htk : D'.take 156 = (recBytes w).take 156 := by
          apply List.ext_getElem?
          intro k
          by_cases hk : k < 156
          · refine get_of_getD (by rw [List.length_take]; omega) (by rw [List.length_take]; omega) ?_
            rw [getD_take _ _ _ hk, getD_take _ _ _ hk]
            exact hlow k hk
          · rw [List.getElem?_eq_none (by rw [List.length_take]; omega), List.getElem?_eq_none (by rw [List.length_take]; omega)]
        rw [htk, ← hk2] at hk
        refine list_getD hl' hbl fun k hk3 => ?_
        by_cases hk4 : k < 156
        · exact hlow k hk4
        · have := numS_inj hk (k - 156) (by omega)
          rwa [show 156 + (k - 156) = k by omega] at this
      · right
        exact .old hmk fun c => absurd c he
end Go.Proofs.Ytjmgnfpcieofkaa
