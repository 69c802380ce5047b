/- LAID TOGETHER: RecMath, Rec, Rec2, Rec3, Rec4. -/
import Derived.WalkKit
import Derived.Test.YtgmpmlneoiagdaaGreatDoorGCrc
import Derived.Test.YtgmpmlneoiagdaaGreatDoorGBase
import Derived.Deep.OwnRows
import Derived.Laws.CopyOwn
/- Numbers as four bytes, and what is put where. No Go function is spoken of. -/
namespace Go.Proofs.YtgmpmlneoiagdaaGreatDoor

/-- a byte of a number -/
def b4 (n k : Nat) : UInt8 := UInt8.ofNat (n / 2 ^ (8 * k) % 256)
theorem b4_toNat (n k : Nat) : (b4 n k).toNat = n / 2 ^ (8 * k) % 256 := by
  unfold b4
  generalize n / 2 ^ (8 * k) = m
  simp
def wordB (n : Nat) : List UInt8 := [b4 n 0, b4 n 1, b4 n 2, b4 n 3]
theorem wordB_len (n : Nat) : (wordB n).length = 4 := rfl
/-- behind so many bytes of a number that are put -/
def putL (l : List UInt8) (at' n : Nat) : Nat → List UInt8
  | 0 => l
  | k + 1 => (putL l at' n k).set (at' + k) (b4 n k)
theorem putL_len (l : List UInt8) (at' n k : Nat) : (putL l at' n k).length = l.length := by
  induction k with
  | zero => rfl
  | succ k ih => simp [putL, ih]
theorem set_mid (A : List UInt8) (x c : UInt8) (B : List UInt8) : (A ++ x :: B).set A.length c = A ++ c :: B := by
  induction A with
  | nil => rfl
  | cons a t ih => simp [ih]
theorem set_at (A : List UInt8) (x c : UInt8) (B : List UInt8) (i : Nat) (h : i = A.length) : (A ++ x :: B).set i c = A ++ c :: B := by subst h; exact set_mid A x c B
theorem putL_mid (A : List UInt8) (x0 x1 x2 x3 : UInt8) (B : List UInt8) (i n : Nat) (h : i = A.length) : putL (A ++ x0 :: x1 :: x2 :: x3 :: B) i n 4 = A ++ (wordB n ++ B) := by
  simp only [putL]
  rw [Nat.add_zero, set_at A x0 _ _ i h]
  rw [show A ++ b4 n 0 :: x1 :: x2 :: x3 :: B = (A ++ [b4 n 0]) ++ x1 :: x2 :: x3 :: B by simp, set_at (A ++ [b4 n 0]) x1 _ _ (i + 1) (by simp [h])]
  rw [show (A ++ [b4 n 0]) ++ b4 n 1 :: x2 :: x3 :: B = (A ++ [b4 n 0, b4 n 1]) ++ x2 :: x3 :: B by simp, set_at (A ++ [b4 n 0, b4 n 1]) x2 _ _ (i + 2) (by simp [h])]
  rw [show (A ++ [b4 n 0, b4 n 1]) ++ b4 n 2 :: x3 :: B = (A ++ [b4 n 0, b4 n 1, b4 n 2]) ++ x3 :: B by simp, set_at (A ++ [b4 n 0, b4 n 1, b4 n 2]) x3 _ _ (i + 3) (by simp [h])]
  simp [wordB]
theorem putL_zeros (A : List UInt8) (i n m : Nat) (h : i = A.length) : putL (A ++ List.replicate (m + 4) 0) i n 4 = (A ++ wordB n) ++ List.replicate m 0 := by
  rw [show m + 4 = m + 1 + 1 + 1 + 1 by omega, List.replicate_succ, List.replicate_succ, List.replicate_succ, List.replicate_succ, putL_mid A 0 0 0 0 _ i n h]
  simp
theorem set_zeros (A : List UInt8) (i m : Nat) (c : UInt8) (h : i = A.length) : (A ++ List.replicate (m + 1) 0).set i c = (A ++ [c]) ++ List.replicate m 0 := by
  rw [List.replicate_succ, set_at A 0 _ _ i h]
  simp

def numS (l : List UInt8) (at' : Nat) : Nat → Nat
  | 0 => 0
  | k + 1 => numS l at' k + (l.getD (at' + k) 0).toNat * 2 ^ (8 * k)
theorem numS_lt (l : List UInt8) (at' : Nat) : ∀ k, numS l at' k < 2 ^ (8 * k) := by
  intro k
  induction k with
  | zero => simp [numS]
  | succ k ih =>
    have hc := UInt8.toNat_lt (l.getD (at' + k) 0)
    simp only [numS]
    rw [show 8 * (k + 1) = 8 * k + 8 by omega, Nat.pow_add]
    have : (l.getD (at' + k) 0).toNat * 2 ^ (8 * k) ≤ 255 * 2 ^ (8 * k) := Nat.mul_le_mul_right _ (by omega)
    omega
theorem numS_word (A B : List UInt8) (n : Nat) (h : n < 4294967296) (i : Nat) (hi : i = A.length) : numS (A ++ (wordB n ++ B)) i 4 = n := by
  subst hi
  have g : ∀ j (hj : j < 4), (A ++ (wordB n ++ B)).getD (A.length + j) 0 = b4 n j := by
    intro j hj
    rw [List.getD_eq_getElem?_getD, List.getElem?_append_right (by omega), Nat.add_sub_cancel_left, List.getElem?_append_left (by rw [wordB_len]; omega)]
    match j, hj with
    | 0, _ => rfl
    | 1, _ => rfl
    | 2, _ => rfl
    | 3, _ => rfl
  simp only [numS]
  rw [show A.length + 0 = A.length + 0 from rfl, g 0 (by omega), g 1 (by omega), g 2 (by omega), g 3 (by omega), b4_toNat, b4_toNat, b4_toNat, b4_toNat]
  simp only [Nat.mul_zero, Nat.pow_zero, Nat.div_one, Nat.mul_one, Nat.zero_add]
  omega
end Go.Proofs.YtgmpmlneoiagdaaGreatDoor

/- The Go functions of record: numbers that are put and read, the check sum, and equal bytes. -/
namespace Go.Proofs.YtgmpmlneoiagdaaGreatDoor
open Go.ChangeShapes Go.WideShapes Go.ChangeAt Go.RowKit
set_option linter.unusedVariables false

abbrev ownR (v : Value) (l : List UInt8) : SP := own 5 1 v l.length (vbs l)
theorem infoR : (Tryz.prog.info? 5).map (fun i => (i.zero, i.size, i.bytes)) = some (some (.int .u8 0), 1, 1) := by kernel_rfl

set_option maxRecDepth 100000 in
set_option maxHeartbeats 2000000 in
theorem put_any (g cap : Nat) (l : List UInt8) (at' n : Nat) (hn : n < 4294967296) (ha : at' + 4 ≤ l.length) (hl : l.length ≤ 1000000) (F : SP) (w : World) (h : (ownR (.slice (some ⟨g, 0, Option.none⟩) l.length cap) l * F).on w) :
    Calls Tryz.prog 36 #[.slice (some ⟨g, 0, Option.none⟩) l.length cap, .int .i64 at', .int .u32 n] w fun e w' => (∃ v, e = .returned v) ∧ (ownR (.slice (some ⟨g, 0, Option.none⟩) l.length cap) (putL l at' n 4) * F).on w' ∧ Str w w' := by
  obtain ⟨_, _, ev, hc1, hc2, _, _⟩ := own_value h
  simp only [Value.slice.injEq] at ev
  obtain ⟨rfl, _, rfl⟩ := ev
  unfold maxLen at hc2
  have H := hide h
  clear h
  go_enter Tryz.func36, Tryz.ntmps36
  go_wp2_with fail
  go_loopw [7] (fun i wr => ∃ k : Nat, k ≤ 4 ∧ i = .int .i64 k ∧ (own 5 1 (.slice (some ⟨g, 0, Option.none⟩) l.length cap) l.length (vbs (putL l at' n k)) * F).on wr ∧ Str w wr) (fun i _ => 4 - (intOf i).toNat)
  case atStart => exact ⟨0, by omega, rfl, H.out, Str.refl _⟩
  case round =>
    obtain ⟨k, hk, rfl, hw, hstr⟩ := hrel
    by_cases hlt : k < 4
    · have hpl := putL_len l at' n k
      have hp : ((n : Int) / 2 ^ (8 * k)) = ((n / 2 ^ (8 * k) : Nat) : Int) := by simp
      have hml : n / 2 ^ (8 * k) ≤ n := Nat.div_le_self _ _
      have hb := b4_toNat n k
      have cb := own_cell hw (at' + k) _ (vbs_get _ (at' + k) (by rw [hpl]; omega))
      have fr := own_free hw (at' + k)
      have Hst := hide (own_store hw (j := at' + k) (by omega) (vb (b4 n k)))
      have Hn := hide (show putL l at' n (k + 1) = (putL l at' n k).set (at' + k) (b4 n k) from rfl)
      have Hstr := hide hstr
      rw [vbs_set, ← Hn.out] at Hst
      have hvb : vb (b4 n k) = .int .u8 ((n / 2 ^ (8 * k) % 256 : Nat) : Int) := by simp only [vb, hb]
      rw [hvb] at Hst
      generalize (putL l at' n k)[at' + k]'(by rw [hpl]; omega) = old at cb
      clear hw hstr hb hvb hpl
      generalize n / 2 ^ (8 * k) = m at *
      go_wp2_with fail
      exact ⟨⟨k + 1, by omega, by simp, Hst.out, Hstr.out.setCell _ _⟩, by simp [intOf]; omega⟩
    · obtain rfl : k = 4 := by omega
      have Hw := hide hw
      have Hstr := hide hstr
      clear hw hstr
      go_wp2_with fail
      go_end0
      have hpl := putL_len l at' n 4
      exact ⟨⟨_, rfl⟩, by unfold ownR; rw [hpl]; exact Hw.out, Hstr.out⟩

set_option maxRecDepth 100000 in
set_option maxHeartbeats 2000000 in
theorem number_any (v : Value) (l : List UInt8) (at' : Nat) (w : World) (h : IsBytes w v l) (ha : at' + 4 ≤ l.length) (hl : l.length ≤ 1000000) :
    Calls Tryz.prog 57 #[v, .int .i64 at'] w fun e w' => e = .returned (.int .u32 (numS l at' 4 : Nat)) ∧ w = w' := by
  obtain ⟨a, c, rfl, hc, hm, hla, _⟩ := h
  unfold maxLen at hm
  have Hl := hide hla
  clear hla
  go_enter Tryz.func57, Tryz.ntmps57
  go_wp2_with fail
  go_loop [5, 7] (fun q i => ∃ k : Nat, k ≤ 4 ∧ i = .int .i64 k ∧ q = .int .u32 (numS l at' k : Nat)) (fun _ i => 4 - (intOf i).toNat)
  case atStart => exact ⟨0, by omega, rfl, rfl⟩
  case round =>
    obtain ⟨k, hk, rfl, rfl⟩ := hrel
    by_cases hlt : k < 4
    · obtain ⟨b, off, rfl⟩ := Lay.isAddr Hl.out (at' + k) (by simp; omega)
      have cb := Lay.cell Hl.out (at' + k) (vbs_get l (at' + k) (by omega))
      have hg : l[at' + k]'(by omega) = l.getD (at' + k) 0 := by rw [List.getD_eq_getElem?_getD, List.getElem?_eq_getElem (by omega)]; rfl
      rw [hg] at cb
      have HS := hide (show numS l at' (k + 1) = numS l at' k + (l.getD (at' + k) 0).toNat * 2 ^ (8 * k) from rfl)
      have hlt1 := numS_lt l at' k
      have hx := UInt8.toNat_lt (l.getD (at' + k) 0)
      have hk2 : 2 ^ (8 * k) ≤ 16777216 := by
        match k, hlt with
        | 0, _ => decide
        | 1, _ => decide
        | 2, _ => decide
        | 3, _ => decide
      clear hg
      generalize (l.getD (at' + k) 0) = x at *
      generalize numS l at' k = q at *
      have hor : q ||| x.toNat * 2 ^ (8 * k) = q + x.toNat * 2 ^ (8 * k) := by
        rw [Nat.or_comm, ← Nat.shiftLeft_eq, ← Nat.shiftLeft_add_eq_or_of_lt hlt1, Nat.add_comm]
      have hmul : x.toNat * 2 ^ (8 * k) ≤ 255 * 16777216 := Nat.mul_le_mul (by omega) hk2
      have hp : ((x.toNat : Nat) : Int) * 2 ^ (8 * k) = ((x.toNat * 2 ^ (8 * k) : Nat) : Int) := by simp
      have hp2 : (x.toNat * 2 ^ (8 * k) : Nat) % 4294967296 = x.toNat * 2 ^ (8 * k) := Nat.mod_eq_of_lt (by omega)
      have e1 : bits .or .u32 (q : Int) ((x.toNat * 2 ^ (8 * k) : Nat) : Int) = ((q + x.toNat * 2 ^ (8 * k) : Nat) : Int) := by rw [u32_or_nat _ _ (by omega) (by omega), hor]
      clear hor
      generalize x.toNat * 2 ^ (8 * k) = y at *
      go_wp2_with fail
      go_round
      case rel => exact ⟨k + 1, by omega, by go_num, by rw [HS.out]; simp⟩
      case measure => simp [intOf]; omega
    · obtain rfl : k = 4 := by omega
      go_wp2_with fail
      go_ret
      exact ⟨rfl, rfl⟩
end Go.Proofs.YtgmpmlneoiagdaaGreatDoor

/- The Go functions of record: which may be, the check sum, equal bytes; the document's own. -/
namespace Go.Proofs.YtgmpmlneoiagdaaGreatDoor
open Go.ChangeShapes Go.WideShapes Go.ChangeAt Go.RowKit
set_option linter.unusedVariables false

structure RecS where
  seq : Nat
  floor : Nat
  bytes : Nat
  sum : Nat
  phase : UInt8
  done : Nat
  init : List UInt8
structure RecS.Ok (s : RecS) : Prop where
  seq : s.seq < 4294967296
  floor : s.floor < 4294967296
  bytes : s.bytes < 4294967296
  sum : s.sum < 4294967296
  done : s.done < 4294967296
  init : s.init.length ≤ 1000000
abbrev u32v (n : Nat) : Value := .int .u32 (n : Int)
abbrev recCells (s : RecS) (iv : Value) : Array Value := #[u32v s.seq, u32v s.floor, u32v s.bytes, u32v s.sum, vb s.phase, u32v s.done, iv]
/-- the document's own -/
abbrev refCells (s : RecS) (iv : Value) : Array Value := #[u32v s.seq, u32v s.floor, u32v s.bytes, u32v s.sum, u32v s.done, vb s.phase, iv]
def RecS.right (s : RecS) : Bool := decide (s.bytes ≤ 4096 ∧ s.done ≤ 4096 ∧ s.phase.toNat ≤ 2 ∧ s.init.length ≤ 128 ∧ (s.phase.toNat ≠ 0 ∨ s.done = 0 ∧ s.init.length = 0))

theorem alloc1 {w : World} {o : Obj} : Below w.heap.size w (w.alloc o) := (Below.refl _ _).alloc (Nat.le_refl _) o

set_option maxRecDepth 100000 in
set_option maxHeartbeats 4000000 in
theorem right_any (s : RecS) (iv : Value) (w : World) (ok : s.Ok) (h : IsBytes w iv s.init) :
    Calls Tryz.prog 35 #[.agg (recCells s iv)] w fun e w' => e = .returned (.bool s.right) ∧ Below w.heap.size w w' := by
  obtain ⟨a, c, rfl, _, _, _, _⟩ := h
  obtain ⟨_, _, hb, _, hd, hi⟩ := ok
  have hp := UInt8.toNat_lt s.phase
  obtain ⟨seq, floor, bytes, sum, phase, done, init⟩ := s
  simp only at *
  generalize hR : RecS.right _ = R
  have HR := hide hR
  clear hR
  rcases (show 4096 < bytes ∨ (bytes ≤ 4096 ∧ 4096 < done) ∨ (bytes ≤ 4096 ∧ done ≤ 4096 ∧ 2 < phase.toNat) ∨ (bytes ≤ 4096 ∧ done ≤ 4096 ∧ phase.toNat ≤ 2 ∧ 128 < init.length) ∨
    (bytes ≤ 4096 ∧ done ≤ 4096 ∧ phase.toNat ≤ 2 ∧ init.length ≤ 128 ∧ 1 ≤ phase.toNat) ∨ (bytes ≤ 4096 ∧ done ≤ 4096 ∧ phase.toNat < 1 ∧ init.length ≤ 128 ∧ 1 ≤ done) ∨
    (bytes ≤ 4096 ∧ done < 1 ∧ phase.toNat < 1 ∧ init.length ≤ 128 ∧ 1 ≤ init.length) ∨ (bytes ≤ 4096 ∧ done < 1 ∧ phase.toNat < 1 ∧ init.length < 1) by omega) with h1 | ⟨h1, h2⟩ | ⟨h1, h2, h3⟩ | ⟨h1, h2, h3, h4⟩ | ⟨h1, h2, h3, h4, h5⟩ | ⟨h1, h2, h3, h4, h5⟩ | ⟨h1, h2, h3, h4, h5⟩ | ⟨h1, h2, h3, h4⟩
  all_goals
    have HV : Hid (R = true ∨ R = false) := hide (by cases R <;> simp)
    have e0 : (1 ≤ phase.toNat → (((phase.toNat : Nat) : Int) != 0) = true) := fun h => by simp; omega
    have e0' : (phase.toNat < 1 → (((phase.toNat : Nat) : Int) != 0) = false) := fun h => by simp; omega
    have e1 : (1 ≤ done → (((done : Nat) : Int) == 0) = false) := fun h => by rw [beq_eq_false_iff_ne]; omega
    have e1' : (done < 1 → (((done : Nat) : Int) == 0) = true) := fun h => by rw [beq_iff_eq]; omega
    have e2 : (1 ≤ init.length → (((init.length : Nat) : Int) == 0) = false) := fun h => by rw [beq_eq_false_iff_ne]; omega
    have e2' : (init.length < 1 → (((init.length : Nat) : Int) == 0) = true) := fun h => by rw [beq_iff_eq]; omega
    try replace e0 := e0 (by omega)
    try replace e0' := e0' (by omega)
    try replace e1 := e1 (by omega)
    try replace e1' := e1' (by omega)
    try replace e2 := e2 (by omega)
    try replace e2' := e2' (by omega)
    go_enter Tryz.func35, Tryz.ntmps35
    go_wp2_with fail
    go_ret
    refine ⟨?_, alloc1⟩
    rw [← HR.out]
    first
      | rw [show RecS.right ⟨seq, floor, bytes, sum, phase, done, init⟩ = true from decide_eq_true (by simp only; omega)]; rfl
      | rw [show RecS.right ⟨seq, floor, bytes, sum, phase, done, init⟩ = false from decide_eq_false (by simp only; omega)]; rfl

end Go.Proofs.YtgmpmlneoiagdaaGreatDoor

/- record: equal bytes, and the check sum. -/
namespace Go.Proofs.YtgmpmlneoiagdaaGreatDoor
open Go.ChangeShapes Go.WideShapes Go.ChangeAt Go.RowKit
set_option linter.unusedVariables false
set_option linter.unusedSimpArgs false

theorem equal_any (v1 v2 : Value) (l1 l2 : List UInt8) (w : World) (h1 : IsBytes w v1 l1) (h2 : IsBytes w v2 l2) :
    Calls Tryz.prog 59 #[v1, v2] w fun e w' => e = .returned (.bool (decide (l1 = l2))) ∧ w = w' := by
  have hsu := Tryz.underlying22
  have hsb := Tryz.underlying5
  have hst := Tryz.underlying9
  obtain ⟨a1, c1, rfl, _, _, hl1, _⟩ := h1
  obtain ⟨a2, c2, rfl, _, _, hl2, _⟩ := h2
  have k1 := run_string_of (P := Tryz.prog) (w := w) (c := c1) hsu hsb hl1 _ hst
  have k2 := run_string_of (P := Tryz.prog) (w := w) (c := c2) hsu hsb hl2 _ hst
  clear hl1 hl2
  by_cases he : l1 = l2
  · subst he
    have hd : decide (l1 = l1) = true := by simp
    rw [hd]
    go_enter Tryz.func59, Tryz.ntmps59
    go_wp2_with fail
    go_ret
    exact ⟨rfl, rfl⟩
  · have hd : decide (l1 = l2) = false := by simpa using he
    rw [hd]
    have hs : (l1 == l2) = false := by rw [beq_eq_false_iff_ne]; exact he
    go_enter Tryz.func59, Tryz.ntmps59
    go_wp2_with fail
    go_ret
    exact ⟨rfl, rfl⟩
/-- the check sum of a record's bytes -/
def chkN (l : List UInt8) : Nat := if crcUpd 0 l = 4294967295 then 0 else crcUpd 0 l
theorem chkN_lt (l : List UInt8) : chkN l < 4294967296 := by unfold chkN; have := crcUpd_lt 0 l; split <;> omega
theorem check_any (v : Value) (l : List UInt8) (w : World) (h : IsBytes w v l) (hl : l.length = 160) :
    Calls Tryz.prog 37 #[v] w fun e w' => e = .returned (u32v (chkN (l.take 156))) ∧ Below w.heap.size w w' := by
  have H := hide h
  obtain ⟨a, c, rfl, hc, hm, hla, _⟩ := h
  obtain ⟨g, o, rfl⟩ := Lay.isAddr hla 0 (by simp; omega)
  rw [hl] at hc ⊢
  have hb : IsBytes w (.slice (some ⟨g, o, Option.none⟩) 156 c) (l.take 156) := by
    refine ⟨_, _, by rw [List.length_take, hl]; rfl, by rw [List.length_take, hl]; simp; omega, hm, ?_, by simp⟩
    have := hla.take 156
    rwa [← List.map_take] at this
  unfold maxLen at hm
  have hr := IsRows.one hb 22
  have HS := hide (sum_any _ [l.take 156] _ hr)
  simp only [List.flatten_cons, List.flatten_nil, List.append_nil] at HS
  have hq := crcUpd_lt 0 (l.take 156)
  have HC := hide (show chkN (l.take 156) = if crcUpd 0 (l.take 156) = 4294967295 then 0 else crcUpd 0 (l.take 156) from rfl)
  generalize crcUpd 0 (l.take 156) = q at *
  generalize chkN (l.take 156) = ck at *
  clear hla hb hr
  have hm2 : (156 : Int) ≤ (c : Int) := by omega
  go_enter Tryz.func37, Tryz.ntmps37
  go_wp2_with fail
  refine HS.out.mono ?_
  rintro e w1 ⟨rfl, hb1⟩
  have HB := hide (Below.trans alloc1 (hb1.mono (by simp)))
  clear hb1
  by_cases hx : q = 4294967295
  · have hck := HC.out
    rw [if_pos hx] at hck
    have e1 : ((q : Int) == 4294967295) = true := by rw [beq_iff_eq]; omega
    clear hx
    subst hck
    go_wp2_with fail
    go_ret
    exact ⟨rfl, HB.out⟩
  · have hck := HC.out
    rw [if_neg hx] at hck
    have e1 : ((q : Int) == 4294967295) = false := by rw [beq_eq_false_iff_ne]; omega
    clear hx
    subst hck
    go_wp2_with fail
    go_ret
    exact ⟨rfl, HB.out⟩

/-- a new block, and all that was -/
theorem blk_all {W w' : World} {g : Nat} {o : Obj} (hg : w'.heap[g]? = some o) (hb : Below W.heap.size W w') (h : W.heap.size ≤ g) : (blk g o * all W).on w' := by
  refine SP.on_mul.2 ⟨fun k => if k = g then some o else Option.none, fun k => if k < W.heap.size then W.heap[k]? else Option.none, ?_, ?_, ?_, by simp [blk], ?_⟩
  · intro k
    by_cases hk : k = g
    · right; simp; omega
    · left; simp [hk]
  · intro k x hx
    by_cases hk : k = g
    · subst hk; simp at hx; subst hx; exact hg
    · simp [hk] at hx
  · intro k x hx
    by_cases hk : k < W.heap.size
    · simp only [hk, if_true] at hx
      exact (hb.block k hk).trans hx
    · simp [hk] at hx
  · intro k hk
    simp [hk]

/-- a record's bytes ahead of the check sum -/
def recHead (s : RecS) : List UInt8 := wordB 827216706 ++ wordB s.seq ++ wordB s.floor ++ wordB s.bytes ++ wordB s.sum ++ [s.phase, UInt8.ofNat s.init.length, 0, 0] ++ wordB s.done ++ s.init ++ List.replicate (128 - s.init.length) 0
def recBytes (s : RecS) : List UInt8 := recHead s ++ wordB (chkN (recHead s))
theorem recHead_len (s : RecS) (h : s.init.length ≤ 128) : (recHead s).length = 156 := by
  simp only [recHead, List.length_append, wordB_len, List.length_cons, List.length_nil, List.length_replicate]
  omega
theorem recBytes_len (s : RecS) (h : s.init.length ≤ 128) : (recBytes s).length = 160 := by
  rw [recBytes, List.length_append, recHead_len s h, wordB_len]

abbrev R160 (g : Nat) (l : List UInt8) : SP := own 5 1 (.slice (some ⟨g, 0, Option.none⟩) 160 160) 160 (vbs l)
theorem put160 (g : Nat) (l : List UInt8) (hl : l.length = 160) (at' n : Nat) (hn : n < 4294967296) (ha : at' + 4 ≤ 160) (F : SP) (w : World) (h : (R160 g l * F).on w) :
    Calls Tryz.prog 36 #[.slice (some ⟨g, 0, Option.none⟩) 160 160, .int .i64 at', .int .u32 n] w fun e w' => (∃ v, e = .returned v) ∧ (R160 g (putL l at' n 4) * F).on w' ∧ Str w w' := by
  have h2 := put_any g 160 l at' n hn (by omega) (by omega) F w (by unfold ownR; rw [hl]; exact h)
  unfold ownR at h2
  rw [putL_len, hl] at h2
  exact h2

/-- how an encoding ends -/
def RecEnd (s : RecS) (w : World) (e : Ending) (w' : World) : Prop := (s.right = true ∧ ∃ out, e = .returned (.tuple #[out, .int .i64 0]) ∧ (ownR out (recBytes s) * all w).on w' ∧ Str w w') ∨
  (s.right = false ∧ e = .returned (.tuple #[.slice Option.none 0 0, .int .i64 1]) ∧ Below w.heap.size w w')

theorem mades_one (z : Value) (n : Nat) : madeCells #[z] n = (List.replicate n z).toArray := by
  apply Array.ext
  · simp [size_madeCells]
  · intro i h1 h2
    simp [madeCells, Nat.mod_one]
theorem boxCells {w' : World} {b : Nat} {s : RecS} {iv : Value} {t : TypeId} (h : w'.heap[b]? = some (.cells (recCells s iv) t)) :
    w'.cell? ⟨b, 0, Option.none⟩ = some (u32v s.seq) ∧ w'.cell? ⟨b, 1, Option.none⟩ = some (u32v s.floor) ∧ w'.cell? ⟨b, 2, Option.none⟩ = some (u32v s.bytes) ∧ w'.cell? ⟨b, 3, Option.none⟩ = some (u32v s.sum) ∧
    w'.cell? ⟨b, 4, Option.none⟩ = some (vb s.phase) ∧ w'.cell? ⟨b, 5, Option.none⟩ = some (u32v s.done) ∧ w'.cell? ⟨b, 6, Option.none⟩ = some iv := by
  refine ⟨?_, ?_, ?_, ?_, ?_, ?_, ?_⟩ <;> (rw [cell_of_row _ _ _ _ _ _ h]; rfl)
theorem splice_vbs (A I : List UInt8) (m : Nat) (h : I.length ≤ m) (i : Nat) (hi : A.length = i) : splice (vbs (A ++ List.replicate (m + 4) 0)) i (vbs I) = vbs ((A ++ I ++ List.replicate (m - I.length) 0) ++ List.replicate 4 0) := by
  subst hi
  have e : vbs (A ++ List.replicate (m + 4) 0) = vbs A ++ vbs (List.replicate (m + 4) 0) := by simp
  unfold splice
  rw [e, List.take_left' (by simp), List.drop_append, List.drop_of_length_le (by simp)]
  have e2 : m + 4 - I.length = (m - I.length) + 4 := by omega
  have e3 : List.replicate ((m - I.length) + 4) (0 : UInt8) = List.replicate (m - I.length) 0 ++ List.replicate 4 0 := by rw [List.replicate_append_replicate]
  have hv : (vbs I).length = I.length := by simp
  have hv2 : (vbs A).length = A.length := by simp
  have e4 : List.drop I.length (vbs (List.replicate (m + 4) 0)) = vbs (List.replicate (m - I.length) 0 ++ List.replicate 4 0) := by
    rw [← e3, ← e2, vbs, ← List.map_drop, List.drop_replicate]
  rw [hv, hv2, Nat.add_sub_cancel_left, e4]
  simp only [vbs, List.map_append, List.nil_append, List.append_assoc]
/-- the next number is put behind what is there -/
theorem putz (g : Nat) (A : List UInt8) (i n m : Nat) (ai ni : Int) (hai : ai = (i : Nat)) (hni : ni = (n : Nat)) (hA : A.length = i) (hm : i + 4 + m = 160) (hn : n < 4294967296) (F : SP) (w0 w : World) (h : (R160 g (A ++ List.replicate (m + 4) 0) * F).on w) (hs : Str w0 w) :
    Calls Tryz.prog 36 #[.slice (some ⟨g, 0, Option.none⟩) 160 160, .int .i64 ai, .int .u32 ni] w fun e w' => (∃ v, e = .returned v) ∧ (R160 g ((A ++ wordB n) ++ List.replicate m 0) * F).on w' ∧ Str w0 w' := by
  subst hai hni
  have h2 := put160 g _ (by simp; omega) i n hn (by omega) F w h
  rw [putL_zeros A i n m hA.symm] at h2
  exact h2.mono fun e w' ⟨h1, h2, h3⟩ => ⟨h1, h2, hs.trans h3⟩
theorem storez {g : Nat} {A : List UInt8} {i m : Nat} {c : UInt8} (hA : A.length = i) (hm : i + 1 + m = 160) {F : SP} {w : World} (h : (R160 g (A ++ List.replicate (m + 1) 0) * F).on w) :
    (R160 g ((A ++ [c]) ++ List.replicate m 0) * F).on (w.setCell ⟨g, i, Option.none⟩ (vb c)) := by
  have h2 := own_store h (j := i) (by omega) (vb c)
  rw [vbs_set, set_zeros A i m c hA.symm] at h2
  exact h2

set_option maxRecDepth 100000 in
set_option maxHeartbeats 8000000 in
theorem rencode_any (s : RecS) (iv : Value) (w : World) (ok : s.Ok) (h : IsBytes w iv s.init) :
    Calls Tryz.prog 22 #[.agg (recCells s iv)] w (RecEnd s w) := by
  have hR := right_any s iv (w.alloc (.cells (recCells s iv) 31)) ok (h.below alloc1)
  cases hr : s.right with
  | false =>
    rw [hr] at hR
    have Hr := hide hr
    clear hr
    go_enter Tryz.func22, Tryz.ntmps22
    go_wp2_with fail
    refine hR.mono ?_
    rintro e w1 ⟨rfl, hb1⟩
    go_wp2_with fail
    go_ret2
    exact .inr ⟨Hr.out, rfl, alloc1.trans (hb1.mono (by simp))⟩
  | true =>
    rw [hr] at hR
    have Hr := hide hr
    have h128 : s.init.length ≤ 128 := by simp only [RecS.right, decide_eq_true_eq] at hr; omega
    clear hr
    obtain ⟨o1, o2, o3, o4, o5, _⟩ := ok
    obtain ⟨ia, ic, rfl, hic, him, hil, hin⟩ := h
    have Hil := hide hil
    have Hin := hide hin
    clear hil hin
    unfold maxLen at him
    go_enter Tryz.func22, Tryz.ntmps22
    go_wp2_with fail
    refine hR.mono ?_
    rintro e W ⟨rfl, hbW⟩
    have hsz : w.heap.size < W.heap.size := by have := hbW.size; simp only [World.size_alloc] at this; omega
    have hbox := (hbW.block w.heap.size (by simp)).trans (heap_alloc_new w (.cells (recCells s (.slice ia s.init.length ic)) 31))
    have HW := hide (Below.trans alloc1 (hbW.mono (by simp)))
    have Hbox := hide hbox
    have hmk : (Instr.makeSlice 22 (.int .i64 160) (.int .i64 160)).run Tryz.prog W = .ok (.slice (some ⟨W.heap.size, 0, Option.none⟩) 160 160) (W.alloc (.cells (vbs (List.replicate 160 0)).toArray 5)) :=
      (run_make_row' (P := Tryz.prog) 22 5 (.int .u8 0) 1 Tryz.underlying22 infoR rfl .i64 .i64 160 (by omega) (by omega) W).trans (by rw [mades_one]; rfl)
    have hw0 : (R160 W.heap.size ([] ++ List.replicate (156 + 4) 0) * all W).on (W.alloc (.cells (vbs (List.replicate 160 0)).toArray 5)) := own_new 5 1 160 _ (on_all W) (by simp) (by decide)
    have hbx : ∀ w', (all W).on w' → Str W w' → w'.heap[w.heap.size]? = some (.cells (recCells s (.slice ia s.init.length ic)) 31) := fun w' h1 h2 => ((all_below h1 h2).block _ hsz).trans hbox
    have Hbx := hide hbx
    have hp0 := putz W.heap.size [] 0 827216706 156 0 827216706 rfl rfl rfl rfl (by omega) (all W) W _ hw0 ((Str.refl _).alloc _)
    clear hR hbW hbox hbx hw0
    generalize (W.alloc (.cells (vbs (List.replicate 160 0)).toArray 5)) = w1 at *
    go_wp2_with fail
    refine hp0.mono ?_
    clear hp0 hmk
    rintro e w1 ⟨⟨v, rfl⟩, hw1, hs1⟩
    obtain ⟨b0, b1, b2, b3, b4, b5, b6⟩ := boxCells (Hbx.out _ hw1.right hs1)
    have hp1 := putz W.heap.size _ 4 s.seq 152 4 s.seq rfl rfl (by simp [wordB_len]) rfl o1 (all W) W _ hw1 hs1
    clear hw1 hs1
    go_wp2_with fail
    refine hp1.mono ?_
    clear hp1 b0 b1 b2 b3 b4 b5 b6
    rintro e w2 ⟨⟨v1, rfl⟩, hw2, hs2⟩
    obtain ⟨b0, b1, b2, b3, b4, b5, b6⟩ := boxCells (Hbx.out _ hw2.right hs2)
    have hp2 := putz W.heap.size _ 8 s.floor 148 8 s.floor rfl rfl (by simp [wordB_len]) rfl o2 (all W) W _ hw2 hs2
    clear hw2 hs2
    go_wp2_with fail
    refine hp2.mono ?_
    clear hp2 b0 b1 b2 b3 b4 b5 b6
    rintro e w3 ⟨⟨v2, rfl⟩, hw3, hs3⟩
    obtain ⟨b0, b1, b2, b3, b4, b5, b6⟩ := boxCells (Hbx.out _ hw3.right hs3)
    have hp3 := putz W.heap.size _ 12 s.bytes 144 12 s.bytes rfl rfl (by simp [wordB_len]) rfl o3 (all W) W _ hw3 hs3
    clear hw3 hs3
    go_wp2_with fail
    refine hp3.mono ?_
    clear hp3 b0 b1 b2 b3 b4 b5 b6
    rintro e w4 ⟨⟨v3, rfl⟩, hw4, hs4⟩
    obtain ⟨b0, b1, b2, b3, b4, b5, b6⟩ := boxCells (Hbx.out _ hw4.right hs4)
    have hp4 := putz W.heap.size _ 16 s.sum 140 16 s.sum rfl rfl (by simp [wordB_len]) rfl o4 (all W) W _ hw4 hs4
    clear hw4 hs4
    go_wp2_with fail
    refine hp4.mono ?_
    clear hp4 b0 b1 b2 b3 b4 b5 b6
    rintro e w5 ⟨⟨v4, rfl⟩, hw5, hs5⟩
    obtain ⟨b0, b1, b2, b3, b4, b5, b6⟩ := boxCells (Hbx.out _ hw5.right hs5)
    have fr5 := own_free hw5 20
    have ce5 := own_cell hw5 20 (.int .u8 0) rfl
    have hw6 := storez (i := 20) (m := 139) (c := s.phase) (by simp [wordB_len]) rfl hw5
    have hs6 := hs5.setCell ⟨W.heap.size, 20, Option.none⟩ (vb s.phase)
    have fr6 := own_free hw6 21
    have ce6 := own_cell hw6 21 (.int .u8 0) rfl
    obtain ⟨_, _, _, _, _, _, c6⟩ := boxCells (Hbx.out _ hw6.right hs6)
    have hw7 := storez (i := 21) (m := 138) (c := UInt8.ofNat s.init.length) (by simp [wordB_len]) rfl hw6
    have hs7 := hs6.setCell ⟨W.heap.size, 21, Option.none⟩ (vb (UInt8.ofNat s.init.length))
    have hvl : vb (UInt8.ofNat s.init.length) = .int .u8 (s.init.length : Int) := by simp [vb]; omega
    rw [hvl] at hw7 hs7
    obtain ⟨_, _, _, _, _, c7, _⟩ := boxCells (Hbx.out _ hw7.right hs7)
    clear hvl
    have e138 : ∀ A : List UInt8, A ++ List.replicate 138 0 = (A ++ [0, 0]) ++ List.replicate (132 + 4) 0 := fun A => by simp [List.replicate_succ]
    rw [e138] at hw7
    have hp7 := putz W.heap.size _ 24 s.done 132 24 s.done rfl rfl (by simp [wordB_len]) rfl o5 (all W) W _ hw7 hs7
    clear hw5 hs5 hw6 hs6 hw7 hs7 e138
    go_wp2_with fail
    refine hp7.mono ?_
    clear hp7 c6 c7 fr5 ce5 fr6 ce6 b0 b1 b2 b3 b4 b5 b6
    rintro e w8 ⟨⟨v8, rfl⟩, hw8, hs8⟩
    have hA8 : ((((((((([] : List UInt8) ++ wordB 827216706) ++ wordB s.seq) ++ wordB s.floor) ++ wordB s.bytes) ++ wordB s.sum) ++ [s.phase]) ++ [UInt8.ofNat s.init.length]) ++ [0, 0]) ++ wordB s.done =
      wordB 827216706 ++ wordB s.seq ++ wordB s.floor ++ wordB s.bytes ++ wordB s.sum ++ [s.phase, UInt8.ofNat s.init.length, 0, 0] ++ wordB s.done := by simp
    rw [hA8] at hw8
    clear hA8
    have hAl : (wordB 827216706 ++ wordB s.seq ++ wordB s.floor ++ wordB s.bytes ++ wordB s.sum ++ [s.phase, UInt8.ofNat s.init.length, 0, 0] ++ wordB s.done).length = 28 := by simp [wordB_len]
    have HH := hide (show recHead s = (wordB 827216706 ++ wordB s.seq ++ wordB s.floor ++ wordB s.bytes ++ wordB s.sum ++ [s.phase, UInt8.ofNat s.init.length, 0, 0] ++ wordB s.done) ++ s.init ++ List.replicate (128 - s.init.length) 0 from rfl)
    generalize (wordB 827216706 ++ wordB s.seq ++ wordB s.floor ++ wordB s.bytes ++ wordB s.sum ++ [s.phase, UInt8.ofNat s.init.length, 0, 0] ++ wordB s.done) = A at *
    have hblk : w8.heap[W.heap.size]? = some (.cells (vbs (A ++ List.replicate 132 0)).toArray 5 (0, 0)) := by
      obtain ⟨hx, hv⟩ := own_cases hw8
      rcases hv with ⟨hv, _⟩ | ⟨g, cap, cur, hv, e2, e3, e4, e5, e6⟩
      · cases hv
      · simp only [Value.slice.injEq, Option.some.injEq] at hv
        obtain ⟨hv, _, rfl⟩ := hv
        cases hv
        rw [on_blk_mul e6, ← e5, List.take_of_length_le (by simp [e4])]
    have hb8 := all_below hw8.right hs8
    obtain ⟨_, _, _, _, _, _, c8⟩ := boxCells (Hbx.out _ hw8.right hs8)
    have Hb8 := hide hb8
    have Hblk := hide hblk
    have hgs : W.heap.size < w8.heap.size := (Array.getElem?_eq_some_iff.1 hblk).1
    have HA := hide hAl
    have hc8 := hide c8
    clear hw8 hs8 hblk hb8 hAl c8
    go_wp2
    refine wp_region_tail 4 [isV (.slice (some ⟨W.heap.size, 0, Option.none⟩) 160 160), isV (.slice (some ⟨W.heap.size, 28, Option.none⟩) 128 132), isV (.pointer (some ⟨w.heap.size, 6, Option.none⟩)), isV (.slice ia s.init.length ic)]
      (by simp only [List.take_succ_cons, List.take_zero]; rfl) (by simp only [List.drop_succ_cons, List.drop_zero]; rfl) (by kernel_rfl) (by kernel_rfl) (by kernel_rfl) (by decide) rfl ?keep ?todo ?rest
    case keep => exact ⟨Keep.isV _, Keep.isV _, Keep.isV _, Keep.isV _, trivial⟩
    case todo =>
      refine ⟨?_, ?_, ?_, ?_, trivial⟩
      · exact fun ev W hT hb hk hf => OpOk.move rfl hk.1 ⟨rfl, Stay.refl _⟩
      · intro ev X hT hb hk hf
        have e0 : ev (.tmp 41) = .slice (some ⟨W.heap.size, 0, Option.none⟩) 160 160 := hf.1
        exact OpOk.run (v := .slice (some ⟨W.heap.size, 28, Option.none⟩) 128 132) (W' := X) (by simp [execOp, e0, hb.1, go_sem]) ⟨rfl, Stay.refl _⟩
      · intro ev X hT hb hk hf
        have e0 : ev (.tmp 1) = .pointer (some ⟨w.heap.size, 0, Option.none⟩) := hk.1
        exact OpOk.run (v := .pointer (some ⟨w.heap.size, 6, Option.none⟩)) (W' := X) (by simp [execOp, e0, go_sem]) ⟨rfl, Stay.refl _⟩
      · intro ev X hT hb hk hf
        have e0 : ev (.tmp 43) = .pointer (some ⟨w.heap.size, 6, Option.none⟩) := hf.1
        have cW := (hT.cell (p := ⟨w.heap.size, 6, Option.none⟩) (World.block_lt_of_cell? w8 _ hc8.out)).trans hc8.out
        exact OpOk.run (v := .slice ia s.init.length ic) (W' := X) (by simp [execOp, e0, cW, go_sem]) ⟨rfl, Stay.refl _⟩
    case rest =>
      intro X hT
      rintro _ rfl _ rfl _ rfl _ rfl
      have hbX := Hb8.out.trans (hT.mono (by omega))
      have hgX := (hT.block _ hgs).trans Hblk.out
      have hlX : Lay X ia (vbs s.init) := ((Hil.out.below (HW.out)).below hbX)
      refine Rest.done ?_
      refine wpList_copy_splice rfl _ _ _ _ rfl 5 Tryz.underlying22 (by kernel_rfl) _ _ _ _ _ _ rfl rfl W.heap.size 28 (vbs (A ++ List.replicate 132 0)) 5 hgX (vbs s.init) (by simp [Nat.min_def, h128]) ?_ (by simp [HA.out]; omega) (vbs_one _) W.heap.size W hbX (Nat.le_refl _) ?_
      · intro hp
        obtain ⟨b, off, rfl⟩ := hlX.isAddr 0 hp
        refine ⟨rfl, _, rfl, ?_⟩
        intro j v hv
        have := Lay.cell hlX j hv
        have ea : (⟨b, off, Option.none⟩ : Addr).add j = ⟨b, off + j, Option.none⟩ := by unfold Addr.add; split <;> simp_all
        rw [ea]; exact this
      · intro w9 hg9 hb9
        rw [splice_vbs A s.init 128 h128 28 HA.out, ← HH.out] at hg9
        have hl9 := recHead_len s h128
        have hw9 : (R160 W.heap.size (recHead s ++ List.replicate 4 0) * all W).on w9 := own_of_blk (blk_all hg9.out hb9 (Nat.le_refl _)) (by simp [hl9]) (by omega) (by decide) (by simp [hl9]) (List.take_of_length_le (by simp [hl9]))
        have hc9 := check_any _ _ w9 (own_bytes hw9) (by simp [hl9])
        rw [List.take_left' hl9] at hc9
        have Hw9 := hide hw9
        have Hb9 := hide hb9
        have Hl9 := hide hl9
        clear hw9 hb9 hg9 hl9 hlX hgX hbX hT
        simp only [wpList]
        go_wp2_with fail
        refine hc9.mono ?_
        clear hc9
        rintro e w10 ⟨rfl, hb10⟩
        have hw10 := SP.on.below Hw9.out hb10
        have hs10 := (Str.below Hb9.out).trans (Str.below hb10)
        have hp10 := putz W.heap.size _ 156 (chkN (recHead s)) 0 156 (chkN (recHead s)) rfl rfl Hl9.out rfl (chkN_lt _) (all W) W _ hw10 hs10
        clear hw10 hs10 hb10
        go_wp2_with fail
        refine hp10.mono ?_
        clear hp10
        rintro e w11 ⟨⟨v11, rfl⟩, hw11, hs11⟩
        have Hw11 := hide hw11
        have Hs11 := hide hs11
        clear hw11 hs11
        go_wp2_with fail
        go_ret2
        refine .inl ⟨Hr.out, _, rfl, ?_, (Str.below HW.out).trans Hs11.out⟩
        have h12 := on_all_to Hw11.out ((on_all w).below HW.out)
        unfold ownR recBytes
        rw [List.length_append, Hl9.out, wordB_len]
        rw [List.replicate_zero, List.append_nil] at h12
        exact h12
end Go.Proofs.YtgmpmlneoiagdaaGreatDoor

/- record: the document's own numbers, check sum and bytes. -/
namespace Go.Proofs.YtgmpmlneoiagdaaGreatDoor
open Go.ChangeShapes Go.WideShapes Go.ChangeAt Go.RowKit
set_option linter.unusedVariables false
set_option linter.unusedSimpArgs false

end Go.Proofs.YtgmpmlneoiagdaaGreatDoor
