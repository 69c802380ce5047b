/- The law SignParts: other parts of the same bytes change nothing; with the order added to its number a signature is none any more. -/
import Derived.Test.YtbplbdnofobbiaaDoorSg8
import Derived.Test.YtbplbdnofobbiaaDoorCards
import Derived.Test.YtbplbdnofobbiaaDoorTie
import Derived.Deep.DeepHandedRow
set_option linter.unusedVariables false
set_option linter.unusedSimpArgs false
set_option maxRecDepth 100000
set_option maxHeartbeats 8000000
namespace Go.Proofs.YtbplbdnofobbiaaDoor
section
open Go.ChangeShapes Go.WideShapes Go.ChangeAt Go.RowKit
theorem LenOf.reach {H : Type} {P : Program} {ts : List TypeId} {ds : List (DataW H)} {d : DataW H} {n : Nat} (h : LenOf d n) (hsz : (DataW.weightsEach P ts ds).all (· ≤ reachBytes) = true) {j : Nat} {t e : TypeId} (ht : ts[j]? = some t) (hd : ds[j]? = some d)
    (hu : P.underlying t = some (.slice e)) (hb : 1 ≤ P.bytesOf e) : n ≤ 140737488351232 := by
  rcases h with rfl | ⟨es, sp, rfl, rfl⟩
  · omega
  · have := sized_slice hsz ht hd hu
    have h2 : es.length * 1 ≤ (es.length + sp.length) * P.bytesOf e := Nat.mul_le_mul (by omega) hb
    unfold reachBytes at this
    omega
end
namespace Cv
open Fe
open Go.ChangeShapes Go.WideShapes Go.ChangeAt Go.RowKit
theorem star_2_1 (P Q R : SP) : P * (Q * R) = Q * (P * R) := SP.mul_left_comm P Q R
theorem bv_blk2 {v1 v2 : Value} {o1 o2 : Obj} {F : SP} {w : World} (h : (Multi2.bv v1 o1 * (Multi2.bv v2 o2 * F)).on w) :
  ∃ g1 g2, v1 = .pointer (some ⟨g1, 0, .none⟩) ∧ v2 = .pointer (some ⟨g2, 0, .none⟩) ∧ (blk g1 o1 * (blk g2 o2 * F)).on w := by
 obtain ⟨g1, e1, h⟩ := Multi2.bv_blk h
 rw [SP.mul_left_comm] at h
 obtain ⟨g2, e2, h⟩ := Multi2.bv_blk h
 exact ⟨g1, g2, e1, e2, by rw [SP.mul_left_comm]; exact h⟩
def cyB (a b k : Nat) : Nat := (a % 256 ^ k + b % 256 ^ k) / 256 ^ k
theorem cyB_0 (a b : Nat) : cyB a b 0 = 0 := by simp [cyB, Nat.mod_one]
theorem cyB_le (a b k : Nat) : cyB a b k ≤ 1 := by
 have hB : 0 < 256 ^ k := Nat.pow_pos (by decide)
 have h1 := Nat.mod_lt a hB
 have h2 := Nat.mod_lt b hB
 unfold cyB
 have : (a % 256 ^ k + b % 256 ^ k) / 256 ^ k < 2 := Nat.div_lt_of_lt_mul (by omega)
 omega
theorem add_byte (a b k : Nat) : (a + b) / 256 ^ k % 256 = (a / 256 ^ k % 256 + b / 256 ^ k % 256 + cyB a b k) % 256 := by
 have hB : 0 < 256 ^ k := Nat.pow_pos (by decide)
 unfold cyB
 generalize 256 ^ k = B at *
 have e1 := Nat.div_add_mod a B
 have e2 := Nat.div_add_mod b B
 have e : a + b = (a % B + b % B) + B * (a / B + b / B) := by rw [Nat.mul_add]; omega
 rw [e, Nat.add_mul_div_left _ _ hB]
 omega
theorem cyB_step (a b k : Nat) : cyB a b (k + 1) = (a / 256 ^ k % 256 + b / 256 ^ k % 256 + cyB a b k) / 256 := by
 have hB : 0 < 256 ^ k := Nat.pow_pos (by decide)
 unfold cyB
 rw [Nat.pow_succ]
 generalize 256 ^ k = B at *
 rw [Nat.mod_mul, Nat.mod_mul]
 rw [show a % B + B * (a / B % 256) + (b % B + B * (b / B % 256)) = (a % B + b % B) + B * (a / B % 256 + b / B % 256) by rw [Nat.mul_add]; omega]
 rw [← Nat.div_div_eq_div_mul, Nat.add_mul_div_left _ _ hB]
 congr 1
 omega
def sA (a b k : Nat) : List UInt8 := (bl (a + b)).take k ++ (bl a).drop k
theorem sA_len (a b k : Nat) (h : k ≤ 32) : (sA a b k).length = 32 := by simp [sA, bl_len]; omega
theorem sA_0 (a b : Nat) : sA a b 0 = bl a := rfl
theorem sA_32 (a b : Nat) : sA a b 32 = bl (a + b) := by
 unfold sA
 rw [List.take_of_length_le (by rw [bl_len]; omega), List.drop_of_length_le (by rw [bl_len]; omega), List.append_nil]
theorem sA_get (a b k : Nat) (h : k < 32) : (sA a b k)[k]? = some (UInt8.ofNat (a / 256 ^ k % 256)) := by
 unfold sA
 rw [List.getElem?_append_right (by rw [List.length_take, bl_len]; omega), List.length_take, bl_len, Nat.min_eq_left (by omega), Nat.sub_self, List.getElem?_drop, Nat.add_zero]
 exact bl_get a k h
theorem sA_set (a b k : Nat) (h : k < 32) : (sA a b k).set k (UInt8.ofNat ((a + b) / 256 ^ k % 256)) = sA a b (k + 1) :=
 half_set (bl (a + b)) (bl a) k _ (bl_get (a + b) k h) (by rw [bl_len]; exact h)
theorem sp_nat (w : World) (hT : TabS w) (n : Nat) (hn : n < 256 ^ 32) (va : Value) (a : List UInt8) (ha : IsBytes w va a) (la : a.length ≤ 140737488351232) (vb0 : Value) (b : List UInt8) (hb : IsBytes w vb0 b) (lb : b.length ≤ 140737488351232) :
  Calls Tryd.prog 8 #[.agg (zB n), va, vb0] w fun e w' => e = .returned (.bool true) ∧ Below w.heap.size w w' := by
 have hub := Tryd.underlying38
 have huh := Tryd.underlying61
 have hu4 := Tryd.underlying23
 have hzB := zBZero
 have hzH := hZero
 have hzL := eZero4
 have h0 := (on_all w).alloc (.cells (zB n) 38)
 have s0 := (Str.refl w).alloc (.cells (zB n) 38)
 try simp only [World.size_alloc] at h0
 have H1 := hide h0
 have S1 := hide s0
 clear h0 s0
 have hu8s := Tryd.underlying56
 have hu8 := Tryd.underlying5
 have hui := Tryd.underlying3
 have hi8 : (Tryd.prog.info? 5).map (fun i => (i.zero, i.size, i.bytes)) = some (some (.int .u8 0), 1, 1) := by kernel_rfl
 have Hi8 := hide hi8
 clear hi8
 have hk0 := hide (fun X (h1 : Below w.heap.size w X) => lives08_any X (hT.below h1))
 have HA := hide ha
 have HBb := hide hb
 obtain ⟨aa, ac, rfl, hac, ham, _, _⟩ := ha
 obtain ⟨ba, bc, rfl, hbc, hbm, _, _⟩ := hb
 unfold maxLen at ham hbm
 obtain ⟨m, hm⟩ : ∃ m, m = a ++ b := ⟨_, rfl⟩
 have hml : m.length = a.length + b.length := by rw [hm, List.length_append]
 have HmE := hide hm
 have hTl := Sg.sigT_lt (bl n) m
 have hO32 := Sg.O6_32
 have hsum : Sg.sigT (bl n) m + O6 < 256 ^ 32 := by
  have : 2 * O6 < 256 ^ 32 := by decide +kernel
  omega
 have k1 := fun X => mpublic_any n hn X
 have k2 := fun (h2 : m.length ≤ 200) u X (h3 : IsBytes X u m) => msign_any n hn u m X h3 (by omega)
 have kl := bl_len (pubN n)
 have sl := gC_len (sigRN n m) (Sg.sigT (bl n) m)
 have hok : Sg.verB (bl (pubN n)) (bl (sigRN n m) ++ bl (Sg.sigT (bl n) m)) m = true := Sg.signed_ok (bl n) m
 have hno : Sg.verB (bl (pubN n)) (bl (sigRN n m) ++ bl (Sg.sigT (bl n) m + O6)) m = false := Sg.added_no (bl n) m _ (leN_bl _ hsum)
 have k3 := fun (h2 : m.length ≤ 200) u ls X (h1 : Below w.heap.size w X) (hr2 : IsRows X u ls) (hfl : ls.flatten = m) (hz : ∀ n c, u = .slice Option.none n c → c = 0) (hl9 : ls.length ≤ 1000) => sver_l (bl (pubN n)) (bl (sigRN n m) ++ bl (Sg.sigT (bl n) m)) kl sl u ls X hr2 hz (hT.below h1) hl9 (by rw [hfl]; omega)
 have k4 := fun (h2 : m.length ≤ 200) u X (h1 : Below w.heap.size w X) (hr2 : IsRows X u [m]) (hz : ∀ n c, u = .slice Option.none n c → c = 0) => sver_l (bl (pubN n)) (bl (sigRN n m) ++ bl (Sg.sigT (bl n) m + O6)) kl (gC_len _ _) u [m] X hr2 hz (hT.below h1) (by simp) (by simp; omega)
 rw [show ([m] : List (List UInt8)).flatten = m by simp, hno, show verE false = 9 from rfl] at k4
 have hk3 : Hid (∀ (_ : m.length ≤ 200) u ls X (_ : Below w.heap.size w X) (_ : IsRows X u ls) (_ : ls.flatten = m) (_ : ∀ n c, u = .slice Option.none n c → c = 0) (_ : ls.length ≤ 1000), Calls Tryd.prog 33 #[.agg (zB (pubN n)), .agg (gC (sigRN n m) (Sg.sigT (bl n) m)), u] X fun e w' => e = .returned (.int .i64 0) ∧ Below X.heap.size X w') := hide (fun h2 u ls X h1 hr2 hfl hz hl9 => by
  have h9 := k3 h2 u ls X h1 hr2 hfl hz hl9
  rw [hfl, hok, show verE true = 0 from rfl] at h9
  exact h9)
 change ∀ (_ : m.length ≤ 200) u X (_ : Below w.heap.size w X) (_ : IsRows X u [m]) (_ : ∀ n c, u = .slice Option.none n c → c = 0), Calls Tryd.prog 33 #[.agg (zB (pubN n)), .agg (gC (sigRN n m) (Sg.sigT (bl n) m + O6)), u] X fun e w' => e = .returned (.int .i64 9) ∧ Below X.heap.size X w' at k4
 have hk1 := hide k1
 have hk2 := hide k2
 have hk4 := hide k4
 have hk5 := hide (fun X => rl_any X)
 have hk6 := hide (fun X => bytesL_zB O6 hO32 X)
 have HcO := hide (fun k (hk : k < 32) => zb_get _ k _ (bl_get O6 k hk))
 change Hid (∀ (k : Nat), k < 32 → (zB O6)[k]? = some (vb (UInt8.ofNat (O6 / 256 ^ k % 256)))) at HcO
 have Hbeg : Hid (zb (bl (sigRN n m) ++ sA (Sg.sigT (bl n) m) O6 0) = gC (sigRN n m) (Sg.sigT (bl n) m)) := hide rfl
 have Hend : Hid (zb (bl (sigRN n m) ++ sA (Sg.sigT (bl n) m) O6 32) = gC (sigRN n m) (Sg.sigT (bl n) m + O6)) := hide (by rw [sA_32]; rfl)
 have Hrl := hide (bl_len (sigRN n m))
 have HmL9 := hide hml
 clear k1 k2 k3 k4 hok hno hsum hTl hO32 hn hT kl sl hm hml
 obtain ⟨HsSs, HoSs, HzSs⟩ := b3 (zBInfo n) (zBOne n) (zBSize 0 n)
 obtain ⟨HsPb, HoPb, HzPb⟩ := b3 (zBInfo (pubN n)) (zBOne (pubN n)) (zBSize 0 (pubN n))
 obtain ⟨HsGs, HoGs, HzGs⟩ := b3 (hInfo (sigRN n m) (Sg.sigT (bl n) m)) (gOne (sigRN n m) (Sg.sigT (bl n) m)) (gSize 0 0 (sigRN n m) (Sg.sigT (bl n) m))
 obtain ⟨HsGe, HoGe, HzGe⟩ := b3 (hInfo (sigRN n m) (Sg.sigT (bl n) m + O6)) (gOne (sigRN n m) (Sg.sigT (bl n) m + O6)) (gSize 0 0 (sigRN n m) (Sg.sigT (bl n) m + O6))
 obtain ⟨HsOb, HoOb, HzOb⟩ := b3 (zBInfo O6) (zBOne O6) (zBSize 0 O6)
 obtain ⟨HsO4, HoO4, HzO4⟩ := b3 (eInfo4 O6) (eOne O6) (eSize 0 O6)
 generalize zB n = Ss at *
 generalize zB (pubN n) = Pb at *
 generalize gC (sigRN n m) (Sg.sigT (bl n) m) = Gs at *
 generalize gC (sigRN n m) (Sg.sigT (bl n) m + O6) = Ge at *
 generalize zB O6 = Ob at *
 generalize q4 O6 = O4 at *
 generalize zB 0 = ZB at *
 generalize gC 0 0 = ZH at *
 generalize q4 0 = Z4 at *
 generalize bl (sigRN n m) = rL at *
 generalize Sg.sigT (bl n) m = TT at *
 generalize O6 = OO at *
 go_enter Tryd.func8, Tryd.ntmps8
 refine wp_seq_h fun K1 hK1 => ?_
 go_wp2_with fail
 refine hK1.out _ _ ?_
 clear hK1 K1
 generalize w.alloc (.cells Ss 38) = w1 at *
 go_wp2_with fail
 refine (hk0.out _ (all_below H1.out.right S1.out)).mono ?_
 rintro e w2 ⟨rfl, hB⟩
 obtain ⟨H2, S2⟩ := nx H1.out S1.out hB
 clear hB H1 S1
 have hml := HmL9.out
 have s1 : ((a.length : Int) + (b.length : Int)) = ((m.length : Nat) : Int) := by omega
 have s2 : IntKind.i64.wrap ((a.length : Int) + (b.length : Int)) = ((m.length : Nat) : Int) := by rw [s1]; exact IntWalk.i64_in _ (by omega)
 by_cases hlen : 200 < m.length
 ·have hlI : (200 : Int) < (a.length : Int) + (b.length : Int) := by omega
  clear s1 hml
  go_wp2_with fail
  refine (hk0.out _ (all_below H2.out.right S2.out)).mono ?_
  rintro e w3 ⟨rfl, hB⟩
  obtain ⟨H3, S3⟩ := nx H2.out S2.out hB
  clear hB H2 S2
  have HB := hide (all_below H3.out.right S3.out)
  go_wp2_with fail
  go_ret
  exact ⟨rfl, HB.out⟩
 ·have h200 : m.length ≤ 200 := by omega
  have H200 := hide h200
  have hlI : ¬ (200 : Int) < (a.length : Int) + (b.length : Int) := by omega
  clear s1 hml
  have H0 := hide (own_new 5 1 0 [] H2.out rfl (by decide))
  have HB5 := hide (all_below H0.out.right.right (S2.out.alloc _))
  go_wp2_with (first
   | (at_builtin; refine wpList_append_bytes (F := (blk (w.heap.size) (.cells Ss 38 (0, 0)) * all w)) rfl _ _ 56 rfl 5 hu8s Hi8.out _ [] a rfl H0.out _ rfl (HA.out.below HB5.out) (by simp; omega) ?_; intro v8 w8 ho8 hs8; rw [List.nil_append] at ho8; obtain ⟨oa8, oc8, rfl, _, _, _, _⟩ := own_value ho8; have H8 := hide ho8; have S8 := hide ((S2.out.alloc _).trans hs8); have HB8 := hide (all_below H8.out.right.right S8.out); clear ho8 hs8)
   | (at_builtin; refine wpList_append_bytes (F := (blk (w.heap.size) (.cells Ss 38 (0, 0)) * all w)) rfl _ _ 56 rfl 5 hu8s Hi8.out _ a b rfl H8.out _ rfl (HBb.out.below HB8.out) (by have := HmL9.out; omega) ?_; intro v10 w3 ho hs; rw [← HmE.out] at ho; obtain ⟨oa, oc, rfl, _, _, _, _⟩ := own_value ho; have H3 := hide ho; have S3 := hide (S8.out.trans hs); clear ho hs))
  clear H0 HB5 H8 S8 HB8 H2 S2
  refine Multi2.wp_region_multi [5, 6, 7, 8] [5, 6] [7, 8] [isV (.agg Ss), isV (.agg Pb), isV (.agg Ss), isV (.slice oa m.length oc), isV (.agg Gs), (fun _ _ => True), (fun _ _ => True), (fun _ _ => True), (fun _ _ => True)]
   (by kernel_rfl) (by kernel_rfl) (by kernel_rfl) ⟨rfl, rfl, trivial⟩ (fun f s X => (Multi2.opt (f 5) (Multi2.bv (s 5) (.cells (if f 7 = true then Pb else ZB) 38 (0, 0))) * (Multi2.opt (f 6) (Multi2.bv (s 6) (.cells (if f 8 = true then Gs else ZH) 61 (0, 0))) * ((own 5 1 (.slice oa m.length oc) m.length (vbs m) * (blk (w.heap.size) (.cells Ss 38 (0, 0)) * all w))))).on X ∧ Str w X) (fun _ => ⟨on_emp_mul.2 (on_emp_mul.2 (SP.on.drew H3.out)), Str.drew S3.out⟩) (fun f s a b h st => ⟨h.1.below st, h.2.trans (Str.below st)⟩) (fun f g s t X h h9 hI => by
   have e5 := h 5 rfl
   have e6 := h 6 rfl
   have e7 := h 7 rfl
   have e8 := h 8 rfl
   have i5 := h9 5 rfl
   have i6 := h9 6 rfl
   rw [← e5, ← e6, ← e7, ← e8]
   refine ⟨?_, hI.2⟩
   have := hI.1
   revert this i5 i6
   cases f 5 <;> cases f 6 <;> intro i5 i6 <;> simp_all [Multi2.opt]) ?keep ?todo ?r126 (by decide) (by decide)
  case keep => exact ⟨Keep.isV _, Keep.isV _, Keep.isV _, Keep.isV _, Keep.isV _, fun _ _ _ h _ => h, fun _ _ _ h _ => h, fun _ _ _ h _ => h, fun _ _ _ h _ => h, trivial⟩
  case todo =>
   refine ⟨?_, ?_, ?_, ?_, ?_, ?_, ?_, ?_, ?_, trivial⟩
   ·intro f hf0 hw hn ev X hT hb hk hf
    have e0 : ev (.tmp 3) = .pointer (some ⟨w.heap.size, 0, .none⟩) := by have h9 := hk.1; rw [if_pos (by kernel_rfl)] at h9; exact h9
    exact OpOk.load_row _ _ rfl _ e0 _ Ss (0, 0) _ (on_blk_mul hT.1.right.right.right) hub rfl HsSs.out (Multi2.ended_stay rfl rfl (Stay.refl _))
   ·intro f hf0 hw hn ev X hT hb hk hf
    have e0 : ev (.tmp 30) = _ := hf.1
    refine OpOk.enters (f := 31) (args := #[.agg Ss]) (W' := X) (by simp [execOp, resolve, invoke, e0, hb.1, hb.2.1, go_sem]) ((hk1.out X).mono ?_)
    rintro e _ ⟨rfl, hB⟩
    exact ⟨_, rfl, Multi2.ended_stay rfl rfl hB⟩
   ·intro f hf0 hw hn ev X hT hb hk hf
    have e0 : ev (.tmp 3) = .pointer (some ⟨w.heap.size, 0, .none⟩) := by have h9 := hk.1; rw [if_pos (by kernel_rfl)] at h9; exact h9
    exact OpOk.load_row _ _ rfl _ e0 _ Ss (0, 0) _ (on_blk_mul hT.1.right.right.right) hub rfl HsSs.out (Multi2.ended_stay rfl rfl (Stay.refl _))
   ·intro f hf0 hw hn ev X hT hb hk hf
    have e0 : ev (.tmp 7) = .slice oa m.length oc := by have h9 := hk.1; rw [if_pos (by kernel_rfl)] at h9; exact h9
    exact OpOk.move rfl e0 (Multi2.ended_stay rfl rfl (Stay.refl _))
   ·intro f hf0 hw hn ev X hT hb hk hf
    have e0 : ev (.tmp 32) = _ := hf.1
    have e1 : ev (.tmp 33) = _ := hf.2.1
    refine OpOk.enters (f := 32) (args := #[.agg Ss, .slice oa m.length oc]) (W' := X) (by simp [execOp, resolve, invoke, e0, e1, hb.1, hb.2.1, go_sem]) ((hk2.out H200.out _ X (own_bytes hT.1.right.right)).mono ?_)
    rintro e _ ⟨rfl, hB⟩
    exact ⟨_, rfl, Multi2.ended_stay rfl rfl hB⟩
   ·intro f hf0 hw hn ev X hT hb hk hf
    have fs : f 7 = false := hn 7 (by kernel_rfl)
    have hX := hT.1
    rw [hf0, Multi2.opt_false] at hX
    have hX2 := (on_emp_mul.1 hX).alloc (.cells ZB 38 (0, 0))
    exact OpOk.run (v := .pointer (some ⟨X.heap.size, 0, .none⟩)) (W' := X.alloc (.cells ZB 38)) (by simp [execOp, hzB, go_sem]) (Multi2.ended_turn rfl trivial ⟨by
     show (Multi2.opt true (Multi2.bv (.pointer (some ⟨X.heap.size, 0, .none⟩)) (.cells (if f 7 = true then Pb else ZB) 38 (0, 0))) * _).on _
     rw [fs]
     exact Multi2.blk_bv hX2, hT.2.alloc _⟩ (Multi2.free_keep (by
     intro P hP
     simp only [List.mem_cons, List.not_mem_nil, or_false] at hP
     rcases hP with rfl | rfl | rfl | rfl | rfl | rfl | rfl | rfl | rfl <;> exact fun _ _ _ h => h) _ _))
   ·intro f hf0 hw hn ev X hT hb hk hf
    have fs : f 8 = false := hn 8 (by kernel_rfl)
    have hX := hT.1
    rw [hf0, Multi2.opt_false, star_2_1] at hX
    have hX2 := (on_emp_mul.1 hX).alloc (.cells ZH 61 (0, 0))
    exact OpOk.run (v := .pointer (some ⟨X.heap.size, 0, .none⟩)) (W' := X.alloc (.cells ZH 61)) (by simp [execOp, hzH, go_sem]) (Multi2.ended_turn rfl trivial ⟨by
     show (_ * (Multi2.opt true (Multi2.bv (.pointer (some ⟨X.heap.size, 0, .none⟩)) (.cells (if f 8 = true then Gs else ZH) 61 (0, 0))) * _)).on _
     rw [fs, star_2_1]
     exact Multi2.blk_bv hX2, hT.2.alloc _⟩ (Multi2.free_keep (by
     intro P hP
     simp only [List.mem_cons, List.not_mem_nil, or_false] at hP
     rcases hP with rfl | rfl | rfl | rfl | rfl | rfl | rfl | rfl | rfl <;> exact fun _ _ _ h => h) _ _))
   ·intro f hf0 hw hn ev X hT hb hk hf
    have e0 := hf.1
    have e1 : ev (.tmp 31) = _ := hf.2.1
    have fa : f 5 = true := hw 5 (by kernel_rfl)
    have hX := hT.1
    rw [fa, hf0] at hX
    have hX' : (Multi2.bv (ev (.tmp 8)) (.cells ZB 38 (0, 0)) * _).on X := hX
    obtain ⟨g, hg, hX2⟩ := Multi2.bv_blk hX'
    exact OpOk.store_agg _ _ _ rfl g Pb hg e1 _ ZB hX2 HsPb.out HzPb.out HoPb.out (fun h3 => Multi2.ended_turn rfl trivial ⟨by
     show (Multi2.opt (f 5) (Multi2.bv (ev (.tmp 8)) (.cells Pb 38 (0, 0))) * _).on _
     rw [fa, hg]
     exact Multi2.blk_bv h3, hT.2.setRow _ _⟩ (Multi2.free_keep (by
     intro P hP
     simp only [List.mem_cons, List.not_mem_nil, or_false] at hP
     rcases hP with rfl | rfl | rfl | rfl | rfl | rfl | rfl | rfl | rfl <;> exact fun _ _ _ h => h) _ _))
   ·intro f hf0 hw hn ev X hT hb hk hf
    have e0 := hf.1
    have e1 : ev (.tmp 34) = _ := hf.2.1
    have fa : f 6 = true := hw 6 (by kernel_rfl)
    have hX := hT.1
    rw [fa, hf0, star_2_1] at hX
    have hX' : (Multi2.bv (ev (.tmp 9)) (.cells ZH 61 (0, 0)) * _).on X := hX
    obtain ⟨g, hg, hX2⟩ := Multi2.bv_blk hX'
    exact OpOk.store_agg _ _ _ rfl g Gs hg e1 _ ZH hX2 HsGs.out HzGs.out HoGs.out (fun h3 => Multi2.ended_turn rfl trivial ⟨by
     show (_ * (Multi2.opt (f 6) (Multi2.bv (ev (.tmp 9)) (.cells Gs 61 (0, 0))) * _)).on _
     rw [fa, hg, star_2_1]
     exact Multi2.blk_bv h3, hT.2.setRow _ _⟩ (Multi2.free_keep (by
     intro P hP
     simp only [List.mem_cons, List.not_mem_nil, or_false] at hP
     rcases hP with rfl | rfl | rfl | rfl | rfl | rfl | rfl | rfl | rfl <;> exact fun _ _ _ h => h) _ _))
  intro X s hI
  rintro _ ⟨-, -⟩ _ ⟨-, -⟩ _ ⟨-, -⟩ _ ⟨-, -⟩ _ ⟨-, -⟩ v5 ⟨k5, -⟩ v6 ⟨k6, -⟩ _ - _ -
  obtain ⟨hX, hSX⟩ := hI
  have hX0 : ((Multi2.bv (s 5) (.cells Pb 38 (0, 0))) * ((Multi2.bv (s 6) (.cells Gs 61 (0, 0))) * (own 5 1 (.slice oa m.length oc) m.length (vbs m) * (blk (w.heap.size) (.cells Ss 38 (0, 0)) * all w)))).on X := hX
  clear hX
  have h9 := k5 rfl
  rw [← h9] at hX0
  clear h9 k5
  have h9 := k6 rfl
  rw [← h9] at hX0
  clear h9 k6
  obtain ⟨g8, g9, rfl, rfl, hY⟩ := bv_blk2 hX0
  have H4 := hide hY
  have S4 := hide hSX
  clear hX0 hY hSX H3 S3
  go_wp2
  refine Rest.done ?_
  try clear s
  generalize X = w4 at *
  have gK := on_blk_mul H4.out
  have gG := on_blk_mul H4.out.right
  go_wp2_with (first
   | (refine wL gK hub HsPb ?_)
   | (refine load_row_w rfl _ _ rfl (g8) rfl _ Pb _ _ gK hub rfl HsPb ?_)
   | (refine wL gG huh HsGs ?_)
   | (refine load_row_w rfl _ _ rfl (g9) rfl _ Gs _ _ gG huh rfl HsGs ?_))
  clear gK gG
  have hr := IsRows.new2 (w := w4) (HA.out.below (all_below H4.out.right.right.right.right S4.out)) (HBb.out.below (all_below H4.out.right.right.right.right S4.out)) 56
  have H5 := hide (SP.on.alloc' H4.out (.cells #[.slice aa a.length ac, .slice ba b.length bc] 56))
  have S5 := hide (S4.out.alloc (.cells #[.slice aa a.length ac, .slice ba b.length bc] 56))
  generalize w4.alloc (.cells #[.slice aa a.length ac, .slice ba b.length bc] 56) = w5 at *
  clear H4 S4
  have hz : ∀ n c, (Value.slice (some ⟨w4.heap.size, 0, .none⟩) 2 2) = .slice Option.none n c → c = 0 := fun n c e => by injection e with e1; cases e1
  refine (hk3.out H200.out _ _ _ (all_below H5.out.right.right.right.right S5.out) hr (by rw [HmE.out]; simp) hz (by simp)).mono ?_
  rintro e w6 ⟨rfl, hB⟩
  obtain ⟨H6, S6⟩ := nx H5.out S5.out hB
  clear hB H5 S5
  clear hr hz
  have gK := on_blk_mul H6.out
  have gG := on_blk_mul H6.out.right
  go_wp2_with (first
   | (refine wL gK hub HsPb ?_)
   | (refine load_row_w rfl _ _ rfl (g8) rfl _ Pb _ _ gK hub rfl HsPb ?_)
   | (refine wL gG huh HsGs ?_)
   | (refine load_row_w rfl _ _ rfl (g9) rfl _ Gs _ _ gG huh rfl HsGs ?_))
  clear gK gG
  have hr := rows_three (w := w6) (IsBytes.nil _) (own_bytes (H6.out.right.right)) (IsBytes.nil _) 56
  have H7 := hide (SP.on.alloc' H6.out (.cells #[.slice Option.none 0 0, .slice oa m.length oc, .slice Option.none 0 0] 56))
  have S7 := hide (S6.out.alloc (.cells #[.slice Option.none 0 0, .slice oa m.length oc, .slice Option.none 0 0] 56))
  generalize w6.alloc (.cells #[.slice Option.none 0 0, .slice oa m.length oc, .slice Option.none 0 0] 56) = w7 at *
  clear H6 S6
  have hz : ∀ n c, (Value.slice (some ⟨w6.heap.size, 0, .none⟩) 3 3) = .slice Option.none n c → c = 0 := fun n c e => by injection e with e1; cases e1
  refine (hk3.out H200.out _ _ _ (all_below H7.out.right.right.right.right S7.out) hr (by simp) hz (by simp)).mono ?_
  rintro e w8 ⟨rfl, hB⟩
  obtain ⟨H8, S8⟩ := nx H7.out S7.out hB
  clear hB H7 S7
  clear hr hz
  go_wp2_with fail
  refine (hk5.out _).mono ?_
  rintro e w9 ⟨rfl, hB⟩
  obtain ⟨H9, S9⟩ := nx H8.out S8.out hB
  clear hB H8 S8
  go_wp2_with fail
  refine (hk6.out _).mono ?_
  rintro e w10 ⟨rfl, hB⟩
  obtain ⟨H10, S10⟩ := nx H9.out S9.out hB
  clear hB H9 S9
  obtain ⟨gN, gM, H11, S11⟩ := newV H10.out S10.out ZB Ob 38
  go_wp2_with (first
   | (refine wS gN HsOb HzOb HoOb ?_))
  generalize (w10.alloc (.cells ZB 38)).setRow w10.heap.size Ob = w11 at *
  clear gN gM H10 S10
  generalize w10.heap.size = p10 at *
  have h9 := H11.out
  rw [show (blk (p10) (.cells Ob 38 (0, 0)) * (blk (g8) (.cells Pb 38 (0, 0)) * (blk (g9) (.cells Gs 61 (0, 0)) * (own 5 1 (.slice oa m.length oc) m.length (vbs m) * (blk (w.heap.size) (.cells Ss 38 (0, 0)) * all w))))) = (blk (g9) (.cells Gs 61 (0, 0)) * (blk (p10) (.cells Ob 38 (0, 0)) * (blk (g8) (.cells Pb 38 (0, 0)) * (own 5 1 (.slice oa m.length oc) m.length (vbs m) * (blk (w.heap.size) (.cells Ss 38 (0, 0)) * all w))))) by ac_rfl] at h9
  have H30 := hide h9
  have S30 := hide S11.out
  clear h9 H11 S11
  go_loopw [11, 52] (fun c i wr => ∃ k : Nat, k ≤ 32 ∧ i = .int .i64 k ∧ c = .int .i64 ((cyB TT OO k : Nat) : Int) ∧ (blk g9 (.cells (zb (rL ++ sA TT OO k)) 61 (0, 0)) * (blk (p10) (.cells Ob 38 (0, 0)) * (blk (g8) (.cells Pb 38 (0, 0)) * (own 5 1 (.slice oa m.length oc) m.length (vbs m) * (blk (w.heap.size) (.cells Ss 38 (0, 0)) * all w))))).on wr ∧ Str w wr) (fun _ i _ => 32 - (intOf i).toNat)
  case atStart => exact ⟨0, by omega, rfl, by rw [cyB_0]; rfl, by rw [Hbeg.out]; exact H30.out, S30.out⟩
  case round =>
   obtain ⟨k, hk, rfl, rfl, hX, hS2⟩ := hrel
   have HXk := hide hX
   have HSk := hide hS2
   clear hX hS2 H30 S30
   by_cases hlt : k < 32
   ·have hx : (rL ++ sA TT OO k)[32 + k]? = some (UInt8.ofNat (TT / 256 ^ k % 256)) := by rw [List.getElem?_append_right (by rw [Hrl.out]; omega), Hrl.out, Nat.add_sub_cancel_left]; exact sA_get TT OO k hlt
    have hset : (rL ++ sA TT OO k).set (32 + k) (UInt8.ofNat ((TT + OO) / 256 ^ k % 256)) = rL ++ sA TT OO (k + 1) := by rw [List.set_append_right _ _ (by rw [Hrl.out]; omega), Hrl.out, Nat.add_sub_cancel_left, sA_set TT OO k hlt]
    have ho := HcO.out k hlt
    have hab := add_byte TT OO k
    have hst := cyB_step TT OO k
    have hc1 := cyB_le TT OO k
    have hcX : ∀ X, (blk (p10) (.cells Ob 38 (0, 0)) * (blk (g8) (.cells Pb 38 (0, 0)) * (own 5 1 (.slice oa m.length oc) m.length (vbs m) * (blk (w.heap.size) (.cells Ss 38 (0, 0)) * all w)))).on X → True := fun _ _ => trivial
    obtain ⟨x, hx2⟩ : ∃ x : UInt8, x = UInt8.ofNat (TT / 256 ^ k % 256) := ⟨_, rfl⟩
    obtain ⟨z, hz2⟩ : ∃ z : UInt8, z = UInt8.ofNat (OO / 256 ^ k % 256) := ⟨_, rfl⟩
    obtain ⟨y, hy2⟩ : ∃ y : UInt8, y = UInt8.ofNat ((TT + OO) / 256 ^ k % 256) := ⟨_, rfl⟩
    have hxn : x.toNat = TT / 256 ^ k % 256 := by rw [hx2, UInt8.toNat_ofNat']; omega
    have hzn : z.toNat = OO / 256 ^ k % 256 := by rw [hz2, UInt8.toNat_ofNat']; omega
    have hyn : y.toNat = (TT + OO) / 256 ^ k % 256 := by rw [hy2, UInt8.toNat_ofNat']; omega
    rw [← hx2] at hx
    rw [← hz2] at ho
    rw [← hy2] at hset
    rw [← hxn, ← hzn] at hab hst
    rw [← hyn] at hab
    have hx8 := UInt8.toNat_lt x
    have hz8 := UInt8.toNat_lt z
    have hcs := (cell_of_row wr g9 (32 + k) _ _ _ (on_blk_mul HXk.out)).trans (zb_get _ _ _ hx)
    have Hho := hide ho
    have Hhx := hide hx
    have Hset := hide hset
    clear hx2 hz2 hy2 hxn hzn hyn hx ho hset hcX
    have e1 : ((y.toNat : Nat) : Int) = ((x.toNat + z.toNat + cyB TT OO k : Nat) : Int) % 256 := by omega
    have e2 : ((cyB TT OO (k + 1) : Nat) : Int) = ((x.toNat + z.toNat + cyB TT OO k : Nat) : Int) / 256 := by omega
    generalize hc9 : cyB TT OO (k + 1) = c9 at *
    have Hc9 := hide hc9
    clear hc9
    generalize cyB TT OO k = c at *
    have sn : ((x.toNat : Int) + (z.toNat : Int)) + (c : Int) = ((x.toNat + z.toNat + c : Nat) : Int) := by omega
    have s3 : IntKind.i64.wrap ((x.toNat : Int) + (z.toNat : Int)) = ((x.toNat + z.toNat : Nat) : Int) := by rw [IntWalk.i64_in _ (by omega)]; omega
    have s4 : IntKind.i64.wrap (((x.toNat + z.toNat : Nat) : Int) + (c : Int)) = ((x.toNat + z.toNat + c : Nat) : Int) := by rw [IntWalk.i64_in _ (by omega)]; omega
    have s5 : IntKind.i64.wrap (x.toNat : Int) = (x.toNat : Int) := IntWalk.i64_in _ (by omega)
    have s6 : IntKind.i64.wrap (z.toNat : Int) = (z.toNat : Int) := IntWalk.i64_in _ (by omega)
    have s7 : IntKind.i64.wrap (32 + (k : Int)) = ((32 + k : Nat) : Int) := by rw [IntWalk.i64_in _ (by omega)]; omega
    have s8 : (32 + (k : Int)) = ((32 + k : Nat) : Int) := by omega
    have hk32 : (k : Int) < 32 := by omega
    have hk64 : ((32 + k : Nat) : Int) < 64 := by omega
    have S3 := hide s3
    have S4 := hide s4
    clear sn s3 s4
    generalize hxz : x.toNat + z.toNat = xz at *
    generalize hnn : xz + c = nn at *
    have hnn2 : nn < 1000 := by omega
    obtain ⟨q, hq⟩ : ∃ q, q = 32 + k := ⟨_, rfl⟩
    have HQ := hide hq
    rw [← hq] at s7 s8 hk64 hcs
    have s11 : IntKind.i64.wrap ((q : Nat) : Int) = ((q : Nat) : Int) := IntWalk.i64_in _ (by omega)
    have E1 := hide e1
    have E2 := hide e2
    clear hxz hnn hq hab hst e1 e2
    go_wp2_with fail
    have H31 := hide HXk.out
    have S31 := hide HSk.out
    clear HXk HSk
    rw [← HQ.out] at Hhx Hset
    have H31b := H31
    generalize wr = w31 at *
    refine wp_tail 12 [isV (.int .i64 (k : Int)), isV (.int .i64 ((q : Nat) : Int)), isV (.pointer (some ⟨g9, q, .none⟩)), isV (vb x), isV (.int .i64 (x.toNat : Int)), isV (.int .i64 (k : Int)), isV (.pointer (some ⟨p10, k, .none⟩)), isV (vb z), isV (.int .i64 (z.toNat : Int)), isV (.int .i64 ((xz : Nat) : Int)), isV (.int .i64 (c : Int)), isV (.int .i64 ((nn : Nat) : Int))] ?keep ?todo ?r127
    case keep => repeat (first | exact trivial | refine ⟨Keep.isV _, ?_⟩)
    case todo =>
     refine ⟨?_, ?_, ?_, ?_, ?_, ?_, ?_, ?_, ?_, ?_, ?_, ?_, trivial⟩
     ·exact fun _ _ _ _ hk hf => OpOk.m rfl hk.1
     ·intro ev X hT hb hk hf
      have e0 : ev (.tmp 55) = _ := hf.1
      exact OpOk.r (by simp [execOp, e0, hb.1, s7, s8, s11, go_sem])
     ·intro ev X hT hb hk hf
      have e0 : ev (.tmp 9) = .pointer (some ⟨g9, 0, .none⟩) := hk.1
      have e1 : ev (.tmp 56) = _ := hf.1
      exact OpOk.r (by simp [execOp, e0, e1, hb.1, huh, hk64, go_sem]; try (intro h; omega))
     ·intro ev X hT hb hk hf
      have e0 : ev (.tmp 57) = _ := hf.1
      have cW := (cell_of_row X g9 q _ _ _ (on_blk_mul (H31.out.below hT))).trans (zb_get _ _ _ Hhx.out)
      exact OpOk.r (by simp [execOp, e0, cW, go_sem])
     ·intro ev X hT hb hk hf
      have e0 : ev (.tmp 58) = _ := hf.1
      exact OpOk.r (by simp [execOp, e0, hb.1, hui, hu8, s5, go_sem])
     ·exact fun _ _ _ _ hk hf => OpOk.m rfl hk.1
     ·intro ev X hT hb hk hf
      have e0 : ev (.tmp 10) = .pointer (some ⟨p10, 0, .none⟩) := hk.1
      have e1 : ev (.tmp 60) = _ := hf.1
      exact OpOk.r (by simp [execOp, e0, e1, hb.1, hub, hk32, go_sem]; try (intro h; omega))
     ·intro ev X hT hb hk hf
      have e0 : ev (.tmp 61) = _ := hf.1
      have cW := (cell_of_row X p10 k _ _ _ (on_blk_mul ((H31.out.below hT).right))).trans Hho.out
      exact OpOk.r (by simp [execOp, e0, cW, go_sem])
     ·intro ev X hT hb hk hf
      have e0 : ev (.tmp 62) = _ := hf.1
      exact OpOk.r (by simp [execOp, e0, hb.1, hui, hu8, s6, go_sem])
     ·intro ev X hT hb hk hf
      have e0 : ev (.tmp 59) = _ := hf.1
      have e1 : ev (.tmp 63) = _ := hf.2.1
      exact OpOk.r (by have h9 := S3.out; simp [execOp, e0, e1, h9, go_sem])
     ·exact fun _ _ _ _ hk hf => OpOk.m rfl hk.1
     ·intro ev X hT hb hk hf
      have e0 : ev (.tmp 64) = _ := hf.1
      have e1 : ev (.tmp 65) = _ := hf.2.1
      exact OpOk.r (by have h9 := S4.out; simp [execOp, e0, e1, h9, go_sem])
    intro w32 hX
    rintro _ rfl _ rfl _ rfl _ rfl _ rfl _ rfl _ rfl _ rfl _ rfl _ rfl _ rfl _ rfl
    obtain ⟨H32, S32⟩ := nx H31.out S31.out hX
    clear hX H31 S31
    go_wp2
    refine Rest.done ?_
    have hcell := (cell_of_row w32 g9 q _ _ _ (on_blk_mul H32.out)).trans (zb_get _ _ _ Hhx.out)
    have hfz := frozen_of_row w32 g9 q _ _ (on_blk_mul H32.out)
    have hst := SP.on.setCell (i := q) H32.out (vb y)
    rw [zb_set, Hset.out] at hst
    have hst2 := S32.out.setCell ⟨g9, q, .none⟩ (vb y)
    rw [show vb y = .int .u8 (((nn : Nat) : Int) % 256) from congrArg (Value.int .u8) E1.out] at hst hst2
    have HN := hide hst
    have SN := hide hst2
    clear hst2
    clear hst
    go_wp2_with fail
    exact ⟨⟨k + 1, by omega, by simp, by rw [Hc9.out]; exact congrArg (Value.int .i64) E2.out.symm, HN.out, SN.out⟩, by simp [intOf]; omega⟩
   ·obtain rfl : k = 32 := by omega
    rw [Hend.out] at HXk
    have H40 := hide HXk.out
    have S40 := hide HSk.out
    clear HXk HSk
    generalize wr = w40 at *
    have gK := on_blk_mul H40.out.right.right
    have gG := on_blk_mul H40.out
    go_wp2_with (first
     | (refine wL gK hub HsPb ?_)
     | (refine load_row_w rfl _ _ rfl (g8) rfl _ Pb _ _ gK hub rfl HsPb ?_)
     | (refine wL gG huh HsGe ?_)
     | (refine load_row_w rfl _ _ rfl (g9) rfl _ Ge _ _ gG huh rfl HsGe ?_))
    clear gK gG
    have hr := IsRows.one (w := w40) (own_bytes (H40.out.right.right.right)) 56
    have H41 := hide (SP.on.alloc' H40.out (.cells #[.slice oa m.length oc] 56))
    have S41 := hide (S40.out.alloc (.cells #[.slice oa m.length oc] 56))
    generalize w40.alloc (.cells #[.slice oa m.length oc] 56) = w41 at *
    clear H40 S40
    have hz : ∀ n c, (Value.slice (some ⟨w40.heap.size, 0, .none⟩) 1 1) = .slice Option.none n c → c = 0 := fun n c e => by injection e with e1; cases e1
    refine (hk4.out H200.out _ _ (all_below H41.out.right.right.right.right.right S41.out) hr hz).mono ?_
    rintro e w42 ⟨rfl, hB⟩
    obtain ⟨H42, S42⟩ := nx H41.out S41.out hB
    clear hB H41 S41
    clear hr hz
    have HB := hide (all_below H42.out.right.right.right.right.right S42.out)
    go_wp2_with fail
    go_ret
    exact ⟨rfl, HB.out⟩
end Cv
open Go.ChangeShapes Go.WideShapes Go.ChangeAt Go.RowKit
theorem walk_SignParts (w : World) (hL : laidMetH Tryd.prog Rows.signPartsRow.laid w) (sec : List UInt8) (hk : sec.length = 32) (va : Value) (a : List UInt8) (ha : IsBytes w va a) (la : a.length ≤ 140737488351232) (vb0 : Value) (b : List UInt8) (hb : IsBytes w vb0 b) (lb : b.length ≤ 140737488351232) :
  Calls Tryd.prog 8 #[.agg (zb sec), va, vb0] w fun e w' => e = .returned (.bool true) ∧ Below w.heap.size w w' := by
 have h := Cv.sp_nat w (Cv.tab_sign hL) (leN sec) (Cv.leN_lt8 sec hk) va a ha la vb0 b hb lb
 rwa [← Cv.zb_of sec hk] at h
namespace lawSignParts
theorem own : ownKnob Tryd.prog.godebug = Option.none := by kernel_rfl
theorem laidOut : laidOutB Tryd.prog = true := by kernel_rfl
theorem contract (H : Type) (enc : TypeId × Value → H) (W : World) (base : Nat) (args : Array Value) (ds gs : List (DataW H)) (before : List MemPlace)
  (hval0 : ∀ (j : Nat) t v, Tryd.f8.params[j]? = some t → args[j]? = some v → Value.okWide Tryd.prog W .any base t v)
  (hW : DataW.Whole enc Tryd.prog Tryd.f8.params.toList Rows.signPartsSpec.vars false W args.toList ds gs before) (hsz : (DataW.weightsEach Tryd.prog (Tryd.f8.params.toList ++ (OpenSpec.ofChange Rows.signPartsSpec).bare.plain.varTypes Tryd.prog) (ds ++ gs)).all (· ≤ reachBytes) = true) (hL : laidMetH Tryd.prog Rows.signPartsRow.laid W) :
  Calls Tryd.prog 8 args W fun e W' => ∃ v, e = .returned v ∧ Rows.signPartsSpec.post enc Tryd.prog Tryd.f8 false true false false W args v W' := by
 have hval : ∀ (j : Nat) t v, Tryd.f8.params[j]? = some t → args[j]? = some v → Value.okWide Tryd.prog W .any base t v := hval0
 have hW' := hW
 obtain ⟨p, q, hA0, hV, rfl, hfz, hnd⟩ := hW
 have hA : DataW.TrodAll enc Tryd.prog W 0 (fun _ => true) true Tryd.f8.params.toList args.toList ds p := hA0
 rw [Tryd.params8] at hA hval
 obtain ⟨v0, vs0, d0, ds0, p0, q0, hargs, rfl, rfl, h0, r0⟩ := trodAll_cons hA
 obtain ⟨v1, vs1, d1, ds1, p1, q1, rfl, rfl, rfl, h1, r1⟩ := trodAll_cons r0
 obtain ⟨v2, vs2, d2, ds2, p2, q2, rfl, rfl, rfl, h2, r2⟩ := trodAll_cons r1
 obtain ⟨rfl, rfl, rfl⟩ := trodAll_nil r2
 obtain rfl : args = #[v0, v1, v2] := by cases args; simp_all
 obtain ⟨rfl, rfl⟩ := trodVars_none hV
 have k0 := h0
 have lt0 : ∀ x ∈ p0, x.block < W.heap.size := by obtain ⟨m, hm⟩ := k0; exact DataW.trod_lt m _ _ _ hm
 obtain ⟨s0, rfl, b0⟩ := open_b32 (hval 0 38 v0 rfl rfl) h0
 have k1 := h1
 have lt1 : ∀ x ∈ p1, x.block < W.heap.size := by obtain ⟨m, hm⟩ := k1; exact DataW.trod_lt m _ _ _ hm
 obtain ⟨l1, b1, n1⟩ := open_bytes Tryd.underlying56 Tryd.underlying5 (by kernel_rfl) (hval 1 56 v1 rfl rfl) h1
 have m1 := n1.reach hsz (j := 1) rfl rfl Tryd.underlying56 (show 1 ≤ Tryd.prog.bytesOf 5 from by rw [show Tryd.prog.bytesOf 5 = 1 by kernel_rfl]; decide)
 have k2 := h2
 have lt2 : ∀ x ∈ p2, x.block < W.heap.size := by obtain ⟨m, hm⟩ := k2; exact DataW.trod_lt m _ _ _ hm
 obtain ⟨l2, b2, n2⟩ := open_bytes Tryd.underlying56 Tryd.underlying5 (by kernel_rfl) (hval 2 56 v2 rfl rfl) h2
 have m2 := n2.reach hsz (j := 2) rfl rfl Tryd.underlying56 (show 1 ≤ Tryd.prog.bytesOf 5 from by rw [show Tryd.prog.bytesOf 5 = 1 by kernel_rfl]; decide)
 clear hA0 hval0 hsz
 refine (walk_SignParts W hL s0 b0 v1 l1 b1 m1 v2 l2 b2 m2).mono fun e W' ⟨he, bel⟩ => ?_
 subst he
 exact ⟨_, rfl, _, _, _, [], _, [], hW', trodAll_mk1 (shut_bool Tryd.underlying4 _), (trodAll_cons_mk (Below.trod laidOut (by kernel_rfl) (of_decide_eq_true (by kernel_rfl)) k0 bel lt0) (trodAll_cons_mk (Below.trod laidOut (by kernel_rfl) (of_decide_eq_true (by kernel_rfl)) k1 bel lt1) (trodAll_cons_mk (Below.trod laidOut (by kernel_rfl) (of_decide_eq_true (by kernel_rfl)) k2 bel lt2) trodAll_mk0))), rfl, bel.frame _, fun h => by cases h⟩
def litCells (d : DataW Unit) : Array Value := match d with
 | .agg l => (l.filterMap fun x => match x with | .lit (.int k n) => some (Value.int k n) | _ => Option.none).toArray
 | _ => #[]
noncomputable def laidWorld (os : Os) : World :=
 { World.holding Tryd.prog os ⟨#[], #[], []⟩ with heap := ((((((((((((World.holding Tryd.prog os ⟨#[], #[], []⟩).heap.modify 5 fun
   | .cells _ t frozen => .cells (litCells Rows.laid_bosun_field_modulus) t frozen
   | o => o).modify 6 fun
   | .cells _ t frozen => .cells (litCells Rows.laid_bosun_field_lessTwo) t frozen
   | o => o).modify 7 fun
   | .cells _ t frozen => .cells (litCells Rows.laid_bosun_field_eighth) t frozen
   | o => o).modify 8 fun
   | .cells _ t frozen => .cells (litCells Rows.laid_bosun_field_rootOfMinusOne) t frozen
   | o => o).modify 9 fun
   | .cells _ t frozen => .cells (litCells Rows.laid_bosun_longsum_first) t frozen
   | o => o).modify 10 fun
   | .cells _ t frozen => .cells (litCells Rows.laid_bosun_longsum_rounds) t frozen
   | o => o).modify 2 fun
   | .cells _ t frozen => .cells (litCells Rows.laid_bosun_scalar_order) t frozen
   | o => o).modify 4 fun
   | .cells _ t frozen => .cells (litCells Rows.laid_bosun_curve_d) t frozen
   | o => o).modify 3 fun
   | .cells _ t frozen => .cells (litCells Rows.laid_bosun_curve_dTwice) t frozen
   | o => o).modify 0 fun
   | .cells _ t frozen => .cells (litCells Rows.laid_bosun_curve_baseX) t frozen
   | o => o).modify 1 fun
   | .cells _ t frozen => .cells (litCells Rows.laid_bosun_curve_baseY) t frozen
   | o => o) }
theorem laid_met (os : Os) : laidMet Tryd.prog Rows.signPartsRow.laid ((laidWorld os).forCall (fun _ _ => 0) ⟨#[], #[.agg #[.int .u8 0, .int .u8 0, .int .u8 0, .int .u8 0, .int .u8 0, .int .u8 0, .int .u8 0, .int .u8 0, .int .u8 0, .int .u8 0, .int .u8 0, .int .u8 0, .int .u8 0, .int .u8 0, .int .u8 0, .int .u8 0, .int .u8 0, .int .u8 0, .int .u8 0, .int .u8 0, .int .u8 0, .int .u8 0, .int .u8 0, .int .u8 0, .int .u8 0, .int .u8 0, .int .u8 0, .int .u8 0, .int .u8 0, .int .u8 0, .int .u8 0, .int .u8 0], .slice Option.none 0 0, .slice Option.none 0 0], []⟩).memory :=
 laidMet_of_run' 8 (by kernel_rfl) (by kernel_rfl)
theorem reads (os : Os) {H : Type} (enc : TypeId × Value → H) : ∃ places, DataW.whole enc Tryd.prog ((laidWorld os).forCall (fun _ _ => 0) ⟨#[], #[.agg #[.int .u8 0, .int .u8 0, .int .u8 0, .int .u8 0, .int .u8 0, .int .u8 0, .int .u8 0, .int .u8 0, .int .u8 0, .int .u8 0, .int .u8 0, .int .u8 0, .int .u8 0, .int .u8 0, .int .u8 0, .int .u8 0, .int .u8 0, .int .u8 0, .int .u8 0, .int .u8 0, .int .u8 0, .int .u8 0, .int .u8 0, .int .u8 0, .int .u8 0, .int .u8 0, .int .u8 0, .int .u8 0, .int .u8 0, .int .u8 0, .int .u8 0, .int .u8 0], .slice Option.none 0 0, .slice Option.none 0 0], []⟩).memory Tryd.f8.params.toList Rows.signPartsSpec.vars false (#[.agg #[.int .u8 0, .int .u8 0, .int .u8 0, .int .u8 0, .int .u8 0, .int .u8 0, .int .u8 0, .int .u8 0, .int .u8 0, .int .u8 0, .int .u8 0, .int .u8 0, .int .u8 0, .int .u8 0, .int .u8 0, .int .u8 0, .int .u8 0, .int .u8 0, .int .u8 0, .int .u8 0, .int .u8 0, .int .u8 0, .int .u8 0, .int .u8 0, .int .u8 0, .int .u8 0, .int .u8 0, .int .u8 0, .int .u8 0, .int .u8 0, .int .u8 0, .int .u8 0], .slice Option.none 0 0, .slice Option.none 0 0] : Array Value).toList 8 = some ([.agg (List.replicate 32 (.lit (.int .u8 0))), .nil, .nil], [], places) :=
 ⟨[], by kernel_rfl⟩
theorem lifted (os : Os) (started : os.Started) (H : Type) (enc : TypeId × Value → H) (F : Stop.Interp) :
  ReturnsInHanded {} Tryd.checked os 8 .any ((OpenSpec.ofChange Rows.signPartsSpec).preRow enc Tryd.prog Tryd.f8 Rows.signPartsRow.domain false Rows.signPartsRow.laid) (((OpenSpec.ofChange Rows.signPartsSpec).at F).post enc Tryd.prog Tryd.f8 false true false false) := by
 obtain ⟨places, hx⟩ := reads os enc
 refine returnsInHanded_of_row (C := Tryd.checked) (s := OpenSpec.ofChange Rows.signPartsSpec) own started (by kernel_rfl) Tryd.func8
  (witness_row_at (enc := enc) (C := Tryd.checked) false (laidWorld os) #[.agg #[.int .u8 0, .int .u8 0, .int .u8 0, .int .u8 0, .int .u8 0, .int .u8 0, .int .u8 0, .int .u8 0, .int .u8 0, .int .u8 0, .int .u8 0, .int .u8 0, .int .u8 0, .int .u8 0, .int .u8 0, .int .u8 0, .int .u8 0, .int .u8 0, .int .u8 0, .int .u8 0, .int .u8 0, .int .u8 0, .int .u8 0, .int .u8 0, .int .u8 0, .int .u8 0, .int .u8 0, .int .u8 0, .int .u8 0, .int .u8 0, .int .u8 0, .int .u8 0], .slice Option.none 0 0, .slice Option.none 0 0] rfl (by kernel_rfl) (by kernel_rfl) (by kernel_rfl)
   (OpenSpec.preRow_of_cond 8 hx (by kernel_rfl) (fun k hk => by cases hk) (by kernel_rfl) (laid_met os))) ?_
 intro W base args ds gs before hval hW _ _ hsz hL _ _
 exact contract H enc W base args ds gs before hval hW hsz hL
theorem said : Rows.SignPartsSaid :=
 OpenClaim.holds_of_cond 8 Tryd.f8 rfl rfl rfl rfl rfl rfl rfl ⟨rfl, rfl, rfl, rfl, rfl⟩ rfl rfl rfl rfl rfl (by kernel_rfl) Tryd.func8 (by kernel_rfl)
  (of_decide_eq_true (by kernel_rfl)) (by unfold Func.isWrapper; first | (rw [if_pos (by decide +kernel)]; kernel_rfl) | (rw [if_neg (by decide +kernel)]; exact ⟨rfl, rfl⟩))
  (fun os started H enc _ F => by rw [OpenClaim.pre_eq_preRow]; exact lifted os started H enc F)
theorem plain (f : FuncId) (fn : Func) (hf : Tryd.pinned.checked.prog.funcNamed "bosun/bosunlaw08.SignParts" = some f) (hfn : Tryd.pinned.checked.prog.funcs[f]? = some fn) :
  false = Tryd.pinned.checked.prog.looks [] ∧ ∀ (j : Nat) t, fn.params[j]? = some t → Tryd.pinned.checked.prog.wantsStandIn t = false := by
 obtain rfl : f = 8 := Option.some.inj ((show Tryd.prog.funcNamed "bosun/bosunlaw08.SignParts" = some 8 by kernel_rfl).symm.trans hf) |>.symm
 obtain rfl : fn = Tryd.f8 := (Option.some.inj (Tryd.func8.symm.trans hfn)).symm
 refine ⟨by kernel_rfl, fun j t ht => ?_⟩
 rw [Tryd.params8] at ht
 have hm : t ∈ [38, 56, 56] := by simpa using Array.mem_of_getElem? ht
 have hall : ∀ t ∈ [38, 56, 56], Tryd.prog.wantsStandIn t = false := by
  intro t ht
  simp only [List.mem_cons, List.not_mem_nil, or_false] at ht
  rcases ht with rfl | rfl | rfl <;> kernel_rfl
 exact hall t hm
theorem proved : Rows.SignPartsCardSaid :=
 Claim7.holds_tied_plain_at .later [] _ _ _ _ said (fun _ h => by cases h) (by kernel_rfl) (fun _ h => by cases h) signParts_row_tie rfl ⟨rfl, rfl⟩ (by kernel_rfl) rfl plain (by kernel_rfl)
end lawSignParts
end Go.Proofs.YtbplbdnofobbiaaDoor
