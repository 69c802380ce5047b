/- A part. -/
import Derived.Test.YtjdebgbiockafaaGreatDoorGSc2
import Derived.Test.YtjdebgbiockafaaGreatDoorGMi
set_option linter.unusedVariables false
set_option linter.unusedSimpArgs false
set_option maxRecDepth 100000
set_option maxHeartbeats 8000000
namespace Go.Proofs.YtjdebgbiockafaaGreatDoor
open Go.ChangeShapes Go.WideShapes Go.ChangeAt Go.RowKit
abbrev q8 (n : Nat) : Array Value := lvs (qs 8 n)
theorem q8_size (n : Nat) : (q8 n).size = 8 := by rw [lvs_size, qs_len]
def wMid (a b i j : Nat) : List Nat := (qs 8 (uMul (pMul a b i) (limb a i) b i j)).take (i + j) ++ (qs 8 (pMul a b i)).drop (i + j)
theorem wMid_len (a b i j : Nat) (h : i + j ≤ 8) : (wMid a b i j).length = 8 := by
 unfold wMid
 rw [List.length_append, List.length_take, List.length_drop, qs_len, qs_len]; omega
theorem wMid_get (a b i j : Nat) (h : i + j < 8) : (wMid a b i j)[i + j]? = some (limb (pMul a b i) (i + j)) := by
 unfold wMid
 have hl : ((qs 8 (uMul (pMul a b i) (limb a i) b i j)).take (i + j)).length = i + j := by rw [List.length_take, qs_len]; omega
 rw [List.getElem?_append_right (by omega), hl, Nat.sub_self, List.getElem?_drop, Nat.add_zero, qs_get 8 _ _ h]
theorem wMid_set (a b i j : Nat) (h : i + j < 8) : (wMid a b i j).set (i + j) (limb (uMul (pMul a b i) (limb a i) b i (j + 1)) (i + j)) = wMid a b i (j + 1) := by
 unfold wMid
 rw [← qs_take_low 8 _ _ _ (uMul_low (pMul a b i) (limb a i) b i j), ← Nat.add_assoc]
 exact set_takeN _ _ _ _ (qs_get 8 _ _ h) (by rw [qs_len]; exact h)
theorem wMid_0 (a b i : Nat) (hi : i ≤ 8) : wMid a b i 0 = qs 8 (pMul a b i) := by
 unfold wMid
 rw [Nat.add_zero, qs_take_low 8 _ (pMul a b i) i (by rw [uMul_0, Nat.mod_mod]), List.take_append_drop]
theorem wMid_4 (a b i : Nat) (hi : i < 4) (hb : b < 18446744073709551616 ^ 4) : (wMid a b i 4).set (i + 4) (oMul (pMul a b i) (limb a i) b i 4) = qs 8 (pMul a b (i + 1)) := by
 have e := pMul_step a b i hb
 have h1 : pMul a b (i + 1) < 18446744073709551616 ^ (i + 4 + 1) := by have := pMul_lt a b (i + 1) hb; rwa [show i + 1 + 4 = i + 4 + 1 by omega] at this
 have h0 := pMul_lt a b i hb
 unfold wMid oMul
 rw [← e, ← limb_top _ _ h1, set_takeN _ _ _ _ (qs_get 8 _ _ (by omega)) (by rw [qs_len]; omega)]
 rw [← qs_drop_high 8 (pMul a b (i + 1)) (pMul a b i) (i + 4 + 1) h1 (Nat.lt_trans h0 (Nat.pow_lt_pow_right (by decide) (by omega))), List.take_append_drop]
theorem lvs_ints (l : List Nat) : lvs l = ((l.map (fun x : Nat => (x : Int))).map (Value.int .u64)).toArray := by
 unfold lvs; rw [List.map_map]; rfl
theorem eq_lvs (w : World) (d : Nat) (t : TypeId) (m : Nat) (ht : Tryz.prog.underlying t = some (.array m 50)) (a b : List Nat) (ha : a.length = m) (hb : b.length = m) :
  (Op.equalIn (d + 2) t (.agg (lvs a)) (.agg (lvs b))).run Tryz.prog w = .ok (decide (a = b)) w := by
 rw [lvs_ints, lvs_ints, run_eq_ints (P := Tryz.prog) w d t 50 m .u64 ht Tryz.underlying50 (by kernel_rfl) _ _ (by simpa using ha) (by simpa using hb)]
 refine congrArg (fun b => Result.ok b w) (decide_eq_decide.2 ?_)
 constructor
 ·intro h
  have inj : ∀ x y : Nat, (x : Int) = (y : Int) → x = y := fun x y h => by omega
  exact List.map_inj_right (fun _ _ h => inj _ _ h) |>.1 h
 intro h; rw [h]
theorem qs_eq (a b : Nat) (ha : a < 18446744073709551616 ^ 4) (hb : b < 18446744073709551616 ^ 4) : (qs 4 a = qs 4 b) = (a = b) := by
 apply propext
 exact ⟨qs_inj 4 a b ha hb, fun h => by rw [h]⟩
theorem eq_q4 (w : World) (d : Nat) (t : TypeId) (ht : Tryz.prog.underlying t = some (.array 4 50)) (a b : Nat) (ha : a < 18446744073709551616 ^ 4) (hb : b < 18446744073709551616 ^ 4) :
  (Op.equalIn (d + 2) t (.agg (q4 a)) (.agg (q4 b))).run Tryz.prog w = .ok (decide (a = b)) w := by
 rw [eq_lvs w d t 4 ht _ _ (qs_len 4 a) (qs_len 4 b)]
 exact congrArg (fun b => Result.ok b w) (decide_eq_decide.2 (by rw [qs_eq a b ha hb]))
theorem byte_step (n x k : Nat) (hn : n < 256 ^ k) (hx : x < 256) :
  limb (n + 256 ^ k * x) (k / 8) = limb n (k / 8) ||| (x * 2 ^ (8 * (k % 8))) ∧ x * 2 ^ (8 * (k % 8)) < 18446744073709551616 ∧ (∀ i, i ≠ k / 8 → limb (n + 256 ^ k * x) i = limb n i) := by
 have hr : k % 8 < 8 := Nat.mod_lt _ (by decide)
 have hk : 256 ^ k = 18446744073709551616 ^ (k / 8) * 2 ^ (8 * (k % 8)) := by
  rw [show (18446744073709551616 : Nat) = 256 ^ 8 from rfl, show (2 : Nat) ^ (8 * (k % 8)) = 256 ^ (k % 8) by rw [Nat.pow_mul], ← Nat.pow_mul, ← Nat.pow_add, Nat.div_add_mod]
 have hle : x * 2 ^ (8 * (k % 8)) < 18446744073709551616 := by
  have : (2 : Nat) ^ (8 * (k % 8)) ≤ 2 ^ 56 := Nat.pow_le_pow_right (by decide) (by omega)
  exact Nat.lt_of_le_of_lt (Nat.mul_le_mul (show x ≤ 255 by omega) this) (by decide)
 generalize hq : k / 8 = q at *
 have hr8 : 8 * (k % 8) ≤ 56 := by omega
 generalize 8 * (k % 8) = r at *
 rw [hk] at hn ⊢
 have hp : 0 < 18446744073709551616 ^ q := Nat.pow_pos (by decide)
 have ht : n / 18446744073709551616 ^ q < 2 ^ r := by rw [Nat.div_lt_iff_lt_mul hp, Nat.mul_comm]; exact hn
 have e : n + 18446744073709551616 ^ q * 2 ^ r * x = n + 18446744073709551616 ^ q * (x * 2 ^ r) := by rw [Nat.mul_assoc, Nat.mul_comm (2 ^ r)]
 rw [e]
 refine ⟨?_, hle, ?_⟩
 ·unfold limb
  rw [Nat.add_mul_div_left _ _ hp]
  have h1 : n / 18446744073709551616 ^ q ||| x * 2 ^ r = n / 18446744073709551616 ^ q + x * 2 ^ r := by
   rw [Nat.or_comm, ← Nat.shiftLeft_eq, ← Nat.shiftLeft_add_eq_or_of_lt ht, Nat.add_comm]
  have hr56 : x * 2 ^ r + n / 18446744073709551616 ^ q < 18446744073709551616 := by
   have h3 : (2 : Nat) ^ r ≤ 2 ^ 56 := Nat.pow_le_pow_right (by decide) (by omega)
   have h4 : (x + 1) * 2 ^ r ≤ 256 * 2 ^ 56 := Nat.mul_le_mul (by omega) h3
   rw [Nat.add_mul, Nat.one_mul] at h4
   have : (256 : Nat) * 2 ^ 56 = 18446744073709551616 := by decide
   omega
  have h5 : n / 18446744073709551616 ^ q < 18446744073709551616 := by omega
  rw [Nat.mod_eq_of_lt h5, h1, Nat.mod_eq_of_lt (by omega)]
 intro i hi
 rcases Nat.lt_or_gt_of_ne hi with h | h
 ·exact limb_low _ _ q i (by rw [Nat.add_mul_mod_self_left]) h
 have hb : ∀ m, m < 18446744073709551616 ^ (q + 1) → limb m i = 0 := fun m hm => by
  refine limb_high m i (Nat.lt_of_lt_of_le hm (Nat.pow_le_pow_right (by decide) (by omega)))
 have h3 : (2 : Nat) ^ r ≤ 2 ^ 56 := Nat.pow_le_pow_right (by decide) (by omega)
 have h4 : (x + 1) * 2 ^ r ≤ 256 * 2 ^ 56 := Nat.mul_le_mul (by omega) h3
 have h6 : 18446744073709551616 ^ q * ((x + 1) * 2 ^ r) ≤ 18446744073709551616 ^ q * 18446744073709551616 := Nat.mul_le_mul_left _ h4
 rw [Nat.add_mul, Nat.one_mul, Nat.mul_add] at h6
 rw [hb _ (by rw [Nat.pow_succ]; omega), hb _ (by rw [Nat.pow_succ]; omega)]
theorem leN_take (l : List UInt8) (k : Nat) (h : k < l.length) : leN (l.take (k + 1)) = leN (l.take k) + 256 ^ k * l[k].toNat := by
 rw [List.take_succ_eq_append_getElem h, leN_append, List.length_take, Nat.min_eq_left (by omega)]
 simp [leN]
theorem qs_byte (l : List UInt8) (k : Nat) (h : k < l.length) (h4 : k / 8 < 4) : (qs 4 (leN (l.take k))).set (k / 8) (limb (leN (l.take (k + 1))) (k / 8)) = qs 4 (leN (l.take (k + 1))) := by
 have hn := leN_lt (l.take k)
 rw [List.length_take, Nat.min_eq_left (by omega)] at hn
 have hs := (byte_step (leN (l.take k)) l[k].toNat k hn (UInt8.toNat_lt _)).2.2
 rw [← leN_take l k h] at hs
 apply List.ext_getElem?
 intro i
 rw [List.getElem?_set]
 split
 ·rename_i e
  subst e
  rw [if_pos (by rw [qs_len]; exact h4), qs_get 4 _ _ h4]
 rename_i e
 unfold qs
 rw [List.getElem?_map, List.getElem?_map]
 cases hr : (List.range 4)[i]? with
 | none => rfl
 | some j =>
  have : j = i := by
   have := List.getElem?_eq_some_iff.1 hr
   obtain ⟨h1, h2⟩ := this
   rw [List.getElem_range] at h2
   exact h2.symm
  subst this
  simp only [Option.map_some]
  rw [hs j (fun h => e h.symm)]
theorem redO_self (n : Nat) : (n = redO n) ↔ n < O6 := by
 unfold redO
 constructor
 ·intro h
  split at h
  ·assumption
  have : 0 < O6 := by decide
  omega
 intro h; rw [if_pos h]
def decN (l : List UInt8) : Value := if leN l < O6 then .tuple #[.agg (q4 (leN l)), .int .i64 0] else .tuple #[.agg (q4 0), .int .i64 7]
theorem decode_any (l : List UInt8) (hl : l.length = 32) (w : World) (hO : TabO w) :
  Calls Tryz.prog 78 #[.agg (zb l)] w fun e w' => e = .returned (decN l) ∧ Below w.heap.size w w' := by
 have hu := Tryz.underlying131
 have hu6 := Tryz.underlying50
 have hu8 := Tryz.underlying5
 have hu32 := Tryz.underlying22
 have hz : ∀ w, (zeroValue 131).run Tryz.prog w = .ok (.agg (q4 0)) w := fun w => by rw [qz4]; kernel_rfl
 have Hs : ∀ n, (Tryz.prog.info? 131).map (·.size) = some (q4 n).size := fun n => by rw [q4_size]; kernel_rfl
 have hs8 : (Tryz.prog.info? 50).map (·.size) = some 1 := by kernel_rfl
 have hsb : (Tryz.prog.info? 22).map (·.size) = some (zb l).size := by rw [show (zb l).size = 32 by simp [zb, vbs, hl]]; kernel_rfl
 have Hgd : Hid (Tryz.prog.eqGuardType Tryz.prog.depth 131 = false) := hide (by kernel_rfl)
 have hlt := leN_lt l
 rw [hl, show 256 ^ 32 = 18446744073709551616 ^ 4 from rfl] at hlt
 have HN := hide (Hs (leN l))
 have H00 := hide (Hs 0)
 have HQ := hide (fun X => eq_q4 X 9998 131 hu (leN l) (redO (leN l)) hlt (by unfold redO; split <;> omega))
 have HQd := hide (redO_self (leN l))
 have Hdec : Hid (decN l = if leN l < O6 then .tuple #[.agg (q4 (leN l)), .int .i64 0] else .tuple #[.agg (q4 0), .int .i64 7]) := hide rfl
 have h0 := (((on_all w).alloc (.cells (zb l) 22)).alloc (.cells (q4 0) 131)).alloc (.cells (q4 0) 131)
 have hs0 := (((Str.refl w).alloc (.cells (zb l) 22)).alloc (.cells (q4 0) 131)).alloc (.cells (q4 0) 131)
 simp only [World.size_alloc] at h0
 have H0 := hide h0
 have HS0 := hide hs0
 have HO := hide hO
 have Hl := hide hl
 have Hlt := hide hlt
 have gB := on_blk_mul H0.out.right.right
 have Hib : Hid (∀ (X : World) (k : Nat) (x : UInt8), l[k]? = some x → k < 32 → (Instr.index 22 (.agg (zb l)) (.int .i64 (k : Int))).run Tryz.prog X = .ok (vb x) X) := hide fun X k x hx hk => run_index_one X 22 5 32 (zb l) k (vb x) .u8 hu32 hu8 (by kernel_rfl) hk (by simp [zb, vbs, hx])
 clear h0 hs0 hO hl hlt
 generalize hB : zb l = B at *
 generalize hZ : q4 0 = Z4 at *
 have HZ := hide hZ
 have HsB := hide hsb
 clear hB hZ hsb
 go_enter Tryz.func78, Tryz.ntmps78
 go_wp2_with (refine wL gB hu32 HsB ?_)
 generalize ((w.alloc (.cells B 22)).alloc (.cells Z4 131)).alloc (.cells Z4 131) = w1 at *
 go_loopw [8] (fun i wr => ∃ k : Nat, k ≤ 32 ∧ i = .int .i64 k ∧ (blk (w.heap.size + 1 + 1) (.cells (q4 (leN (l.take k))) 131 (0, 0)) * (blk (w.heap.size + 1) (.cells Z4 131 (0, 0)) * (blk w.heap.size (.cells B 22 (0, 0)) * all w))).on wr ∧ Str w wr) (fun i _ => 32 - (intOf i).toNat)
 case atStart =>
  refine ⟨0, by omega, rfl, ?_, HS0.out⟩
  rw [List.take_zero, show leN [] = 0 from rfl, HZ.out]
  exact H0.out
 obtain ⟨k, hk, rfl, hX, hS2⟩ := hrel
 have HXk := hide hX
 have HSk := hide hS2
 clear hX hS2 H0 HS0 gB
 by_cases hlt : k < 32
 ·have hkl : k < l.length := by rw [Hl.out]; exact hlt
  have hib := Hib.out wr k l[k] (by simp [hkl]) hlt
  have hn := leN_lt (l.take k)
  rw [List.length_take, Nat.min_eq_left (by omega)] at hn
  have hq4 : k / 8 < 4 := by omega
  obtain ⟨hor, hle, _⟩ := byte_step (leN (l.take k)) l[k].toNat k hn (UInt8.toNat_lt _)
  rw [← leN_take l k hkl] at hor
  have hset := qs_byte l k hkl hq4
  have l1 := limb_lt (leN (l.take k)) (k / 8)
  have l2 := limb_lt (leN (l.take (k + 1))) (k / 8)
  have h4 : (q4 (leN (l.take k)))[k / 8]? = some (lv (limb (leN (l.take k)) (k / 8))) := lvs_get _ (k / 8) _ (qs_get 4 (leN (l.take k)) _ hq4)
  have hx8 := UInt8.toNat_lt l[k]
  obtain ⟨P1, hP1⟩ : ∃ P1, P1 = q4 (leN (l.take k)) := ⟨_, rfl⟩
  obtain ⟨P2, hP2⟩ : ∃ P2, P2 = q4 (leN (l.take (k + 1))) := ⟨_, rfl⟩
  have HP2 := hide hP2
  have Hp2 := hide (show P1.setIfInBounds (k / 8) (lv (limb (leN (l.take (k + 1))) (k / 8))) = P2 by rw [hP1, hP2, lvs_set, hset])
  have Hps := hide (show P1.size = 4 by rw [hP1, q4_size])
  rw [← hP1] at h4 HXk
  have q1 : bits .or .u64 ((limb (leN (l.take k)) (k / 8) : Nat) : Int) ((l[k].toNat * 2 ^ (8 * (k % 8)) : Nat) : Int) = ((limb (leN (l.take (k + 1))) (k / 8) : Nat) : Int) := (u64_or_nat _ _ l1 hle).trans (congrArg Int.ofNat hor.symm)
  have q2 : IntKind.u64.wrap ((l[k].toNat : Int) * 2 ^ (8 * (k % 8))) = ((l[k].toNat * 2 ^ (8 * (k % 8)) : Nat) : Int) := by
   rw [show (l[k].toNat : Int) * 2 ^ (8 * (k % 8)) = ((l[k].toNat * 2 ^ (8 * (k % 8)) : Nat) : Int) by rw [Int.natCast_mul, Int.natCast_pow]; rfl]
   exact wrapS _ hle
  have s8 : IntKind.i64.wrap (8 * ((k % 8 : Nat) : Int)) = ((8 * (k % 8) : Nat) : Int) := by rw [IntWalk.i64_in _ (by omega)]; omega
  have H4 := hide h4
  have Hq1 := hide q1
  have Hq2 := hide q2
  clear h4 hset hP1 hP2 hor hle hn l1 l2 q1 q2
  generalize l[k].toNat * 2 ^ (8 * (k % 8)) = sh at *
  generalize limb (leN (l.take k)) (k / 8) = u at *
  generalize limb (leN (l.take (k + 1))) (k / 8) = r at *
  generalize l[k] = x at *
  have c1 : IntKind.i64.wrap ((k : Int) / 8) = ((k / 8 : Nat) : Int) := by rw [IntWalk.i64_in _ (by omega)]; omega
  have c2 : ((k : Int)).tmod 8 = ((k % 8 : Nat) : Int) := by rw [Int.tmod_eq_emod_of_nonneg (by omega)]; omega
  have c5 : IntKind.u64.wrap ((x.toNat : Nat) : Int) = ((x.toNat : Nat) : Int) := wrapS _ (by have := UInt8.toNat_lt x; omega)
  have hk4 : ((k / 8 : Nat) : Int) < 4 := by omega
  have hr8 : 8 * (k % 8) < 64 := by omega
  generalize hqk : k / 8 = q at *
  generalize hrk : k % 8 = m at *
  have Hqk := hide hqk
  have Hrk := hide hrk
  clear hqk hrk
  go_wp2_with fail
  refine Multi.wp_region_multi [12] [12] [isV (.int .i64 (k : Int)), isV (.int .i64 ((q : Nat) : Int)), isV (.pointer (some ⟨w.heap.size + 1 + 1, q, .none⟩)), isV (lv u), isV (vb x), isV (lv x.toNat), isV (.int .i64 (k : Int)), isV (.int .i64 ((m : Nat) : Int)), isV (.int .i64 ((8 * m : Nat) : Int)), isV (lv sh), isV (lv r), isV (.pointer (some ⟨w.heap.size + 1 + 1, q, .none⟩)), (fun _ _ => True)]
   (by kernel_rfl) (by kernel_rfl) (by kernel_rfl) ⟨rfl, trivial⟩ (fun f X => (blk (w.heap.size + 1 + 1) (.cells (if f 12 = true then P2 else P1) 131 (0, 0)) * (blk (w.heap.size + 1) (.cells Z4 131 (0, 0)) * (blk w.heap.size (.cells B 22 (0, 0)) * all w))).on X ∧ Str w X) ⟨SP.on.drew HXk.out, Str.drew HSk.out⟩ (fun f a b h st => ⟨h.1.below st, h.2.trans (Str.below st)⟩) (fun f g X h hI => by rw [← h 12 rfl]; exact hI) kP ?todo ?r116 (by decide)
  case todo =>
   refine ⟨?_, ?_, ?_, ?_, ?_, ?_, ?_, ?_, ?_, ?_, ?_, ?_, ?_, trivial⟩
   ·intro f hf0 hw hn ev X hT hb hk hf
    have e0 : ev (.tmp 5) = .int .i64 (k : Int) := fP hk.1 (by kernel_rfl)
    exact OpOk.move rfl e0 (Multi.ended_stay rfl rfl (Stay.refl _))
   ·intro f hf0 hw hn ev X hT hb hk hf
    exact OpOk.run (by simp [execOp, fX ev 12 hf.1, hb.1, c1, go_sem]) (Multi.ended_stay rfl rfl (Stay.refl _))
   ·intro f hf0 hw hn ev X hT hb hk hf
    have e0 : ev (.tmp 4) = .pointer (some ⟨w.heap.size + 1 + 1, 0, .none⟩) := fP hk.1 (by kernel_rfl)
    exact OpOk.run (by simp [execOp, e0, fX ev 13 hf.1, hk4, go_sem]; try (intro h; omega)) (Multi.ended_stay rfl rfl (Stay.refl _))
   ·intro f hf0 hw hn ev X hT hb hk hf
    have f12 : f 12 = false := hn 12 (by kernel_rfl)
    have hX := hT.1
    rw [f12, if_neg (by decide)] at hX
    have cW := (cell_of_row X (w.heap.size + 1 + 1) (q) _ _ _ (on_blk_mul hX)).trans H4.out
    exact OpOk.run (by simp [execOp, fX ev 14 hf.1, cW, go_sem]) (Multi.ended_stay rfl rfl (Stay.refl _))
   ·intro f hf0 hw hn ev X hT hb hk hf
    have e0 : ev (.tmp 6) = vb x := fP hk.1 (by kernel_rfl)
    exact OpOk.move rfl e0 (Multi.ended_stay rfl rfl (Stay.refl _))
   ·intro f hf0 hw hn ev X hT hb hk hf
    exact OpOk.run (by simp [execOp, fX ev 16 hf.1, hb.1, hu6, hu8, c5, go_sem]) (Multi.ended_stay rfl rfl (Stay.refl _))
   ·intro f hf0 hw hn ev X hT hb hk hf
    have e0 : ev (.tmp 5) = .int .i64 (k : Int) := fP hk.1 (by kernel_rfl)
    exact OpOk.move rfl e0 (Multi.ended_stay rfl rfl (Stay.refl _))
   ·intro f hf0 hw hn ev X hT hb hk hf
    exact OpOk.run (by simp [execOp, fX ev 18 hf.1, hb.1, c2, go_sem]) (Multi.ended_stay rfl rfl (Stay.refl _))
   ·intro f hf0 hw hn ev X hT hb hk hf
    exact OpOk.run (by simp [execOp, fX ev 19 hf.1, hb.1, s8, go_sem]) (Multi.ended_stay rfl rfl (Stay.refl _))
   ·intro f hf0 hw hn ev X hT hb hk hf
    exact OpOk.run (v := lv sh) (W' := X) (by have h9 := Hq2.out; have h8 : (8 * (m : Int)).toNat = 8 * m := (by omega); simp [execOp, fX ev 17 hf.1, fX ev 20 hf.2.1, h8, h9, go_sem]) (Multi.ended_stay rfl rfl (Stay.refl _))
   ·intro f hf0 hw hn ev X hT hb hk hf
    exact OpOk.run (v := lv r) (W' := X) (by have h9 := Hq1.out; simp [execOp, fX ev 15 hf.1, fX ev 21 hf.2.1, h9, go_sem]) (Multi.ended_stay rfl rfl (Stay.refl _))
   ·intro f hf0 hw hn ev X hT hb hk hf
    have e0 : ev (.tmp 4) = .pointer (some ⟨w.heap.size + 1 + 1, 0, .none⟩) := fP hk.1 (by kernel_rfl)
    exact OpOk.run (by simp [execOp, e0, fX ev 13 hf.1, hk4, go_sem]; try (intro h; omega)) (Multi.ended_stay rfl rfl (Stay.refl _))
   intro f hf0 hw hn ev X hT hb hk hf
   try dsimp only at hT
   rw [hf0, if_neg (by decide)] at hT
   have hX := hT.1
   exact OpOk.store_one _ _ _ rfl (w.heap.size + 1 + 1) q (lv r) (fX ev 23 hf.1) (fX ev 22 hf.2.1) rfl _ P1 hX hs8 (by rw [Hps.out]; omega) rfl P2 Hp2.out (fun h3 => Multi.ended_turn rfl trivial ⟨h3, hT.2.setRow _ _⟩ (Multi.free_keep fR _ _))
  intro X hT
  rintro _ rfl _ rfl _ rfl _ rfl _ rfl _ rfl _ rfl _ rfl _ rfl _ rfl _ rfl _ rfl _ -
  try dsimp only at hT
  rw [if_pos rfl] at hT
  have HX2 := hide hT.1
  have HST := hide hT.2
  clear hT
  go_wp2
  refine Rest.done ?_
  go_wp2
  refine ⟨⟨k + 1, by omega, by simp, by rw [← HP2.out]; exact HX2.out, HST.out⟩, by simp [intOf]; omega⟩
 obtain rfl : k = 32 := by omega
 rw [List.take_of_length_le (by rw [Hl.out]; omega)] at HXk
 have gA := on_blk_mul HXk.out
 have gR := on_blk_mul HXk.out.right
 have hBw := all_below HXk.out.right.right.right HSk.out
 have HBw := hide hBw
 have HO2 := hide (HO.out.below hBw)
 have lA := (Array.getElem?_eq_some_iff.1 gA).1
 have lR := (Array.getElem?_eq_some_iff.1 gR).1
 have GA := hide gA
 have GR := hide gR
 have Hzz : Hid (Z4.size = 4) := hide (by rw [← HZ.out, q4_size])
 clear hBw HXk gA gR
 by_cases hlo : leN l < O6
 ·have HD := hide (show decN l = .tuple #[.agg (q4 (leN l)), .int .i64 0] by rw [Hdec.out, if_pos hlo])
  have HQ2 : Hid (∀ X, (Op.equalIn 10000 131 (.agg (q4 (leN l))) (.agg (q4 (redO (leN l))))).run Tryz.prog X = .ok true X) := hide (fun X => by rw [HQ.out X, decide_eq_true (HQd.out.2 hlo)])
  have Hza := hide (show Z4.size = (q4 (leN l)).size by rw [Hzz.out, q4_size])
  have Hone := hide (lvs_one (qs 4 (leN l)))
  clear hlo HQ HQd Hdec
  go_wp2_with fail
  refine rV (iv [.agg (q4 (leN l)), .agg (q4 (leN l)), .agg (q4 (redO (leN l))), .bool false]) ?t103 ?r117
  case' t103 => refine ⟨?_, ?_, ?_, ?_, trivial⟩ <;> intro ev X hT hb hk hf
  ·exact OpOk.l (fV ev 4 (.pointer (some ⟨w.heap.size + 1 + 1, 0, .none⟩)) hk.1) ((hT.block _ (by simpa using lA)).trans GA.out) hu HN.out
  ·exact OpOk.l (fV ev 4 (.pointer (some ⟨w.heap.size + 1 + 1, 0, .none⟩)) hk.1) ((hT.block _ (by simpa using lA)).trans GA.out) hu HN.out
  ·exact OpOk.c1 (fX ev 26 hf.1) hb (reduced_any (leN l) Hlt.out X (HO2.out.below hT))
  ·exact OpOk.run (v := .bool false) (W' := X) (by
    unfold execOp
    simp only [fX ev 25 hf.1, fX ev 27 hf.2.1, Sem.run_bind, run_eqGuard_agg X _ _ _ _ _ _ Hgd.out, run_neq_struct, HQ2.out X, Result.andThen_ok]
    rfl) ⟨rfl, Stay.refl _⟩
  intro X hT
  rintro _ - _ - _ - _ rfl
  have gA := (hT.block _ (by simpa using lA)).trans GA.out
  have gR := (hT.block _ (by simpa using lR)).trans GR.out
  have HBX := hide (HBw.out.trans (hT.mono HBw.out.size))
  clear hT
  rw [show lvs (qs 4 (leN l)) = q4 (leN l) from rfl] at Hone
  generalize hR4 : q4 (leN l) = R4 at *
  go_wp2
  refine Rest.done ?_
  have HsR := HN.out
  have hza := Hza.out
  have hone := Hone.out
  have HR4 := hide hR4
  clear hR4
  go_wp2_with (first
   | (refine wS gR HsR hza hone ?_)
   | (refine wL gA hu HsR ?_))
  refine rT Tryz.results78 gR hu HsR (.int .i64 0) ⟨by rw [HD.out], below_setRow HBX.out (by omega) _⟩
 have HD := hide (show decN l = .tuple #[.agg Z4, .int .i64 7] by rw [Hdec.out, if_neg hlo])
 have HQ2 : Hid (∀ X, (Op.equalIn 10000 131 (.agg (q4 (leN l))) (.agg (q4 (redO (leN l))))).run Tryz.prog X = .ok false X) := hide (fun X => by rw [HQ.out X, decide_eq_false (fun h => hlo (HQd.out.1 h))])
 have Hone : Hid (Z4.all (·.oneCell') = true) := hide (by rw [← HZ.out]; exact lvs_one (qs 4 0))
 clear hlo HQ HQd Hdec
 go_wp2_with fail
 refine rV (iv [.agg (q4 (leN l)), .agg (q4 (leN l)), .agg (q4 (redO (leN l))), .bool true]) ?t104 ?r118
 case' t104 => refine ⟨?_, ?_, ?_, ?_, trivial⟩ <;> intro ev X hT hb hk hf
 ·exact OpOk.l (fV ev 4 (.pointer (some ⟨w.heap.size + 1 + 1, 0, .none⟩)) hk.1) ((hT.block _ (by simpa using lA)).trans GA.out) hu HN.out
 ·exact OpOk.l (fV ev 4 (.pointer (some ⟨w.heap.size + 1 + 1, 0, .none⟩)) hk.1) ((hT.block _ (by simpa using lA)).trans GA.out) hu HN.out
 ·exact OpOk.c1 (fX ev 26 hf.1) hb (reduced_any (leN l) Hlt.out X (HO2.out.below hT))
 ·exact OpOk.run (v := .bool true) (W' := X) (by
   unfold execOp
   simp only [fX ev 25 hf.1, fX ev 27 hf.2.1, Sem.run_bind, run_eqGuard_agg X _ _ _ _ _ _ Hgd.out, run_neq_struct, HQ2.out X, Result.andThen_ok]
   rfl) ⟨rfl, Stay.refl _⟩
 intro X hT
 rintro _ - _ - _ - _ rfl
 have gR := (hT.block _ (by simpa using lR)).trans GR.out
 have HBX := hide (HBw.out.trans (hT.mono HBw.out.size))
 clear hT
 go_wp2
 refine Rest.done ?_
 have HsR := H00.out
 have hone := Hone.out
 have hb0 : ∀ w, (Instr.build 131 #[]).run Tryz.prog w = .ok (.agg Z4) w := fun w => by rw [← HZ.out, qz4]; kernel_rfl
 go_wp2_with (first
  | (refine wS gR HsR rfl hone ?_))
 refine rT Tryz.results78 gR hu HsR (.int .i64 7) ⟨by rw [HD.out], below_setRow HBX.out (by omega) _⟩
end Go.Proofs.YtjdebgbiockafaaGreatDoor
