/- A part. -/
import Derived.Test.YtjdebgbiockafaaGreatDoorGMi
import Derived.Handy
import Derived.IntWalk
import Derived.Lib.LaidTab
import Derived.LaidSub
import Derived.MakeChecks
set_option linter.unusedVariables false
set_option linter.unusedSimpArgs false
set_option maxRecDepth 100000
set_option maxHeartbeats 8000000
namespace Go.Proofs.YtjdebgbiockafaaGreatDoor
namespace Sha64
def rotr (x : UInt64) (n : Nat) : UInt64 := (x <<< UInt64.ofNat (64 - n)) ||| (x >>> UInt64.ofNat n)
def KL : List UInt64 := [4794697086780616226, 8158064640168781261, 13096744586834688815, 16840607885511220156, 4131703408338449720, 6480981068601479193, 10538285296894168987, 12329834152419229976, 15566598209576043074, 1334009975649890238, 2608012711638119052, 6128411473006802146, 8268148722764581231, 9286055187155687089, 11230858885718282805, 13951009754708518548, 16472876342353939154, 17275323862435702243, 1135362057144423861, 2597628984639134821, 3308224258029322869, 5365058923640841347, 6679025012923562964, 8573033837759648693, 10970295158949994411, 12119686244451234320, 12683024718118986047, 13788192230050041572, 14330467153632333762, 15395433587784984357, 489312712824947311, 1452737877330783856, 2861767655752347644, 3322285676063803686, 5560940570517711597, 5996557281743188959, 7280758554555802590, 8532644243296465576, 9350256976987008742, 10552545826968843579, 11727347734174303076, 12113106623233404929, 14000437183269869457, 14369950271660146224, 15101387698204529176, 15463397548674623760, 17586052441742319658, 1182934255886127544, 1847814050463011016, 2177327727835720531, 2830643537854262169, 3796741975233480872, 4115178125766777443, 5681478168544905931, 6601373596472566643, 7507060721942968483, 8399075790359081724, 8693463985226723168, 9568029438360202098, 10144078919501101548, 10430055236837252648, 11840083180663258601, 13761210420658862357, 14299343276471374635, 14566680578165727644, 15097957966210449927, 16922976911328602910, 17689382322260857208, 500013540394364858, 748580250866718886, 1242879168328830382, 1977374033974150939, 2944078676154940804, 3659926193048069267, 4368137639120453308, 4836135668995329356, 5532061633213252278, 6448918945643986474, 6902733635092675308, 7801388544844847127]
def K (i : Nat) : UInt64 := KL.getD i 0
structure St where
 a : UInt64
 b : UInt64
 c : UInt64
 d : UInt64
 e : UInt64
 f : UInt64
 g : UInt64
 h : UInt64
def H0 : St := ⟨7640891576956012808, 13503953896175478587, 4354685564936845355, 11912009170470909681, 5840696475078001361, 11170449401992604703, 2270897969802886507, 6620516959819538809⟩
def St.list (s : St) : List UInt64 := [s.a, s.b, s.c, s.d, s.e, s.f, s.g, s.h]
def small0 (x : UInt64) : UInt64 := (rotr x 1 ^^^ rotr x 8) ^^^ (x >>> 7)
def small1 (x : UInt64) : UInt64 := (rotr x 19 ^^^ rotr x 61) ^^^ (x >>> 6)
def big1 (x : UInt64) : UInt64 := (rotr x 14 ^^^ rotr x 18) ^^^ rotr x 41
def big0 (x : UInt64) : UInt64 := (rotr x 28 ^^^ rotr x 34) ^^^ rotr x 39
def pOf (s : St) (k w : UInt64) : UInt64 := (((s.h + big1 s.e) + ((s.e &&& s.f) ^^^ (~~~s.e &&& s.g))) + k) + w
def qOf (s : St) : UInt64 := big0 s.a + (((s.a &&& s.b) ^^^ (s.a &&& s.c)) ^^^ (s.b &&& s.c))
def rnd (s : St) (k w : UInt64) : St := ⟨pOf s k w + qOf s, s.a, s.b, s.c, s.d + pOf s k w, s.e, s.f, s.g⟩
def runR (s : St) (w : List UInt64) : Nat → St
 | 0 => s
 | i + 1 => rnd (runR s w i) (K i) (w.getD i 0)
def wordN (l : List UInt8) (at' : Nat) : Nat → UInt64
 | 0 => 0
 | k + 1 => (wordN l at' k <<< 8) ||| (l.getD (at' + k) 0).toUInt64
def nextW (w : List UInt64) (i : Nat) : UInt64 := ((w.getD (i - 16) 0 + small0 (w.getD (i - 15) 0)) + w.getD (i - 7) 0) + small1 (w.getD (i - 2) 0)
def sched (m : List UInt8) : Nat → List UInt64
 | 0 => []
 | i + 1 => sched m i ++ [if i < 16 then wordN m (8 * i) 8 else nextW (sched m i) i]
theorem sched_len (m : List UInt8) : ∀ n, (sched m n).length = n
 | 0 => rfl
 | n + 1 => by simp [sched, sched_len m n]
def addS (s t : St) : St := ⟨s.a + t.a, s.b + t.b, s.c + t.c, s.d + t.d, s.e + t.e, s.f + t.f, s.g + t.g, s.h + t.h⟩
def compress (s : St) (m : List UInt8) : St := addS s (runR s (sched m 80) 80)
def stK (l : List UInt8) : Nat → St
 | 0 => H0
 | k + 1 => compress (stK l k) ((l.drop (128 * k)).take 128)
theorem stK_append (l m : List UInt8) : ∀ k, 128 * k ≤ l.length → stK (l ++ m) k = stK l k
 | 0, _ => rfl
 | k + 1, h => by
  simp only [stK]
  rw [stK_append l m k (by omega), List.drop_append_of_le_length (by omega), List.take_append_of_le_length (by rw [List.length_drop]; omega)]
def byteK (n : Nat) (sh : Nat) : UInt8 := UInt8.ofNat (n / 2 ^ sh % 256)
def lenB (n : Nat) : Nat → List UInt8
 | 0 => []
 | i + 1 => lenB n i ++ [byteK n (120 - 8 * i)]
def padZ (n : Nat) : Nat := (112 - 1 + 128 - n % 128) % 128
def padded (l : List UInt8) : List UInt8 := (l ++ [128] ++ List.replicate (padZ l.length) 0) ++ lenB (8 * l.length) 16
theorem lenB_len (n : Nat) : ∀ k, (lenB n k).length = k
 | 0 => rfl
 | k + 1 => by simp [lenB, lenB_len n k]
theorem padded_mod (l : List UInt8) : (padded l).length % 128 = 0 := by
 simp only [padded, padZ, List.length_append, List.length_replicate, lenB_len, List.length_cons, List.length_nil]
 omega
def outW (x : UInt64) : Nat → List UInt8
 | 0 => []
 | j + 1 => outW x j ++ [byteK x.toNat (56 - 8 * j)]
def outS (s : St) : List UInt8 := outW s.a 8 ++ outW s.b 8 ++ outW s.c 8 ++ outW s.d 8 ++ outW s.e 8 ++ outW s.f 8 ++ outW s.g 8 ++ outW s.h 8
def digest (l : List UInt8) : List UInt8 := outS (stK (padded l) ((padded l).length / 128))
theorem outW_len (x : UInt64) : ∀ k, (outW x k).length = k
 | 0 => rfl
 | k + 1 => by simp [outW, outW_len x k]
theorem outS_len (s : St) : (outS s).length = 64 := by simp [outS, outW_len]
theorem digest_len (l : List UInt8) : (digest l).length = 64 := outS_len _
end Sha64
end Go.Proofs.YtjdebgbiockafaaGreatDoor
namespace Go.Proofs.YtjdebgbiockafaaGreatDoor
open Go.ChangeShapes Go.WideShapes Go.ChangeAt Go.RowKit
namespace Sha64
theorem rot_fin (x : UInt64) (n : Nat) (h0 : 0 < n) (hn : n < 64) : Value.int .u64 (bits .or .u64 (IntKind.u64.wrap ((x.toNat : Int) * ((2 ^ (64 - n) : Nat) : Int))) ((x.toNat : Int) / ((2 ^ n : Nat) : Int))) = v64 (rotr x n) := by
 have e1 : IntKind.u64.wrap ((x.toNat : Int) * ((2 ^ (64 - n) : Nat) : Int)) = ((x <<< UInt64.ofNat (64 - n)).toNat : Int) := by
  rw [UInt64.toNat_shiftLeft]
  have : (UInt64.ofNat (64 - n)).toNat % 64 = 64 - n := by simp; omega
  rw [this, Nat.shiftLeft_eq, IntKind.wrap_u64]
  omega
 have e2 : (x.toNat : Int) / ((2 ^ n : Nat) : Int) = ((x >>> UInt64.ofNat n).toNat : Int) := by
  rw [UInt64.toNat_shiftRight]
  have : (UInt64.ofNat n).toNat % 64 = n := by simp; omega
  rw [this, Nat.shiftRight_eq_div_pow]
  simp
 rw [e1, e2, or64]
 rfl
theorem rotl_any (x : UInt64) (n : Nat) (hn : n ∈ [1, 8, 14, 18, 19, 28, 34, 39, 41, 61]) (w : World) :
  Calls Tryz.prog 124 #[v64 x, .int .i64 (-(n : Int))] w fun e w' => e = .returned (v64 (rotr x n)) ∧ w = w' := by
 simp only [List.mem_cons, List.not_mem_nil, or_false] at hn
 rcases hn with rfl | rfl | rfl | rfl | rfl | rfl | rfl | rfl | rfl | rfl
 ·have hm : bits .and .u64 (IntKind.u64.wrap (-1)) 63 = 63 := by decide
  have hw2 : IntKind.u64.wrap ((64 : Int) - 63) = 1 := by decide
  go_enter Tryz.func124, Tryz.ntmps124
  go_wp2_with fail
  clear hm hw2
  go_ret
  exact ⟨congrArg Ending.returned (rot_fin x 1 (by decide) (by decide)), rfl⟩
 ·have hm : bits .and .u64 (IntKind.u64.wrap (-8)) 63 = 56 := by decide
  have hw2 : IntKind.u64.wrap ((64 : Int) - 56) = 8 := by decide
  go_enter Tryz.func124, Tryz.ntmps124
  go_wp2_with fail
  clear hm hw2
  go_ret
  exact ⟨congrArg Ending.returned (rot_fin x 8 (by decide) (by decide)), rfl⟩
 ·have hm : bits .and .u64 (IntKind.u64.wrap (-14)) 63 = 50 := by decide
  have hw2 : IntKind.u64.wrap ((64 : Int) - 50) = 14 := by decide
  go_enter Tryz.func124, Tryz.ntmps124
  go_wp2_with fail
  clear hm hw2
  go_ret
  exact ⟨congrArg Ending.returned (rot_fin x 14 (by decide) (by decide)), rfl⟩
 ·have hm : bits .and .u64 (IntKind.u64.wrap (-18)) 63 = 46 := by decide
  have hw2 : IntKind.u64.wrap ((64 : Int) - 46) = 18 := by decide
  go_enter Tryz.func124, Tryz.ntmps124
  go_wp2_with fail
  clear hm hw2
  go_ret
  exact ⟨congrArg Ending.returned (rot_fin x 18 (by decide) (by decide)), rfl⟩
 ·have hm : bits .and .u64 (IntKind.u64.wrap (-19)) 63 = 45 := by decide
  have hw2 : IntKind.u64.wrap ((64 : Int) - 45) = 19 := by decide
  go_enter Tryz.func124, Tryz.ntmps124
  go_wp2_with fail
  clear hm hw2
  go_ret
  exact ⟨congrArg Ending.returned (rot_fin x 19 (by decide) (by decide)), rfl⟩
 ·have hm : bits .and .u64 (IntKind.u64.wrap (-28)) 63 = 36 := by decide
  have hw2 : IntKind.u64.wrap ((64 : Int) - 36) = 28 := by decide
  go_enter Tryz.func124, Tryz.ntmps124
  go_wp2_with fail
  clear hm hw2
  go_ret
  exact ⟨congrArg Ending.returned (rot_fin x 28 (by decide) (by decide)), rfl⟩
 ·have hm : bits .and .u64 (IntKind.u64.wrap (-34)) 63 = 30 := by decide
  have hw2 : IntKind.u64.wrap ((64 : Int) - 30) = 34 := by decide
  go_enter Tryz.func124, Tryz.ntmps124
  go_wp2_with fail
  clear hm hw2
  go_ret
  exact ⟨congrArg Ending.returned (rot_fin x 34 (by decide) (by decide)), rfl⟩
 ·have hm : bits .and .u64 (IntKind.u64.wrap (-39)) 63 = 25 := by decide
  have hw2 : IntKind.u64.wrap ((64 : Int) - 25) = 39 := by decide
  go_enter Tryz.func124, Tryz.ntmps124
  go_wp2_with fail
  clear hm hw2
  go_ret
  exact ⟨congrArg Ending.returned (rot_fin x 39 (by decide) (by decide)), rfl⟩
 ·have hm : bits .and .u64 (IntKind.u64.wrap (-41)) 63 = 23 := by decide
  have hw2 : IntKind.u64.wrap ((64 : Int) - 23) = 41 := by decide
  go_enter Tryz.func124, Tryz.ntmps124
  go_wp2_with fail
  clear hm hw2
  go_ret
  exact ⟨congrArg Ending.returned (rot_fin x 41 (by decide) (by decide)), rfl⟩
 have hm : bits .and .u64 (IntKind.u64.wrap (-61)) 63 = 3 := by decide
 have hw2 : IntKind.u64.wrap ((64 : Int) - 3) = 61 := by decide
 go_enter Tryz.func124, Tryz.ntmps124
 go_wp2_with fail
 clear hm hw2
 go_ret
 exact ⟨congrArg Ending.returned (rot_fin x 61 (by decide) (by decide)), rfl⟩
theorem right_any (x : UInt64) (n : Nat) (hn : n ∈ [1, 8, 14, 18, 19, 28, 34, 39, 41, 61]) (w : World) :
  Calls Tryz.prog 122 #[v64 x, .int .i64 (n : Int)] w fun e w' => e = .returned (v64 (rotr x n)) ∧ w = w' := by
 have h1 : n < 64 := by
  simp only [List.mem_cons, List.not_mem_nil, or_false] at hn
  omega
 have hr := rotl_any x n hn w
 clear hn
 go_enter Tryz.func122, Tryz.ntmps122
 go_wp2_with fail
 refine hr.mono ?_
 rintro e _ ⟨rfl, rfl⟩
 clear hr
 go_wp2
 go_ret
 exact ⟨rfl, rfl⟩
def cellsL (s : St) (left : List UInt8) (n : Nat) : List Value := s.list.map v64 ++ (vbs left ++ [.int .u64 (n : Int)])
abbrev cells (s : St) (left : List UInt8) (n : Nat) : Array Value := (cellsL s left n).toArray
theorem list_len (s : St) : s.list.length = 8 := rfl
theorem cells_st (s : St) (left : List UInt8) (n i : Nat) (hi : i < 8) : (cells s left n)[i]? = some (v64 (s.list[i]'(by rw [list_len]; exact hi))) := by
 rw [List.getElem?_toArray]
 unfold cellsL
 rw [List.getElem?_append_left (by rw [List.length_map, list_len]; exact hi), List.getElem?_map, List.getElem?_eq_getElem (by rw [list_len]; exact hi)]
 rfl
theorem cells_left (s : St) (left : List UInt8) (n i : Nat) (hi : i < left.length) : (cells s left n)[8 + i]? = some (vb left[i]) := by
 rw [List.getElem?_toArray]
 unfold cellsL
 rw [List.getElem?_append_right (by rw [List.length_map, list_len]; omega), List.length_map, list_len, Nat.add_sub_cancel_left, List.getElem?_append_left (by simpa using hi), vbs_get _ _ hi]
theorem cells_n (s : St) (left : List UInt8) (n : Nat) (hl : left.length = 128) : (cells s left n)[136]? = some (.int .u64 (n : Int)) := by
 rw [List.getElem?_toArray]
 unfold cellsL
 rw [List.getElem?_append_right (by rw [List.length_map, list_len]; omega), List.length_map, list_len, List.getElem?_append_right (by simp; omega)]
 simp [hl]
theorem cells_size (s : St) (left : List UInt8) (n : Nat) (hl : left.length = 128) : (cells s left n).size = 137 := by
 simp [cells, cellsL, St.list, hl]
theorem cells_one (s : St) (left : List UInt8) (n : Nat) : (cells s left n).all (·.oneCell') = true := by
 rw [Array.all_eq_true_iff_forall_mem]
 intro x hx
 simp only [cells, cellsL, List.mem_toArray, List.mem_append, List.mem_map, List.mem_cons, List.not_mem_nil, or_false] at hx
 rcases hx with ⟨y, _, rfl⟩ | ⟨y, _, rfl⟩ | rfl <;> rfl
theorem cells_set_left (s : St) (left : List UInt8) (n i : Nat) (c : UInt8) (hi : i < left.length) : (cells s left n).setIfInBounds (8 + i) (vb c) = cells s (left.set i c) n := by
 unfold cells cellsL
 rw [List.setIfInBounds_toArray, List.set_append_right _ _ (by rw [List.length_map, list_len]; omega), List.length_map, list_len, Nat.add_sub_cancel_left, List.set_append_left _ _ (by simpa using hi), vbs_set]
theorem cells_set_n (s : St) (left : List UInt8) (n m : Nat) (hl : left.length = 128) : (cells s left n).setIfInBounds 136 (.int .u64 (m : Int)) = cells s left m := by
 unfold cells cellsL
 rw [List.setIfInBounds_toArray, List.set_append_right _ _ (by rw [List.length_map, list_len]; omega), List.length_map, list_len, List.set_append_right _ _ (by simp [hl])]
 simp [hl]
abbrev wv (l : List UInt64) : Array Value := (l.map v64).toArray
def wL (m : List UInt8) (k : Nat) : List UInt64 := sched m k ++ List.replicate (80 - k) 0
def wJ (m : List UInt8) (k j : Nat) : List UInt64 := sched m k ++ wordN m (8 * k) j :: List.replicate (80 - 1 - k) 0
theorem wL_len (m : List UInt8) (k : Nat) (hk : k ≤ 80) : (wL m k).length = 80 := by simp [wL, sched_len]; omega
theorem wJ_zero (m : List UInt8) (k : Nat) (hk : k < 80) : wJ m k 0 = wL m k := by
 unfold wJ wL
 rw [show 80 - k = (80 - 1 - k) + 1 by omega, List.replicate_succ]
 rfl
theorem wJ_get (m : List UInt8) (k j : Nat) : (wJ m k j)[k]? = some (wordN m (8 * k) j) := by
 unfold wJ
 rw [List.getElem?_append_right (by rw [sched_len]; omega), sched_len]
 simp
theorem wJ_set (m : List UInt8) (k j : Nat) (x : UInt64) : (wJ m k j).set k x = sched m k ++ x :: List.replicate (80 - 1 - k) 0 := by
 unfold wJ
 rw [List.set_append_right _ _ (by rw [sched_len]; omega), sched_len]
 simp
theorem wJ_next (m : List UInt8) (k j : Nat) : (wJ m k j).set k ((wordN m (8 * k) j <<< 8) ||| (m.getD (8 * k + j) 0).toUInt64) = wJ m k (j + 1) := by
 rw [wJ_set]; rfl
theorem wJ_last (m : List UInt8) (k : Nat) (hk : k < 16) : wJ m k 8 = wL m (k + 1) := by
 unfold wJ wL
 simp only [sched, if_pos hk, List.append_assoc, List.cons_append, List.nil_append]
 rw [show 80 - (k + 1) = 80 - 1 - k by omega]
theorem wL_set (m : List UInt8) (k : Nat) (h16 : 16 ≤ k) (hk : k < 80) : (wL m k).set k (nextW (sched m k) k) = wL m (k + 1) := by
 rw [← wJ_zero m k hk, wJ_set]
 unfold wL
 simp only [sched, if_neg (show ¬k < 16 by omega), List.append_assoc, List.cons_append, List.nil_append]
 rw [show 80 - (k + 1) = 80 - 1 - k by omega]
theorem wL_get (m : List UInt8) (k i : Nat) (hi : i < k) : (wL m k)[i]? = some ((sched m k).getD i 0) := by
 unfold wL
 rw [List.getElem?_append_left (by rw [sched_len]; exact hi), List.getD_eq_getElem?_getD, List.getElem?_eq_getElem (by rw [sched_len]; exact hi)]
 rfl
theorem wv_get (l : List UInt64) (i : Nat) {x : UInt64} (h : l[i]? = some x) : (wv l)[i]? = some (v64 x) := by
 rw [List.getElem?_toArray, List.getElem?_map, h]; rfl
theorem wv_set (l : List UInt64) (i : Nat) (x : UInt64) : (wv l).setIfInBounds i (v64 x) = wv (l.set i x) := by
 rw [List.setIfInBounds_toArray, ← List.map_set]
theorem wv_size (l : List UInt64) : (wv l).size = l.length := by simp
theorem wv_one (l : List UInt64) : (wv l).all (·.oneCell') = true := by
 rw [Array.all_eq_true_iff_forall_mem]
 intro x hx
 simp only [List.mem_toArray, List.mem_map] at hx
 obtain ⟨y, _, rfl⟩ := hx
 rfl
theorem shl8_or (x : UInt64) (c : UInt8) : bits .or .u64 ((x.toNat : Int) * 256 % 18446744073709551616) ((c.toNat : Int) % 18446744073709551616) = (((x <<< 8) ||| c.toUInt64).toNat : Int) := by
 have e1 : (x.toNat : Int) * (256 : Int) % (18446744073709551616 : Int) = ((x <<< 8).toNat : Int) := by
  rw [UInt64.toNat_shiftLeft, Nat.shiftLeft_eq]
  have : (8 : UInt64).toNat % 64 = 8 := rfl
  rw [this]
  omega
 have e2 : (c.toNat : Int) % (18446744073709551616 : Int) = ((c.toUInt64).toNat : Int) := by
  have := UInt8.toNat_lt c
  simp
  omega
 rw [e1, e2, or64]
theorem info8 : (Tryz.prog.info? 5).map (fun i => (i.zero, i.size, i.bytes)) = some (some (.int .u8 0), 1, 1) := by kernel_rfl
theorem slice_left (p k : Nat) (hk : k < 16) (X : World) :
  (Instr.sliceAt 173 (.pointer (some ⟨p, 8, .none⟩)) (some (.int .i64 (8 * (k : Int)))) (some (.int .i64 (8 * (k : Int) + 8))) Option.none).run Tryz.prog X = .ok (.slice (some ⟨p, 8 + 8 * k, .none⟩) 8 (128 - 8 * k)) X := by
 have hl : Tryz.prog.arrayLen 173 = 128 := by kernel_rfl
 have he : Tryz.prog.elem 173 = 5 := by kernel_rfl
 have ht : Tryz.prog.underlying 173 = some (.array (Tryz.prog.arrayLen 173) (Tryz.prog.elem 173)) := by rw [hl, he]; exact Tryz.underlying173
 rw [run_sliceAt_array_lh X _ ⟨p, 8, .none⟩ ht .i64 .i64 _ _ (by omega) (by omega) (by rw [hl]; omega), hl, he]
 have hz : (sizeOf 5).run Tryz.prog X = .ok 1 X := by
  obtain ⟨i, hq, _, hs, _⟩ := info_some info8
  simp [sizeOf, typeInfo, hq, hs]
 rw [hz]
 have e1 : (8 * (k : Int)).toNat = 8 * k := by omega
 have e2 : (8 * (k : Int) + 8).toNat = 8 * k + 8 := by omega
 have e3 : ¬128 = 8 * k := by omega
 have e4 : (⟨p, 8, .none⟩ : Addr).add (8 * k * 1) = ⟨p, 8 + 8 * k, .none⟩ := by unfold Addr.add; split <;> simp_all
 have e5 : 8 * k + 8 - 8 * k = 8 := by omega
 simp only [Result.andThen_ok, slicedAt, e1, e2, if_neg e3, e4, e5]
theorem shr_n (x : UInt64) (n : Nat) (hn : n < 64) : (x.toNat : Int) / ((2 ^ n : Nat) : Int) = ((x >>> UInt64.ofNat n).toNat : Int) := by
 rw [UInt64.toNat_shiftRight]
 have : (UInt64.ofNat n).toNat % 64 = n := by simp; omega
 rw [this, Nat.shiftRight_eq_div_pow]
 simp
theorem small0_eq (x : UInt64) : bits .xor .u64 (bits .xor .u64 ((rotr x 1).toNat : Int) ((rotr x 8).toNat : Int)) ((x.toNat : Int) / (128 : Int)) = ((small0 x).toNat : Int) := by
 have h := shr_n x 7 (by decide)
 rw [xor64, show ((x.toNat : Int) / (128 : Int)) = ((x >>> UInt64.ofNat 7).toNat : Int) from h, xor64]
 rfl
theorem small1_eq (x : UInt64) : bits .xor .u64 (bits .xor .u64 ((rotr x 19).toNat : Int) ((rotr x 61).toNat : Int)) ((x.toNat : Int) / (64 : Int)) = ((small1 x).toNat : Int) := by
 have h := shr_n x 6 (by decide)
 rw [xor64, show ((x.toNat : Int) / (64 : Int)) = ((x >>> UInt64.ofNat 6).toNat : Int) from h, xor64]
 rfl
theorem setCell_congr {F : SP} {w : World} {a : Addr} {u v : Value} (h : F.on (w.setCell a u)) (e : u = v) : F.on (w.setCell a v) := e ▸ h
abbrev zW : Array Value := wv (List.replicate 80 0)
theorem schedule_any (s : St) (m : List UInt8) (n p : Nat) (w : World) (hx : w.heap[p]? = some (.cells (cells s m n) 175 (0, 0))) (hm : m.length = 128) :
  Calls Tryz.prog 121 #[.pointer (some ⟨p, 0, .none⟩)] w (Makes w fun v => pure (v = .agg (wv (wL m 80)))) := by
 have hz : ∀ w, (zeroValue 179).run Tryz.prog w = .ok (.agg zW) w := fun w => by kernel_rfl
 have hua := Tryz.underlying179
 have hsa : (Tryz.prog.info? 179).map (·.size) = some 80 := by kernel_rfl
 have H0 : Hid ((blk (w.heap.size + 1) (.cells (wv (wL m 0)) 179 (0, 0)) * (blk w.heap.size (.cells zW 179 (0, 0)) * all w)).on ((w.alloc (.cells zW 179)).alloc (.cells zW 179))) := hide (by
  have := ((on_all w).alloc (.cells zW 179)).alloc (.cells zW 179)
  rw [World.size_alloc] at this
  exact this)
 have HS0 := hide (((Str.refl w).alloc (.cells zW 179)).alloc (.cells zW 179))
 have Hx := hide hx
 have Hm := hide hm
 clear hx hm
 go_enter Tryz.func121, Tryz.ntmps121
 go_wp2_with fail
 clear hz
 go_loopw [11] (fun i wr => ∃ k : Nat, k ≤ 80 ∧ i = .int .i64 k ∧ (blk (w.heap.size + 1) (.cells (wv (wL m k)) 179 (0, 0)) * (blk w.heap.size (.cells zW 179 (0, 0)) * all w)).on wr ∧ Str w wr) (fun i _ => 80 - (intOf i).toNat)
 case atStart => exact ⟨0, Nat.zero_le _, rfl, H0.out, HS0.out⟩
 obtain ⟨k, hk, rfl, hw, hstr⟩ := hrel
 by_cases hlt : k < 80
 ·by_cases h16 : k < 16
  ·rw [← wJ_zero m k hlt] at hw
   have HW := hide hw
   have HS := hide hstr
   have hsl := slice_left p k h16
   clear hw hstr H0 HS0
   go_wp2_with fail
   go_loopw [26] (fun i wr => ∃ j : Nat, j ≤ 8 ∧ i = .int .i64 j ∧ (blk (w.heap.size + 1) (.cells (wv (wJ m k j)) 179 (0, 0)) * (blk w.heap.size (.cells zW 179 (0, 0)) * all w)).on wr ∧ Str w wr) (fun i _ => 8 - (intOf i).toNat)
   case atStart => exact ⟨0, Nat.zero_le _, rfl, HW.out, HS.out⟩
   obtain ⟨j, hj, rfl, hw, hstr⟩ := hrel
   by_cases hjt : j < 8
   ·have hB := all_below hw.right.right hstr
    have cl : wr.cell? ⟨p, 8 + 8 * k + j, .none⟩ = some (vb (m[8 * k + j]'(by rw [Hm.out]; omega))) := (show (8 + 8 * k + j) = 8 + (8 * k + j) by omega) ▸ (cell_of_row _ p (8 + (8 * k + j)) _ _ _ ((hB.block p (Array.getElem?_eq_some_iff.1 Hx.out).1).trans Hx.out)).trans (cells_left s m n _ (by rw [Hm.out]; omega))
    have cw := cell_of_blk hw k (wv_get _ k (wJ_get m k j))
    have fw := frozen_of_row _ (w.heap.size + 1) k _ _ (on_blk_mul hw)
    have HN := hide (wJ_next m k j)
    have e1 : m.getD (8 * k + j) 0 = m[8 * k + j]'(by rw [Hm.out]; omega) := by rw [List.getD_eq_getElem?_getD, List.getElem?_eq_getElem (by rw [Hm.out]; omega)]; rfl
    rw [e1] at HN
    have hset := fun x => hw.setCell (i := k) (v64 x)
    have HSet := hide hset
    have HSt := hide hstr
    generalize hc : m[8 * k + j]'(by rw [Hm.out]; omega) = c at *
    generalize wordN m (8 * k) j = x at *
    clear hc e1 hB hw hstr hset HW HS
    go_wp2_with fail
    exact ⟨⟨j + 1, by omega, by simp, by have h9 := HSet.out ((x <<< 8) ||| c.toUInt64); rw [wv_set, HN.out] at h9; exact setCell_congr h9 (congrArg (Value.int _) (by first | exact (shl8_or x c).symm | (rw [IntKind.wrap_u64, IntKind.wrap_u64]; exact (shl8_or x c).symm))), HSt.out.setCell _ _⟩, by simp [intOf]; omega⟩
   obtain rfl : j = 8 := by omega
   rw [wJ_last m k h16] at hw
   have HW2 := hide hw
   have HS2 := hide hstr
   clear hw hstr HW HS
   go_wp2
   exact ⟨⟨k + 1, by omega, by simp, HW2.out, HS2.out⟩, by simp [intOf]; omega⟩
  have hd : decide ((k : Int) < 16) = false := by simp; omega
  have hd2 : ¬ (k : Int) < 16 := by omega
  have c15 := cell_of_blk hw (k - 15) (wv_get _ _ (wL_get m k (k - 15) (by omega)))
  have c2 := cell_of_blk hw (k - 2) (wv_get _ _ (wL_get m k (k - 2) (by omega)))
  have c16 := cell_of_blk hw (k - 16) (wv_get _ _ (wL_get m k (k - 16) (by omega)))
  have c7 := cell_of_blk hw (k - 7) (wv_get _ _ (wL_get m k (k - 7) (by omega)))
  have hN := wL_set m k (by omega) hlt
  unfold nextW at hN
  generalize (sched m k).getD (k - 15) 0 = x15 at *
  generalize (sched m k).getD (k - 2) 0 = x2 at *
  generalize (sched m k).getD (k - 16) 0 = x16 at *
  generalize (sched m k).getD (k - 7) 0 = x7 at *
  have C15 : Hid (∀ X, Stay wr X → X.cell? ⟨w.heap.size + 1, k - 15, .none⟩ = some (v64 x15)) := hide fun X hT => (hT.cell (p := ⟨w.heap.size + 1, k - 15, .none⟩) (World.block_lt_of_cell? _ _ c15)).trans c15
  have C2 : Hid (∀ X, Stay wr X → X.cell? ⟨w.heap.size + 1, k - 2, .none⟩ = some (v64 x2)) := hide fun X hT => (hT.cell (p := ⟨w.heap.size + 1, k - 2, .none⟩) (World.block_lt_of_cell? _ _ c2)).trans c2
  have C16 : Hid (∀ X, Stay wr X → X.cell? ⟨w.heap.size + 1, k - 16, .none⟩ = some (v64 x16)) := hide fun X hT => (hT.cell (p := ⟨w.heap.size + 1, k - 16, .none⟩) (World.block_lt_of_cell? _ _ c16)).trans c16
  have C7 : Hid (∀ X, Stay wr X → X.cell? ⟨w.heap.size + 1, k - 7, .none⟩ = some (v64 x7)) := hide fun X hT => (hT.cell (p := ⟨w.heap.size + 1, k - 7, .none⟩) (World.block_lt_of_cell? _ _ c7)).trans c7
  have sub15 : IntKind.i64.wrap ((k : Int) - 15) = ((k - 15 : Nat) : Int) := by rw [IntWalk.i64_in _ (by omega)]; omega
  have sub2 : IntKind.i64.wrap ((k : Int) - 2) = ((k - 2 : Nat) : Int) := by rw [IntWalk.i64_in _ (by omega)]; omega
  have sub16 : IntKind.i64.wrap ((k : Int) - 16) = ((k - 16 : Nat) : Int) := by rw [IntWalk.i64_in _ (by omega)]; omega
  have sub7 : IntKind.i64.wrap ((k : Int) - 7) = ((k - 7 : Nat) : Int) := by rw [IntWalk.i64_in _ (by omega)]; omega
  have bd15 : ((k - 15 : Nat) : Int) < 80 := by omega
  have bd2 : ((k - 2 : Nat) : Int) < 80 := by omega
  have bd16 : ((k - 16 : Nat) : Int) < 80 := by omega
  have bd7 : ((k - 7 : Nat) : Int) < 80 := by omega
  have HSb := hide (⟨sub15, sub2, sub16, sub7⟩ : IntKind.i64.wrap ((k : Int) - 15) = ((k - 15 : Nat) : Int) ∧ IntKind.i64.wrap ((k : Int) - 2) = ((k - 2 : Nat) : Int) ∧ IntKind.i64.wrap ((k : Int) - 16) = ((k - 16 : Nat) : Int) ∧ IntKind.i64.wrap ((k : Int) - 7) = ((k - 7 : Nat) : Int))
  have HN := hide hN
  have HW := hide hw
  have HS := hide hstr
  clear hw hstr H0 HS0 hN c15 c2 c16 c7 sub15 sub2 sub16 sub7
  go_wp2_with fail
  obtain ⟨sub15, sub2, sub16, sub7⟩ := HSb.out
  refine rV (iv [.int .i64 (k : Int), .int .i64 ((k - 15 : Nat) : Int), .pointer (some ⟨w.heap.size + 1, k - 15, .none⟩), v64 x15, .int .i64 (k : Int), .int .i64 ((k - 2 : Nat) : Int), .pointer (some ⟨w.heap.size + 1, k - 2, .none⟩), v64 x2, v64 x15, v64 x2]) ?t117 ?r135
  case' t117 => refine ⟨?_, ?_, ?_, ?_, ?_, ?_, ?_, ?_, ?_, ?_, trivial⟩ <;> intro ev X hT hb hk hf
  ·exact OpOk.m rfl hk.1
  ·exact OpOk.r (by simp [execOp, fX ev 40 hf.1, hb.1, sub15, go_sem])
  ·exact OpOk.r (by simp [execOp, fV ev 3 (.pointer (some ⟨w.heap.size + 1, 0, .none⟩)) hk.1, fX ev 41 hf.1, hb.1, bd15, go_sem])
  ·have cW := C15.out X hT
   exact OpOk.sc (fX ev 42 hf.1) cW
  ·exact OpOk.m rfl hk.1
  ·exact OpOk.r (by simp [execOp, fX ev 44 hf.1, hb.1, sub2, go_sem])
  ·exact OpOk.r (by simp [execOp, fV ev 3 (.pointer (some ⟨w.heap.size + 1, 0, .none⟩)) hk.1, fX ev 45 hf.1, hb.1, bd2, go_sem])
  ·have cW := C2.out X hT
   exact OpOk.sc (fX ev 46 hf.1) cW
  ·exact OpOk.assign rfl (fX ev 43 hf.1) ⟨rfl, Stay.refl _⟩
  ·exact OpOk.assign rfl (fX ev 47 hf.1) ⟨rfl, Stay.refl _⟩
  intro X hT
  iterate 10 rintro _ rfl
  have HT := hide hT
  clear hT sub15 sub2 sub16 sub7
  go_wp2
  refine Rest.done ?_
  go_wp2_with fail
  refine (right_any x15 1 (by decide) _).mono ?_
  rintro e _ ⟨rfl, rfl⟩
  go_wp2_with fail
  refine (right_any x15 8 (by decide) _).mono ?_
  rintro e _ ⟨rfl, rfl⟩
  go_wp2_with fail
  refine (right_any x2 19 (by decide) _).mono ?_
  rintro e _ ⟨rfl, rfl⟩
  go_wp2_with fail
  refine (right_any x2 61 (by decide) _).mono ?_
  rintro e _ ⟨rfl, rfl⟩
  go_wp2_with fail
  rw [small0_eq x15, small1_eq x2]
  obtain ⟨sub15, sub2, sub16, sub7⟩ := HSb.out
  have C16' : Hid (∀ Y, Stay X Y → Y.cell? ⟨w.heap.size + 1, k - 16, .none⟩ = some (v64 x16)) := hide fun Y h => C16.out Y (Stay.trans HT.out h)
  have C7' : Hid (∀ Y, Stay X Y → Y.cell? ⟨w.heap.size + 1, k - 7, .none⟩ = some (v64 x7)) := hide fun Y h => C7.out Y (Stay.trans HT.out h)
  generalize small0 x15 = s0 at *
  generalize small1 x2 = s1 at *
  refine wp_tail 14 (iv [.int .i64 (k : Int), .int .i64 (k : Int), .int .i64 ((k - 16 : Nat) : Int), .pointer (some ⟨w.heap.size + 1, k - 16, .none⟩), v64 x16, v64 s0, v64 (x16 + s0), .int .i64 (k : Int), .int .i64 ((k - 7 : Nat) : Int), .pointer (some ⟨w.heap.size + 1, k - 7, .none⟩), v64 x7, v64 (x16 + s0 + x7), v64 s1, v64 (x16 + s0 + x7 + s1)]) ?t118 ?r136
  case' t118 => refine ⟨?_, ?_, ?_, ?_, ?_, ?_, ?_, ?_, ?_, ?_, ?_, ?_, ?_, ?_, trivial⟩ <;> intro ev X hT hb hk hf
  ·exact OpOk.m rfl hk.1
  ·exact OpOk.m rfl hk.1
  ·exact OpOk.r (by simp [execOp, fX ev 65 hf.1, hb.1, sub16, go_sem])
  ·exact OpOk.r (by simp [execOp, fV ev 3 (.pointer (some ⟨w.heap.size + 1, 0, .none⟩)) hk.1, fX ev 66 hf.1, hb.1, bd16, go_sem])
  ·have cW := C16'.out X hT
   exact OpOk.sc (fX ev 67 hf.1) cW
  ·exact OpOk.m rfl hk.1
  ·exact OpOk.w2 (fX ev 68 hf.1) (fX ev 69 hf.2.1) hb add64
  ·exact OpOk.m rfl hk.1
  ·exact OpOk.r (by simp [execOp, fX ev 71 hf.1, hb.1, sub7, go_sem])
  ·exact OpOk.r (by simp [execOp, fV ev 3 (.pointer (some ⟨w.heap.size + 1, 0, .none⟩)) hk.1, fX ev 72 hf.1, hb.1, bd7, go_sem])
  ·have cW := C7'.out X hT
   exact OpOk.sc (fX ev 73 hf.1) cW
  ·exact OpOk.w2 (fX ev 70 hf.1) (fX ev 74 hf.2.1) hb add64
  ·exact OpOk.m rfl hk.1
  ·exact OpOk.w2 (fX ev 75 hf.1) (fX ev 76 hf.2.1) hb add64
  intro X2 hT2
  iterate 14 rintro _ rfl
  have hB := Stay.trans HT.out hT2
  have hw2 := HW.out.below hB
  have fr := frozen_of_row _ (w.heap.size + 1) k _ _ (on_blk_mul hw2)
  have ck := cell_of_blk hw2 k (wv_get _ k (show (wL m k)[k]? = some (wordN m (8 * k) 0) by rw [← wJ_zero m k hlt]; exact wJ_get m k 0))
  have HSet := hide (hw2.setCell (i := k) (v64 (x16 + s0 + x7 + s1)))
  have HS2 := hide (HS.out.trans (Str.below hB))
  clear hw2 hT2 hB sub15 sub2 sub16 sub7
  go_wp2
  refine Rest.done ?_
  go_wp2
  exact ⟨⟨k + 1, by omega, by simp, by have h9 := HSet.out; rw [wv_set, HN.out] at h9; exact setCell_congr h9 (congrArg (Value.int _) (by simp only [UInt64.toNat_add, IntKind.wrap_u64]; omega)), HS2.out.setCell _ _⟩, by simp [intOf]; omega⟩
 obtain rfl : k = 80 := by omega
 have h2 := on_blk_mul hw.right
 have h3 := on_blk_mul hw
 have hsz : (wv (wL m 80)).size = 80 := by rw [wv_size, wL_len m _ (Nat.le_refl _)]
 have hzz : zW.size = (wv (wL m 80)).size := by rw [hsz, wv_size, List.length_replicate]
 have HF := hide ((hw.right.setRow (wv (wL m 80))).right)
 have HS := hide hstr
 have ho := wv_one (wL m 80)
 rw [← hsz] at hsa
 clear hw hstr H0 HS0 hk hlt
 generalize hrw : wv (wL m 80) = rw at *
 have HR := hide hrw
 clear hrw
 go_wp2_with (first
  | (refine wpList_load_row rfl _ _ rfl (w.heap.size + 1) rfl _ rw _ _ h3 hua rfl hsa ?_)
  | (refine wpList_store_row rfl _ _ _ rfl w.heap.size rw rfl rfl _ _ h2 hsa hzz ho ?_))
 refine bodyPost_ret (v := .agg rw) (results_cell_row Tryz.results121 _ _ w.heap.size _ rw (0, 0) _ rfl (setRow_heap_same _ _ _ _ _ _ h2) hua rfl hsa) rfl ?_
 exact ⟨_, rfl, on_pure_mul.2 ⟨congrArg Value.agg HR.out.symm, HF.out⟩, HS.out.setRow _ _⟩
theorem _root_.Go.Proofs.YtjdebgbiockafaaGreatDoor.SP.on_mul_cut {A B C F : SP} {w : World} (h : (A * (B * (C * F))).on w) : (A * F).on w :=
 (SP.le.mul (SP.le.refl A) ((SP.le_right B _).trans (SP.le_right C F))).on h
structure Tab (w : World) : Prop where
 rounds : ∀ i, i < 80 → w.cell? ⟨11, i, .none⟩ = some (v64 (K i))
 first : ∀ i x, H0.list[i]? = some x → w.cell? ⟨10, i, .none⟩ = some (v64 x)
theorem Tab.below {w w' : World} (h : Tab w) (hb : Below w.heap.size w w') : Tab w' :=
 ⟨fun i hi => (hb.cell (p := ⟨11, i, .none⟩) (World.block_lt_of_cell? w _ (h.rounds i hi))).trans (h.rounds i hi),
  fun i x hx => (hb.cell (p := ⟨10, i, .none⟩) (World.block_lt_of_cell? w _ (h.first i x hx))).trans (h.first i x hx)⟩
def cellsG (sl : List UInt64) (left : List UInt8) (n : Nat) : List Value := sl.map v64 ++ (vbs left ++ [.int .u64 (n : Int)])
theorem cellsG_eq (s : St) (left : List UInt8) (n : Nat) : (cellsG s.list left n).toArray = cells s left n := rfl
theorem cellsG_get (sl : List UInt64) (left : List UInt8) (n i : Nat) {x : UInt64} (h : sl[i]? = some x) : (cellsG sl left n).toArray[i]? = some (v64 x) := by
 have hi := (List.getElem?_eq_some_iff.1 h).1
 rw [List.getElem?_toArray]
 unfold cellsG
 rw [List.getElem?_append_left (by simpa using hi), List.getElem?_map, h]
 rfl
theorem cellsG_set (sl : List UInt64) (left : List UInt8) (n i : Nat) (x : UInt64) (hi : i < sl.length) : (cellsG sl left n).toArray.setIfInBounds i (v64 x) = (cellsG (sl.set i x) left n).toArray := by
 unfold cellsG
 rw [List.setIfInBounds_toArray, List.set_append_left _ _ (by simpa using hi), ← List.map_set]
def mixL (s t : St) (k : Nat) : List UInt64 := (addS s t).list.take k ++ s.list.drop k
theorem mixL_len (s t : St) (k : Nat) (hk : k ≤ 8) : (mixL s t k).length = 8 := by
 simp only [mixL, List.length_append, List.length_take, List.length_drop, list_len]; omega
theorem mixL_next (s t : St) (k : Nat) (hk : k < 8) : ∃ x y, t.list[k]? = some y ∧ (mixL s t k)[k]? = some x ∧ (mixL s t k).set k (x + y) = mixL s t (k + 1) := by
 obtain ⟨a, b, c, d, e, f, g, h⟩ := s
 obtain ⟨a', b', c', d', e', f', g', h'⟩ := t
 rcases (show k = 0 ∨ k = 1 ∨ k = 2 ∨ k = 3 ∨ k = 4 ∨ k = 5 ∨ k = 6 ∨ k = 7 by omega) with rfl | rfl | rfl | rfl | rfl | rfl | rfl | rfl <;> exact ⟨_, _, rfl, rfl, rfl⟩
abbrev z8 : Array Value := wv (List.replicate 8 0)
def stc (s : St) : Array Value := wv s.list
theorem stc_size (s : St) : (stc s).size = 8 := rfl
theorem stc_one (s : St) : (stc s).all (·.oneCell') = true := wv_one _
theorem wpList_store8 {P : Program} {ops : Array Oper} {rest : List Oper} {o : Oper} {a : Act} {w : World} {Q : Exit → Act → World → Prop} (hgd : o.guard = Option.none) (ty : TypeId) (x y : Operand) (ho : o.op = .store ty x y)
  (g : Nat) (v0 v1 v2 v3 v4 v5 v6 v7 : Value) (hx : a.eval x = .pointer (some ⟨g, 0, .none⟩)) (hy : a.eval y = .agg #[v0, v1, v2, v3, v4, v5, v6, v7])
  (t : TypeId) (old : Array Value) (hg : w.heap[g]? = some (.cells old t (0, 0))) (hi : (P.info? ty).map (·.size) = some 8) (hold : old.size = 8)
  (h1 : v0.oneCell' = true ∧ v1.oneCell' = true ∧ v2.oneCell' = true ∧ v3.oneCell' = true ∧ v4.oneCell' = true ∧ v5.oneCell' = true ∧ v6.oneCell' = true ∧ v7.oneCell' = true)
  (h : wpList P ops Q rest (a.put o.dst undef) (w.setRow g #[v0, v1, v2, v3, v4, v5, v6, v7])) : wpList P ops Q (o :: rest) a w :=
 wpList_store_row hgd ty x y ho g _ hx hy t old hg hi hold (by obtain ⟨e0, e1, e2, e3, e4, e5, e6, e7⟩ := h1; simp [e0, e1, e2, e3, e4, e5, e6, e7]) h
theorem setRow_congr {F : SP} {w : World} {g : Nat} {u v : Array Value} (h : F.on (w.setRow g u)) (e : u = v) : F.on (w.setRow g v) := e ▸ h
theorem arr8 {α : Type} {a0 a1 a2 a3 a4 a5 a6 a7 b0 b4 : α} (h0 : a0 = b0) (h4 : a4 = b4) : #[a0, a1, a2, a3, a4, a5, a6, a7] = #[b0, a1, a2, a3, b4, a5, a6, a7] := by rw [h0, h4]
theorem mix_any (s : St) (left : List UInt8) (n p : Nat) (F : SP) (w : World) (h : (blk p (.cells (cells s left n) 175 (0, 0)) * F).on w) (hl : left.length = 128) (hT : ∀ X, F.on X → Tab X) :
  Calls Tryz.prog 115 #[.pointer (some ⟨p, 0, .none⟩)] w fun e w' => (∃ v, e = .returned v) ∧ (blk p (.cells (cells (compress s left) left n) 175 (0, 0)) * F).on w' ∧ Str w w' := by
 have hz8 : ∀ w, (zeroValue 172).run Tryz.prog w = .ok (.agg z8) w := fun w => by kernel_rfl
 have hzR : ∀ w, (zeroValue 179).run Tryz.prog w = .ok (.agg zW) w := fun w => by kernel_rfl
 have hu8 := Tryz.underlying172
 have huR := Tryz.underlying179
 have hs8 : (Tryz.prog.info? 172).map (·.size) = some 8 := by kernel_rfl
 have hsR : (Tryz.prog.info? 179).map (·.size) = some 80 := by kernel_rfl
 have Hh := hide h
 have HT := hide hT
 have hSc := schedule_any s left n p w (on_blk_mul h) hl
 clear h hT
 go_enter Tryz.func115, Tryz.ntmps115
 go_wp2_with fail
 refine hSc.mono ?_
 clear hSc
 rintro e w1 ⟨v1, rfl, ho, hs⟩
 obtain ⟨rfl, _⟩ := on_pure_mul.1 ho
 have h1 := (on_all_to ho Hh.out).right
 have HS1 := hide hs
 clear ho hs
 have hsW : (wv (wL left 80)).size = 80 := by rw [wv_size, wL_len left _ (Nat.le_refl _)]
 have hzz : zW.size = (wv (wL left 80)).size := by rw [hsW, wv_size, List.length_replicate]
 have hoW := wv_one (wL left 80)
 have hwl : wL left 80 = sched left 80 := by unfold wL; simp
 rw [← hsW] at hsR
 have hr1 := heap_alloc_new w1 (.cells zW 179)
 have h2 := (h1.alloc (.cells zW 179)).setRow (wv (wL left 80))
 have hs2 := (HS1.out.alloc (.cells zW 179)).setRow w1.heap.size (wv (wL left 80))
 have Hwl := hide hwl
 clear hwl h1
 generalize hWv : wv (wL left 80) = Wv at *
 have HWv := hide hWv
 clear hWv
 generalize hw2 : (w1.alloc (.cells zW 179)).setRow w1.heap.size Wv = w2 at *
 have Hw2 := hide hw2
 clear hw2
 have HsR := hide hsR
 have Hzz := hide hzz
 have HoW := hide hoW
 have HsW := hide hsW
 have Hr1 := hide hr1
 have H2 := hide h2
 have HS2 := hide hs2
 have Hpart : Hid (∀ j v, (stc s)[j]? = some v → w2.cell? ⟨p, 0 + j, .none⟩ = some v) := hide (fun j v hj => by
  have hj8 : j < 8 := by
   have := (Array.getElem?_eq_some_iff.1 hj).1
   rwa [stc_size] at this
  rw [Nat.zero_add, cell_of_blk h2.right j (cells_st s left n j hj8)]
  rw [← hj]
  unfold stc
  rw [wv_get _ j (List.getElem?_eq_getElem (by rw [list_len]; exact hj8))])
 have Hr2 := hide (heap_alloc_new w2 (.cells z8 172))
 have h3 := (h2.alloc (.cells z8 172)).setRow (stc s)
 have hs3 := (hs2.alloc (.cells z8 172)).setRow w2.heap.size (stc s)
 have Hst8 := hide hs8
 generalize hw3 : (w2.alloc (.cells z8 172)).setRow w2.heap.size (stc s) = w3 at *
 have Hw3 := hide hw3
 have H3 := hide h3
 have HS3 := hide hs3
 have Hz8 : Hid (z8.size = (stc s).size) := hide rfl
 have Ho8 := hide (stc_one s)
 have Hg8 : Hid ((Tryz.prog.info? 172).map (·.size) = some (stc s).size) := hide hs8
 generalize hS8 : stc s = S8 at *
 have HS8 := hide hS8
 clear hsR hzz hoW hsW hr1 h2 hs2 h3 hs3 hw3 hS8
 go_wp2_with (first
  | (refine wpList_store_row rfl _ _ _ rfl w1.heap.size Wv rfl rfl _ _ Hr1.out HsR.out Hzz.out HoW.out ?_; rw [Hw2.out])
  | (refine wpList_load_part rfl _ _ rfl p 0 rfl S8 _ Hpart.out hu8 rfl Hg8.out ?_)
  | (refine wpList_store_row rfl _ _ _ rfl w2.heap.size S8 rfl rfl _ _ Hr2.out Hg8.out Hz8.out Ho8.out ?_; rw [Hw3.out]))
 clear HsR Hzz HoW HsW Hr1 H2 HS2 Hpart Hr2 Hz8 Ho8 Hg8 Hst8
 go_loopw [23] (fun i wr => ∃ k : Nat, k ≤ 80 ∧ i = .int .i64 k ∧ (blk w2.heap.size (.cells (stc (runR s (sched left 80) k)) 172 (0, 0)) * (blk w1.heap.size (.cells Wv 179 (0, 0)) * (blk p (.cells (cells s left n) 175 (0, 0)) * F))).on wr ∧ Str w wr) (fun i _ => 80 - (intOf i).toNat)
 case atStart => exact ⟨0, Nat.zero_le _, rfl, by have h9 := H3.out; rw [← HS8.out] at h9; exact h9, HS3.out⟩
 obtain ⟨k, hk, rfl, hw, hstr⟩ := hrel
 by_cases hlt : k < 80
 ·have HN := hide (show runR s (sched left 80) (k + 1) = rnd (runR s (sched left 80) k) (K k) ((sched left 80).getD k 0) from rfl)
  have hW0 : Wv[k]? = some (v64 ((sched left 80).getD k 0)) := by
   rw [← HWv.out]
   exact wv_get _ _ (wL_get left 80 k hlt)
  have cw := cell_of_blk hw.right k hW0
  have ck := (HT.out _ hw.right.right.right).rounds k hlt
  generalize (sched left 80).getD k 0 = ww at *
  generalize K k = kk at *
  generalize runR s (sched left 80) k = st at *
  obtain ⟨a0, a1, a2, a3, a4, a5, a6, a7⟩ := st
  have hb3 := on_blk_mul hw
  have C0 : Hid (∀ X, Stay wr X → X.cell? ⟨w2.heap.size, 0, .none⟩ = some (v64 a0)) := hide fun X hT => cell_of_blk (hw.below hT) 0 rfl
  have C1 : Hid (∀ X, Stay wr X → X.cell? ⟨w2.heap.size, 1, .none⟩ = some (v64 a1)) := hide fun X hT => cell_of_blk (hw.below hT) 1 rfl
  have C2 : Hid (∀ X, Stay wr X → X.cell? ⟨w2.heap.size, 2, .none⟩ = some (v64 a2)) := hide fun X hT => cell_of_blk (hw.below hT) 2 rfl
  have C3 : Hid (∀ X, Stay wr X → X.cell? ⟨w2.heap.size, 3, .none⟩ = some (v64 a3)) := hide fun X hT => cell_of_blk (hw.below hT) 3 rfl
  have C4 : Hid (∀ X, Stay wr X → X.cell? ⟨w2.heap.size, 4, .none⟩ = some (v64 a4)) := hide fun X hT => cell_of_blk (hw.below hT) 4 rfl
  have C5 : Hid (∀ X, Stay wr X → X.cell? ⟨w2.heap.size, 5, .none⟩ = some (v64 a5)) := hide fun X hT => cell_of_blk (hw.below hT) 5 rfl
  have C6 : Hid (∀ X, Stay wr X → X.cell? ⟨w2.heap.size, 6, .none⟩ = some (v64 a6)) := hide fun X hT => cell_of_blk (hw.below hT) 6 rfl
  have C7 : Hid (∀ X, Stay wr X → X.cell? ⟨w2.heap.size, 7, .none⟩ = some (v64 a7)) := hide fun X hT => cell_of_blk (hw.below hT) 7 rfl
  have CK : Hid (∀ X, Stay wr X → X.cell? ⟨11, k, .none⟩ = some (v64 kk)) := hide fun X hT => (hT.cell (p := ⟨11, k, .none⟩) (World.block_lt_of_cell? _ _ ck)).trans ck
  have CW : Hid (∀ X, Stay wr X → X.cell? ⟨w1.heap.size, k, .none⟩ = some (v64 ww)) := hide fun X hT => cell_of_blk (hw.below hT).right k hW0
  have HW := hide hw
  have HS := hide hstr
  have klt : (k : Int) < 80 := by omega
  clear hw hstr cw ck hb3 hW0 H3 HS3
  go_wp2_with fail
  refine rV (iv [.pointer (some ⟨w2.heap.size, 0, .none⟩), v64 a0, .pointer (some ⟨w2.heap.size, 1, .none⟩), v64 a1, .pointer (some ⟨w2.heap.size, 2, .none⟩), v64 a2, .pointer (some ⟨w2.heap.size, 3, .none⟩), v64 a3, .pointer (some ⟨w2.heap.size, 4, .none⟩), v64 a4, .pointer (some ⟨w2.heap.size, 5, .none⟩), v64 a5, .pointer (some ⟨w2.heap.size, 6, .none⟩), v64 a6, .pointer (some ⟨w2.heap.size, 7, .none⟩), v64 a7, v64 a0, v64 a1, v64 a2, v64 a3, v64 a4, v64 a5, v64 a6, v64 a7]) ?t119 ?r137
  case' t119 => refine ⟨?_, ?_, ?_, ?_, ?_, ?_, ?_, ?_, ?_, ?_, ?_, ?_, ?_, ?_, ?_, ?_, ?_, ?_, ?_, ?_, ?_, ?_, ?_, ?_, trivial⟩ <;> intro ev X hT hb hk hf
  ·exact OpOk.s (fV ev 3 (.pointer (some ⟨w2.heap.size, 0, .none⟩)) hk.1) hb
  ·have cW := C0.out X hT
   exact OpOk.sc (fX ev 26 hf.1) cW
  ·exact OpOk.s (fV ev 3 (.pointer (some ⟨w2.heap.size, 0, .none⟩)) hk.1) hb
  ·have cW := C1.out X hT
   exact OpOk.sc (fX ev 28 hf.1) cW
  ·exact OpOk.s (fV ev 3 (.pointer (some ⟨w2.heap.size, 0, .none⟩)) hk.1) hb
  ·have cW := C2.out X hT
   exact OpOk.sc (fX ev 30 hf.1) cW
  ·exact OpOk.s (fV ev 3 (.pointer (some ⟨w2.heap.size, 0, .none⟩)) hk.1) hb
  ·have cW := C3.out X hT
   exact OpOk.sc (fX ev 32 hf.1) cW
  ·exact OpOk.s (fV ev 3 (.pointer (some ⟨w2.heap.size, 0, .none⟩)) hk.1) hb
  ·have cW := C4.out X hT
   exact OpOk.sc (fX ev 34 hf.1) cW
  ·exact OpOk.s (fV ev 3 (.pointer (some ⟨w2.heap.size, 0, .none⟩)) hk.1) hb
  ·have cW := C5.out X hT
   exact OpOk.sc (fX ev 36 hf.1) cW
  ·exact OpOk.s (fV ev 3 (.pointer (some ⟨w2.heap.size, 0, .none⟩)) hk.1) hb
  ·have cW := C6.out X hT
   exact OpOk.sc (fX ev 38 hf.1) cW
  ·exact OpOk.s (fV ev 3 (.pointer (some ⟨w2.heap.size, 0, .none⟩)) hk.1) hb
  ·have cW := C7.out X hT
   exact OpOk.sc (fX ev 40 hf.1) cW
  ·exact OpOk.assign rfl (fX ev 27 hf.1) ⟨rfl, Stay.refl _⟩
  ·exact OpOk.assign rfl (fX ev 29 hf.1) ⟨rfl, Stay.refl _⟩
  ·exact OpOk.assign rfl (fX ev 31 hf.1) ⟨rfl, Stay.refl _⟩
  ·exact OpOk.assign rfl (fX ev 33 hf.1) ⟨rfl, Stay.refl _⟩
  ·exact OpOk.assign rfl (fX ev 35 hf.1) ⟨rfl, Stay.refl _⟩
  ·exact OpOk.assign rfl (fX ev 37 hf.1) ⟨rfl, Stay.refl _⟩
  ·exact OpOk.assign rfl (fX ev 39 hf.1) ⟨rfl, Stay.refl _⟩
  ·exact OpOk.assign rfl (fX ev 41 hf.1) ⟨rfl, Stay.refl _⟩
  intro X hT
  iterate 24 rintro _ rfl
  have CK' : Hid (∀ Y, Stay X Y → Y.cell? ⟨11, k, .none⟩ = some (v64 kk)) := hide fun Y h => CK.out Y (Stay.trans hT h)
  have CW' : Hid (∀ Y, Stay X Y → Y.cell? ⟨w1.heap.size, k, .none⟩ = some (v64 ww)) := hide fun Y h => CW.out Y (Stay.trans hT h)
  have HT1 := hide hT
  clear hT C0 C1 C2 C3 C4 C5 C6 C7 CK CW
  go_wp2
  refine Rest.done ?_
  go_wp2_with fail
  refine rV (iv [v64 a7, v64 a4, v64 (rotr a4 14), v64 a4, v64 (rotr a4 18), v64 (rotr a4 14 ^^^ rotr a4 18), v64 a4, v64 (rotr a4 41), v64 ((rotr a4 14 ^^^ rotr a4 18) ^^^ rotr a4 41), v64 (a7 + ((rotr a4 14 ^^^ rotr a4 18) ^^^ rotr a4 41)), v64 a4, v64 a5, v64 (a4 &&& a5), v64 a4, v64 (~~~a4), v64 a6, v64 (~~~a4 &&& a6), v64 ((a4 &&& a5) ^^^ (~~~a4 &&& a6)), v64 ((a7 + ((rotr a4 14 ^^^ rotr a4 18) ^^^ rotr a4 41)) + ((a4 &&& a5) ^^^ (~~~a4 &&& a6))), .int .i64 (k : Int), .pointer (some ⟨11, k, .none⟩), v64 kk, v64 (((a7 + ((rotr a4 14 ^^^ rotr a4 18) ^^^ rotr a4 41)) + ((a4 &&& a5) ^^^ (~~~a4 &&& a6))) + kk), .int .i64 (k : Int), .pointer (some ⟨w1.heap.size, k, .none⟩), v64 ww, v64 ((((a7 + ((rotr a4 14 ^^^ rotr a4 18) ^^^ rotr a4 41)) + ((a4 &&& a5) ^^^ (~~~a4 &&& a6))) + kk) + ww), v64 ((((a7 + ((rotr a4 14 ^^^ rotr a4 18) ^^^ rotr a4 41)) + ((a4 &&& a5) ^^^ (~~~a4 &&& a6))) + kk) + ww)]) ?t120 ?r138
  case' t120 => refine ⟨?_, ?_, ?_, ?_, ?_, ?_, ?_, ?_, ?_, ?_, ?_, ?_, ?_, ?_, ?_, ?_, ?_, ?_, ?_, ?_, ?_, ?_, ?_, ?_, ?_, ?_, ?_, ?_, trivial⟩ <;> intro ev X hT hb hk hf
  ·exact OpOk.m rfl hk.1
  ·exact OpOk.m rfl hk.1
  ·refine OpOk.enters (by simp [execOp, resolve, invoke, fX ev 43 hf.1, hb.1, hb.2.1, go_sem]) ((right_any a4 14 (by decide) X).mono ?_)
   rintro e _ ⟨rfl, rfl⟩
   exact ⟨_, rfl, rfl, Stay.refl _⟩
  ·exact OpOk.m rfl hk.1
  ·refine OpOk.enters (by simp [execOp, resolve, invoke, fX ev 45 hf.1, hb.1, hb.2.1, go_sem]) ((right_any a4 18 (by decide) X).mono ?_)
   rintro e _ ⟨rfl, rfl⟩
   exact ⟨_, rfl, rfl, Stay.refl _⟩
  ·exact OpOk.w2 (fX ev 44 hf.1) (fX ev 46 hf.2.1) hb xor64
  ·exact OpOk.m rfl hk.1
  ·refine OpOk.enters (by simp [execOp, resolve, invoke, fX ev 48 hf.1, hb.1, hb.2.1, go_sem]) ((right_any a4 41 (by decide) X).mono ?_)
   rintro e _ ⟨rfl, rfl⟩
   exact ⟨_, rfl, rfl, Stay.refl _⟩
  ·exact OpOk.w2 (fX ev 47 hf.1) (fX ev 49 hf.2.1) hb xor64
  ·exact OpOk.w2 (fX ev 42 hf.1) (fX ev 50 hf.2.1) hb add64
  ·exact OpOk.m rfl hk.1
  ·exact OpOk.m rfl hk.1
  ·exact OpOk.w2 (fX ev 52 hf.1) (fX ev 53 hf.2.1) hb and64
  ·exact OpOk.m rfl hk.1
  ·exact OpOk.r (by simp [execOp, fX ev 55 hf.1, hb.1, not64, IntKind.signed, -UInt64.toNat_add, -UInt64.toNat_xor, -UInt64.toNat_and, -UInt64.toNat_or, -UInt64.toNat_not, go_sem])
  ·exact OpOk.m rfl hk.1
  ·exact OpOk.w2 (fX ev 56 hf.1) (fX ev 57 hf.2.1) hb and64
  ·exact OpOk.w2 (fX ev 54 hf.1) (fX ev 58 hf.2.1) hb xor64
  ·exact OpOk.w2 (fX ev 51 hf.1) (fX ev 59 hf.2.1) hb add64
  ·exact OpOk.m rfl hk.1
  ·exact OpOk.r (by simp [execOp, fX ev 61 hf.1, hb.1, hb.2.1, hb.2.2, klt, go_sem])
  ·have cW := CK'.out X hT
   exact OpOk.sc (fX ev 62 hf.1) cW
  ·exact OpOk.w2 (fX ev 60 hf.1) (fX ev 63 hf.2.1) hb add64
  ·exact OpOk.m rfl hk.1
  ·exact OpOk.r (by simp [execOp, fV ev 2 (.pointer (some ⟨w1.heap.size, 0, .none⟩)) hk.1, fX ev 65 hf.1, hb.1, hb.2.1, hb.2.2, klt, go_sem])
  ·have cW := CW'.out X hT
   exact OpOk.sc (fX ev 66 hf.1) cW
  ·exact OpOk.w2 (fX ev 64 hf.1) (fX ev 67 hf.2.1) hb add64
  ·exact OpOk.assign rfl (fX ev 68 hf.1) ⟨rfl, Stay.refl _⟩
  intro X2 hT2
  iterate 28 rintro _ rfl
  have HT2 := hide (Stay.trans HT1.out hT2)
  clear hT2 CK' CW' HT1
  have HP := hide (show pOf ⟨a0, a1, a2, a3, a4, a5, a6, a7⟩ kk ww = ((((a7 + ((rotr a4 14 ^^^ rotr a4 18) ^^^ rotr a4 41)) + ((a4 &&& a5) ^^^ (~~~a4 &&& a6))) + kk) + ww) from rfl)
  generalize ((((a7 + ((rotr a4 14 ^^^ rotr a4 18) ^^^ rotr a4 41)) + ((a4 &&& a5) ^^^ (~~~a4 &&& a6))) + kk) + ww) = pp at *
  have hw3 := HW.out.below HT2.out
  have Hb3 := hide (on_blk_mul hw3)
  have HW3 := hide hw3
  have HS3 := hide (HS.out.trans (Str.below HT2.out))
  clear hw3 HW HS HT2
  go_wp2
  refine Rest.done ?_
  go_wp2_with fail
  refine (right_any a0 28 (by decide) _).mono ?_
  rintro e _ ⟨rfl, rfl⟩
  go_wp2_with fail
  refine (right_any a0 34 (by decide) _).mono ?_
  rintro e _ ⟨rfl, rfl⟩
  go_wp2_with fail
  refine (right_any a0 39 (by decide) _).mono ?_
  rintro e _ ⟨rfl, rfl⟩
  have HSz : Hid ((stc ⟨a0, a1, a2, a3, a4, a5, a6, a7⟩).size = 8) := hide rfl
  go_wp2_with (refine wpList_store8 rfl _ _ _ rfl w2.heap.size _ _ _ _ _ _ _ _ rfl rfl _ _ Hb3.out hs8 HSz.out ⟨rfl, rfl, rfl, rfl, rfl, rfl, rfl, rfl⟩ ?_)
  have h9 := HW3.out.setRow (stc (rnd ⟨a0, a1, a2, a3, a4, a5, a6, a7⟩ kk ww))
  rw [← HN.out] at h9
  have e9 : stc (runR s (sched left 80) (k + 1)) = #[v64 (pp + qOf ⟨a0, a1, a2, a3, a4, a5, a6, a7⟩), v64 a0, v64 a1, v64 a2, v64 (a3 + pp), v64 a4, v64 a5, v64 a6] := by
   rw [HN.out, ← HP.out]
   rfl
  refine ⟨⟨k + 1, by omega, by simp, setRow_congr h9 (e9.trans (arr8 (congrArg (Value.int _) ?_) (congrArg (Value.int _) ?_))), HS3.out.setRow _ _⟩, by simp [intOf]; omega⟩
  ·simp only [xor64, and64, qOf, big0, UInt64.toNat_add, IntKind.wrap_u64]
   omega
  simp only [UInt64.toNat_add, IntKind.wrap_u64]
  omega
 obtain rfl : k = 80 := by omega
 have HC := hide (show compress s left = addS s (runR s (sched left 80) 80) from rfl)
 generalize runR s (sched left 80) 80 = t at *
 have hb3 := on_blk_mul hw
 have h9 : (blk p (.cells (cellsG (mixL s t 0) left n).toArray 175 (0, 0)) * (blk w2.heap.size (.cells (stc t) 172 (0, 0)) * (blk w1.heap.size (.cells Wv 179 (0, 0)) * F))).on wr := by
  have e0 : (cellsG (mixL s t 0) left n).toArray = cells s left n := rfl
  rw [e0]
  refine (SP.le_of_eq ?_).on hw
  ac_rfl
 generalize hF2 : (blk w2.heap.size (.cells (stc t) 172 (0, 0)) * (blk w1.heap.size (.cells Wv 179 (0, 0)) * F)) = F2 at *
 have HF2 := hide hF2
 have H9 := hide h9
 have HS := hide hstr
 have Hg8 : Hid ((Tryz.prog.info? 172).map (·.size) = some (stc t).size) := hide hs8
 have Hb3 := hide hb3
 have HY : Hid (∀ k, k < 8 → ∃ x y, (stc t)[k]? = some (v64 y) ∧ (mixL s t k)[k]? = some x ∧ (mixL s t k).set k (x + y) = mixL s t (k + 1)) := hide fun k hk => by
  obtain ⟨x, y, h1, h2, h3⟩ := mixL_next s t k hk
  exact ⟨x, y, wv_get _ _ h1, h2, h3⟩
 have HZ : Hid ((stc t).size = 8) := hide rfl
 generalize stc t = T8 at *
 clear hw hstr hF2 h9 hb3 H3 HS3 hk hlt hs8 hz8 hzR
 go_wp2_with (refine wpList_load_row rfl _ _ rfl w2.heap.size rfl _ T8 _ _ Hb3.out hu8 rfl Hg8.out ?_)
 go_loopw [104] (fun i wr => ∃ k : Nat, k ≤ 8 ∧ i = .int .i64 k ∧ (blk p (.cells (cellsG (mixL s t k) left n).toArray 175 (0, 0)) * F2).on wr ∧ Str w wr) (fun i _ => 8 - (intOf i).toNat)
 case atStart => exact ⟨0, Nat.zero_le _, rfl, H9.out, HS.out⟩
 obtain ⟨k, hk, rfl, hw, hstr⟩ := hrel
 by_cases hlt : k < 8
 ·obtain ⟨x, y, h1, h2, h3⟩ := HY.out k hlt
  have HN := hide h3
  have HW := hide hw
  have HSt := hide hstr
  have CX : Hid (∀ X, Stay wr X → X.cell? ⟨p, k, .none⟩ = some (v64 x)) := hide fun X hT => cell_of_blk (hw.below hT) k (cellsG_get _ _ _ _ h2)
  have k8 : (k : Int) < 8 := by omega
  have hix := run_index_one (P := Tryz.prog) wr 172 50 8 T8 k (v64 y) .u64 hu8 Tryz.underlying50 (by kernel_rfl) hlt h1
  clear h1 h2 h3 hw hstr H9 HS
  go_wp2_with fail
  refine wp_tail 10 (iv [.pointer (some ⟨p, 0, .none⟩), .int .i64 (k : Int), .pointer (some ⟨p, 0, .none⟩), .pointer (some ⟨p, 0, .none⟩), .pointer (some ⟨p, k, .none⟩), v64 x, v64 y, v64 (x + y), .pointer (some ⟨p, 0, .none⟩), .pointer (some ⟨p, 0, .none⟩)]) ?t121 ?r139
  case' t121 => refine ⟨?_, ?_, ?_, ?_, ?_, ?_, ?_, ?_, ?_, ?_, trivial⟩ <;> intro ev X hT hb hk hf
  ·exact OpOk.m rfl hk.1
  ·exact OpOk.m rfl hk.1
  ·exact OpOk.s (fX ev 108 hf.1) hb
  ·exact OpOk.s (fX ev 110 hf.1) hb
  ·exact OpOk.r (by simp [execOp, fX ev 111 hf.1, fX ev 109 hf.2.1, hb.1, k8, go_sem])
  ·have cW := CX.out X hT
   exact OpOk.sc (fX ev 112 hf.1) cW
  ·exact OpOk.m rfl hk.1
  ·exact OpOk.w2 (fX ev 113 hf.1) (fX ev 114 hf.2.1) hb add64
  ·exact OpOk.s (fX ev 108 hf.1) hb
  ·exact OpOk.s (fX ev 116 hf.1) hb
  intro X hT
  iterate 10 rintro _ rfl
  have hw2 := HW.out.below hT
  have cx := CX.out X hT
  have fr := frozen_of_row _ p k _ _ (on_blk_mul hw2)
  have h9 := hw2.setCell (i := k) (v64 (x + y))
  rw [cellsG_set _ _ _ _ _ (by rw [mixL_len _ _ _ hk]; exact hlt), HN.out] at h9
  have H9 := hide h9
  have HS2 := hide (HSt.out.trans (Str.below hT))
  clear hT hw2 h9 CX HW HSt HN hix
  go_wp2
  refine Rest.done ?_
  go_wp2
  exact ⟨⟨k + 1, by omega, by simp, setCell_congr H9.out (congrArg (Value.int _) (by first | rfl | (simp only [UInt64.toNat_add, IntKind.wrap_u64]; omega))), HS2.out.setCell _ _⟩, by simp [intOf]; omega⟩
 obtain rfl : k = 8 := by omega
 have e8 : mixL s t 8 = (addS s t).list := by simp [mixL, St.list]
 rw [e8, cellsG_eq, ← HC.out, ← HF2.out] at hw
 have hfin : (blk p (.cells (cells (compress s left) left n) 175 (0, 0)) * F).on wr := SP.on_mul_cut hw
 have HFin := hide hfin
 have HSt := hide hstr
 clear hw hstr H9 HS hfin
 go_wp2
 go_end0
 exact ⟨⟨_, rfl⟩, HFin.out, HSt.out⟩
def Left (l left : List UInt8) : Prop := left.length = 128 ∧ left.take (l.length % 128) = l.drop (128 * (l.length / 128))
def sta (l : List UInt8) : St := stK l (l.length / 128)
def Sha (p : Nat) (l : List UInt8) : SP := ex fun left => pure (Left l left) * blk p (.cells (cells (sta l) left l.length) 175 (0, 0))
theorem Sha.open {p : Nat} {l : List UInt8} {F : SP} {w : World} (h : (Sha p l * F).on w) : ∃ left, Left l left ∧ (blk p (.cells (cells (sta l) left l.length) 175 (0, 0)) * F).on w := by
 obtain ⟨left, h⟩ := on_ex_mul.1 h
 rw [SP.mul_assoc] at h
 obtain ⟨h1, h2⟩ := on_pure_mul.1 h
 exact ⟨left, h1, h2⟩
theorem Sha.shut {p : Nat} {l left : List UInt8} {F : SP} {w : World} (h1 : Left l left) (h : (blk p (.cells (cells (sta l) left l.length) 175 (0, 0)) * F).on w) : (Sha p l * F).on w :=
 on_ex_mul.2 ⟨left, by rw [SP.mul_assoc]; exact on_pure_mul.2 ⟨h1, h⟩⟩
theorem set_take (left : List UInt8) (m : Nat) (c : UInt8) (h : m < left.length) : (left.set m c).take (m + 1) = left.take m ++ [c] := by
 rw [List.take_succ_eq_append_getElem (by simpa using h)]
 simp [List.take_set_of_le]
theorem step_part {l left : List UInt8} (c : UInt8) (h : Left l left) (hm : l.length % 128 + 1 < 128) : Left (l ++ [c]) (left.set (l.length % 128) c) ∧ sta (l ++ [c]) = sta l := by
 obtain ⟨h1, h2⟩ := h
 have e1 : (l ++ [c]).length % 128 = l.length % 128 + 1 := by simp; omega
 have e2 : (l ++ [c]).length / 128 = l.length / 128 := by simp; omega
 refine ⟨⟨by simpa using h1, ?_⟩, ?_⟩
 ·rw [e1, e2, set_take _ _ _ (by omega), h2, List.drop_append_of_le_length (by omega)]
 unfold sta
 rw [e2, stK_append l [c] _ (by omega)]
theorem step_full {l left : List UInt8} (c : UInt8) (h : Left l left) (hm : l.length % 128 + 1 = 128) : Left (l ++ [c]) (left.set (l.length % 128) c) ∧ sta (l ++ [c]) = compress (sta l) (left.set (l.length % 128) c) := by
 obtain ⟨h1, h2⟩ := h
 have e1 : (l ++ [c]).length % 128 = 0 := by simp; omega
 have e2 : (l ++ [c]).length / 128 = l.length / 128 + 1 := by simp; omega
 have hset : left.set (l.length % 128) c = (left.set (l.length % 128) c).take (l.length % 128 + 1) := by
  rw [List.take_of_length_le (by simp; omega)]
 have hd : (l ++ [c]).drop (128 * (l.length / 128)) = left.set (l.length % 128) c := by
  rw [List.drop_append_of_le_length (by omega), ← h2, hset, set_take _ _ _ (by omega)]
 refine ⟨⟨by simpa using h1, ?_⟩, ?_⟩
 ·rw [e1, e2, List.take_zero, List.drop_eq_nil_of_le (by simp; omega)]
 unfold sta
 rw [e2]
 simp only [stK]
 rw [stK_append l [c] _ (by omega), hd, List.take_of_length_le (by simp; omega)]
theorem write_any (p : Nat) (l : List UInt8) (v : Value) (b : List UInt8) (F : SP) (w : World) (h : (Sha p l * F).on w) (hT : ∀ X, F.on X → Tab X) (hb : ∀ X, F.on X → IsBytes X v b) (hlen : l.length + b.length ≤ 1099511627776) :
  Calls Tryz.prog 106 #[.pointer (some ⟨p, 0, .none⟩), v] w fun e w' => (∃ u, e = .returned u) ∧ (Sha p (l ++ b) * F).on w' ∧ Str w w' := by
 have hb0 := hb w h.right
 have Hh := hide h
 have HT := hide hT
 have Hb := hide hb
 obtain ⟨a, cap, rfl, hc, hm, _, _⟩ := hb0
 unfold maxLen at hm
 clear h hT hb
 go_enter Tryz.func106, Tryz.ntmps106
 go_wp2_with fail
 go_loopw [11] (fun i wr => ∃ k : Nat, k ≤ b.length ∧ i = .int .i64 k ∧ (Sha p (l ++ b.take k) * F).on wr ∧ Str w wr) (fun i _ => b.length - (intOf i).toNat)
 case atStart => exact ⟨0, Nat.zero_le _, rfl, by rw [List.take_zero, List.append_nil]; exact Hh.out, Str.refl _⟩
 obtain ⟨k, hk, rfl, hw, hstr⟩ := hrel
 by_cases hlt : k < b.length
 ·obtain ⟨left, hL, hw⟩ := Sha.open hw
  obtain ⟨_, _, e1, _, _, hl, _⟩ := Hb.out _ hw.right
  simp only [Value.slice.injEq] at e1
  obtain ⟨e11, _, e12⟩ := e1
  subst e11 e12
  obtain ⟨bg, bo, rfl⟩ := hl.isAddr k (by simpa using hlt)
  have cb := Lay.cell hl k (vbs_get _ k hlt)
  have HN := hide (show l ++ b.take (k + 1) = (l ++ b.take k) ++ [b[k]] by rw [List.take_succ_eq_append_getElem hlt, List.append_assoc])
  have hll : (l ++ b.take k).length ≤ 1099511627776 := by rw [List.length_append, List.length_take]; omega
  generalize l ++ b.take k = lk at *
  generalize b[k] = c at *
  have hleft : left.length = 128 := hL.1
  have hmb : lk.length % 128 < 128 := Nat.mod_lt _ (by decide)
  have cn := cell_of_blk hw 136 (cells_n _ left lk.length hleft)
  obtain ⟨lold, cl⟩ : ∃ x, wr.cell? ⟨p, 8 + lk.length % 128, .none⟩ = some (vb x) := ⟨_, cell_of_blk hw (8 + lk.length % 128) (cells_left _ left lk.length (lk.length % 128) (by omega))⟩
  have fr := fun j => frozen_of_row _ p j _ _ (on_blk_mul hw)
  have cn2 : (wr.setCell ⟨p, 8 + lk.length % 128, .none⟩ (vb c)).cell? ⟨p, 136, .none⟩ = some (.int .u64 (lk.length : Int)) := by
   have h9 := hw.setCell (i := 8 + lk.length % 128) (vb c)
   rw [cells_set_left _ _ _ _ _ (by omega)] at h9
   exact cell_of_blk h9 136 (cells_n _ _ lk.length (by simpa using hleft))
  have hset := (hw.setCell (i := 8 + lk.length % 128) (vb c)).setCell (i := 136) (.int .u64 ((lk.length + 1 : Nat) : Int))
  rw [cells_set_left _ _ _ _ _ (by omega), cells_set_n _ _ _ _ (by simpa using hleft)] at hset
  have HSt := hide hstr
  have HL := hide hL
  have fr2 : (wr.setCell ⟨p, 8 + lk.length % 128, .none⟩ (vb c)).frozen? ⟨p, 136, .none⟩ = false := frozen_of_row _ p _ _ _ (on_blk_mul (hw.setCell (i := 8 + lk.length % 128) (vb c)))
  have HSet := hide hset
  have fr1 := fr (8 + lk.length % 128)
  have hlk1 : (lk ++ [c]).length = lk.length + 1 := by simp
  have HLk1 := hide hlk1
  clear hset hw hstr hL hl fr hleft hlk1 Hh
  generalize hmm : lk.length % 128 = m at *
  have hrem : ((lk.length : Nat) : Int) % 128 = (m : Int) := by omega
  have Hmm := hide hmm
  clear hmm
  by_cases h63 : m + 1 = 128
  ·have hne : ((m : Int) == (128 - 1)) = true := by rw [beq_iff_eq]; omega
   have HP := hide (step_full c HL.out (by rw [Hmm.out]; exact h63))
   rw [Hmm.out] at HP
   have hM := mix_any (sta lk) (left.set m c) (lk.length + 1) p F _ HSet.out (by rw [List.length_set]; exact HL.out.1) HT.out
   clear h63
   go_wp2_with fail
   refine (show Calls _ _ _ _ _ from hM).mono ?_
   clear hM
   rintro e w2 ⟨⟨u, rfl⟩, hw2, hs2⟩
   have HW2 := hide hw2
   have HS2 := hide (((HSt.out.setCell _ _).setCell _ _).trans hs2)
   clear hw2 hs2
   go_wp2
   refine ⟨⟨k + 1, by omega, by simp, ?_, HS2.out⟩, by simp [intOf]; omega⟩
   rw [HN.out]
   refine Sha.shut HP.out.1 ?_
   rw [HP.out.2, HLk1.out]
   exact HW2.out
  have hne : ((m : Int) == (128 - 1)) = false := by rw [beq_eq_false_iff_ne]; omega
  have HP := hide (step_part c HL.out (by rw [Hmm.out]; omega))
  rw [Hmm.out] at HP
  clear h63
  go_wp2
  refine ⟨⟨k + 1, by omega, by simp, ?_, (HSt.out.setCell _ _).setCell _ _⟩, by simp [intOf]; omega⟩
  rw [HN.out]
  refine Sha.shut HP.out.1 ?_
  rw [HP.out.2, HLk1.out]
  exact HSet.out
 obtain rfl : k = b.length := by omega
 rw [List.take_length] at hw
 have HW := hide hw
 have HSt := hide hstr
 clear hw hstr Hh
 go_wp2
 go_end0
 exact ⟨⟨_, rfl⟩, HW.out, HSt.out⟩
def zLeft : List UInt8 := List.replicate 128 0
theorem new_any (w : World) (hT : Tab w) :
  Calls Tryz.prog 105 #[] w (Makes w fun v => ex fun p => pure (v = .pointer (some ⟨p, 0, .none⟩)) * Sha p []) := by
 have hu8 := Tryz.underlying172
 have huh := Tryz.underlying175
 have hz : ∀ w, (zeroValue 175).run Tryz.prog w = .ok (.agg (cellsG (List.replicate 8 0) zLeft 0).toArray) w := fun w => by kernel_rfl
 have Hg8 : Hid ((Tryz.prog.info? 172).map (·.size) = some (stc H0).size) := hide (by kernel_rfl)
 have Hpart : Hid (∀ j v, (stc H0)[j]? = some v → w.cell? ⟨10, 0 + j, .none⟩ = some v) := hide fun j v hj => by
  rw [Nat.zero_add]
  have hj8 : j < 8 := by
   have := (Array.getElem?_eq_some_iff.1 hj).1
   rwa [stc_size] at this
  have h1 := hT.first j _ (List.getElem?_eq_getElem (by rw [list_len]; exact hj8))
  rw [h1, ← hj]
  unfold stc
  rw [wv_get _ j (List.getElem?_eq_getElem (by rw [list_len]; exact hj8))]
 go_enter Tryz.func105, Tryz.ntmps105
 go_wp2_with (refine wpList_load_part rfl _ _ rfl 10 0 rfl (stc H0) _ Hpart.out hu8 rfl Hg8.out ?_)
 go_ret
 have e0 : (Array.foldl (fun cs x => cs.setIfInBounds x.snd x.fst) (cellsG [0, 0, 0, 0, 0, 0, 0, 0] zLeft 0).toArray (stc H0).zipIdx 0 (stc H0).size) = cells H0 zLeft 0 := by kernel_rfl
 rw [e0]
 refine ⟨_, rfl, on_ex_mul.2 ⟨w.heap.size, ?_⟩, (Str.refl w).alloc _⟩
 rw [SP.mul_assoc]
 refine on_pure_mul.2 ⟨rfl, Sha.shut (left := zLeft) ⟨rfl, rfl⟩ ?_⟩
 exact (on_all w).alloc _
theorem write_one (p : Nat) (l : List UInt8) (c : UInt8) (F : SP) (w : World) (h : (Sha p l * F).on w) (hT : ∀ X, F.on X → Tab X) (k : Nat) (hk : k = w.heap.size) (v : Value) (hv : v = vb c) (hlen : l.length + 1 ≤ 1099511627776) :
  Calls Tryz.prog 106 #[.pointer (some ⟨p, 0, .none⟩), .slice (some ⟨k, 0, .none⟩) 1 1] (w.alloc (.cells #[v] 5)) fun e w' => (∃ u, e = .returned u) ∧ (Sha p (l ++ [c]) * F).on w' ∧ Str w w' := by
 subst hk hv
 have h1 : (Sha p l * (blk w.heap.size (.cells #[vb c] 5 (0, 0)) * F)).on (w.alloc (.cells #[vb c] 5)) := by
  refine (SP.le_of_eq ?_).on (h.alloc (.cells #[vb c] 5))
  ac_rfl
 refine (write_any p l _ [c] _ _ h1 (fun X hX => hT X hX.right) (fun X hX => ⟨_, _, rfl, Nat.le_refl _, by unfold maxLen; simp, ?_, by intro h; cases h⟩) hlen).mono ?_
 ·intro i u hu
  refine ⟨_, _, rfl, ?_⟩
  rw [Nat.zero_add, cell_of_row _ _ _ _ _ _ (on_blk_mul hX)]
  simpa using hu
 rintro e w' ⟨hu, h2, h3⟩
 refine ⟨hu, (SP.le.mul (SP.le.refl _) (SP.le_right _ _)).on h2, ((Str.refl w).alloc _).trans h3⟩
theorem shr_len (n k : Nat) (hn : n ≤ 1000000000) (hk : k < 16) : Op.shift .shr .u64 (8 * (n : Int)) .i64 (120 - 8 * (k : Int)) = (Pure.pure (.int .u64 (8 * (n : Int) / 2 ^ (120 - 8 * k))) : Sem Value) := by
 rw [shift_shr_any _ _ _ _ (by omega)]
 congr 2
 have e : (120 - 8 * (k : Int)).toNat = 120 - 8 * k := by omega
 rw [e]
 have hb : IntKind.u64.bits = 64 := rfl
 rw [hb]
 rcases Nat.le_total (120 - 8 * k) 64 with h | h
 ·rw [Nat.min_eq_left h]
 rw [Nat.min_eq_right h]
 have h1 : (8 * (n : Int)) / 2 ^ 64 = 0 := Int.ediv_eq_zero_of_lt (by omega) (by omega)
 have h2 : (2 : Int) ^ 64 ≤ 2 ^ (120 - 8 * k) := by
  have := Nat.pow_le_pow_right (show 0 < 2 by decide) h
  exact_mod_cast this
 have h3 : (8 * (n : Int)) / 2 ^ (120 - 8 * k) = 0 := Int.ediv_eq_zero_of_lt (by omega) (by omega)
 rw [h1, h3]
def nOf (w : World) (p : Nat) : Nat := match w.cell? ⟨p, 136, .none⟩ with
 | some (.int _ n) => n.toNat
 | _ => 0
theorem Sha.n {p : Nat} {l : List UInt8} {F : SP} {w : World} (h : (Sha p l * F).on w) : w.cell? ⟨p, 136, .none⟩ = some (.int .u64 (l.length : Int)) := by
 obtain ⟨left, hL, hw⟩ := Sha.open h
 exact cell_of_blk hw 136 (cells_n _ left l.length hL.1)
theorem Sha.nOf {p : Nat} {l : List UInt8} {F : SP} {w : World} (h : (Sha p l * F).on w) : nOf w p = l.length := by
 unfold Sha64.nOf
 rw [Sha.n h]
 simp
theorem pad_any (p : Nat) (l : List UInt8) (F : SP) (w : World) (h : (Sha p l * F).on w) (hT : ∀ X, F.on X → Tab X) (hlen : l.length ≤ 1000000000) :
  Calls Tryz.prog 116 #[.pointer (some ⟨p, 0, .none⟩)] w fun e w' => (∃ u, e = .returned u) ∧ (Sha p (padded l) * F).on w' ∧ Str w w' := by
 have cn := Sha.n h
 have Hh := hide h
 have HT := hide hT
 clear h hT
 go_enter Tryz.func116, Tryz.ntmps116
 go_wp2_with fail
 refine (write_one p l 128 F w Hh.out HT.out _ rfl _ rfl (by omega)).mono ?_
 rintro e w1 ⟨⟨u, rfl⟩, hw1, hs1⟩
 have H1 := hide hw1
 have HS1 := hide hs1
 clear hw1 hs1 Hh cn
 go_wp2_with fail
 go_loopw [12] (fun _ wr => ∃ z : Nat, z ≤ padZ l.length ∧ (Sha p (l ++ [128] ++ List.replicate z 0) * F).on wr ∧ Str w wr) (fun _ wr => (112 + 128 - nOf wr p % 128) % 128)
 case atStart => exact ⟨0, Nat.zero_le _, by rw [List.replicate_zero, List.append_nil]; exact H1.out, HS1.out⟩
 obtain ⟨z, hz, hw, hstr⟩ := hrel
 have cn := Sha.n hw
 have hzB : padZ l.length < 128 := by unfold padZ; omega
 have hzP : (l.length + 1 + padZ l.length) % 128 = 112 := by unfold padZ; omega
 have hll : (l ++ [128] ++ List.replicate z 0).length = l.length + 1 + z := by simp; omega
 rw [hll] at cn
 by_cases hP : (l.length + 1 + z) % 128 = 112
 ·obtain rfl : z = padZ l.length := by unfold padZ at hz ⊢; omega
  have hne : (((l.length : Int) + 1 + (padZ l.length : Int)) % 128 != 112) = false := by simp; omega
  have HD := hide (show padded l = (l ++ [128] ++ List.replicate (padZ l.length) 0) ++ lenB (8 * l.length) 16 from rfl)
  have hX : (l ++ [128] ++ List.replicate (padZ l.length) 0).length ≤ 1000001000 := by rw [hll]; omega
  have HX := hide hX
  have H2 := hide hw
  have HS2 := hide hstr
  clear hw hstr hP hzP hzB hll hX H1 HS1 hz
  generalize l ++ [128] ++ List.replicate (padZ l.length) 0 = X0 at *
  go_wp2_with fail
  clear hne cn
  go_loopw [21] (fun i wr => ∃ k : Nat, k ≤ 16 ∧ i = .int .i64 k ∧ (Sha p (X0 ++ lenB (8 * l.length) k) * F).on wr ∧ Str w wr) (fun i _ => 16 - (intOf i).toNat)
  case atStart => exact ⟨0, Nat.zero_le _, rfl, by unfold lenB; rw [List.append_nil]; exact H2.out, HS2.out⟩
  obtain ⟨k, hk, rfl, hw, hstr⟩ := hrel
  by_cases hlt : k < 16
  ·have HN := hide (show X0 ++ lenB (8 * l.length) (k + 1) = (X0 ++ lenB (8 * l.length) k) ++ [byteK (8 * l.length) (120 - 8 * k)] by rw [List.append_assoc]; rfl)
   have HL : Hid ((X0 ++ lenB (8 * l.length) k).length + 1 ≤ 1099511627776) := hide (by have := HX.out; rw [List.length_append, lenB_len]; omega)
   have HW := hide hw
   have HSt := hide hstr
   have hshr := shr_len l.length k hlen hlt
   clear hw hstr H2 HS2
   generalize X0 ++ lenB (8 * l.length) k = Y at *
   go_wp2_with fail
   refine Calls.mono (write_one p Y (byteK (8 * l.length) (120 - 8 * k)) F wr HW.out HT.out _ rfl _ ?hv HL.out) ?_
   case hv => refine congrArg (Value.int _) ?_; unfold byteK; simp [IntKind.wrap_u8]
   rintro e w2 ⟨⟨u, rfl⟩, hw2, hs2⟩
   rw [← HN.out] at hw2
   have HW2 := hide hw2
   have HS2 := hide (HSt.out.trans hs2)
   clear hw2 hs2
   go_wp2
   exact ⟨⟨k + 1, by omega, by simp, HW2.out, HS2.out⟩, by simp [intOf]; omega⟩
  obtain rfl : k = 16 := by omega
  rw [← HD.out] at hw
  have HW := hide hw
  have HSt := hide hstr
  clear hw hstr H2 HS2
  go_wp2
  go_end0
  exact ⟨⟨_, rfl⟩, HW.out, HSt.out⟩
 have hne : (((l.length + 1 + z : Nat) : Int) % 128 != 112) = true := by simp; omega
 have hzz : z + 1 ≤ padZ l.length := by
  rcases Nat.lt_or_ge z (padZ l.length) with h | h
  ·omega
  have : z = padZ l.length := by omega
  rw [this] at hP
  exact absurd hzP hP
 have hnb := Sha.nOf hw
 have Hnb := hide hnb
 have HW := hide hw
 have HSt := hide hstr
 have Hll := hide hll
 have HPP := hide hP
 have hzb : z < 128 := by omega
 clear hw hstr hnb hll hP hzP hzB H1 HS1
 go_wp2_with fail
 refine (write_one p (l ++ [128] ++ List.replicate z 0) 0 F wr HW.out HT.out _ rfl _ rfl (by rw [Hll.out]; omega)).mono ?_
 rintro e w2 ⟨⟨u, rfl⟩, hw2, hs2⟩
 have HW2 := hide hw2
 have HS2 := hide (HSt.out.trans hs2)
 clear hw2 hs2
 go_wp2_with fail
 refine ⟨⟨z + 1, hzz, by rw [List.replicate_succ', ← List.append_assoc]; exact HW2.out, HS2.out⟩, ?_⟩
 have e1 := Sha.nOf HW2.out
 rw [List.length_append, Hll.out] at e1
 have e2 := Hnb.out
 rw [Hll.out] at e2
 have e3 := HPP.out
 rw [e1, e2]
 simp only [List.length_cons, List.length_nil]
 omega
theorem outW_get (x : UInt64) : ∀ (k j : Nat), j < k → (outW x k)[j]? = some (byteK x.toNat (56 - 8 * j))
 | k + 1, j, h => by
  simp only [outW]
  rcases Nat.lt_or_ge j k with h' | h'
  ·rw [List.getElem?_append_left (by rw [outW_len]; exact h'), outW_get x k j h']
  obtain rfl : j = k := by omega
  rw [List.getElem?_append_right (by rw [outW_len]; omega), outW_len]
  simp
theorem flat_get : ∀ (l : List UInt64) (i j : Nat) (x : UInt64), l[i]? = some x → j < 8 → (l.flatMap fun y => outW y 8)[8 * i + j]? = some (byteK x.toNat (56 - 8 * j))
 | y :: l, 0, j, x, h, hj => by
  simp at h
  subst h
  simp only [List.flatMap_cons]
  rw [List.getElem?_append_left (by rw [outW_len]; omega), Nat.mul_zero, Nat.zero_add, outW_get y _ _ hj]
 | y :: l, i + 1, j, x, h, hj => by
  simp only [List.flatMap_cons]
  rw [List.getElem?_append_right (by rw [outW_len]; omega), outW_len, show 8 * (i + 1) + j - 8 = 8 * i + j by omega]
  exact flat_get l i j x (by simpa using h) hj
theorem outS_get (s : St) (i j : Nat) (x : UInt64) (h : s.list[i]? = some x) (hj : j < 8) : (outS s)[8 * i + j]? = some (byteK x.toNat (56 - 8 * j)) := by
 have e : outS s = s.list.flatMap fun y => outW y 8 := by simp [outS, St.list]
 rw [e]
 exact flat_get _ _ _ _ h hj
def dL (s : St) (m : Nat) : List UInt8 := (outS s).take m ++ List.replicate (64 - m) 0
theorem dL_set (s : St) (m : Nat) (hm : m < 64) {x : UInt8} (hx : (outS s)[m]? = some x) : (dL s m).set m x = dL s (m + 1) := by
 unfold dL
 have h1 : ((outS s).take m).length = m := by rw [List.length_take, outS_len]; omega
 obtain ⟨h2, h3⟩ := List.getElem?_eq_some_iff.1 hx
 rw [List.set_append_right _ _ (by omega), h1, Nat.sub_self, show 64 - m = (64 - (m + 1)) + 1 by omega, List.replicate_succ, List.set_cons_zero, List.take_succ_eq_append_getElem h2, h3, List.append_assoc]
 rfl
theorem dL_get (s : St) (m : Nat) (hm : m < 64) : (dL s m)[m]? = some 0 := by
 unfold dL
 have h1 : ((outS s).take m).length = m := by rw [List.length_take, outS_len]; omega
 rw [List.getElem?_append_right (by omega), h1, Nat.sub_self, List.getElem?_replicate, if_pos (by omega)]
theorem dL_all (s : St) : dL s 64 = outS s := by
 unfold dL
 rw [List.take_of_length_le (by rw [outS_len]; exact Nat.le_refl _)]
 simp
def bv (l : List UInt8) : Array Value := (vbs l).toArray
theorem bv_get (l : List UInt8) (i : Nat) {x : UInt8} (h : l[i]? = some x) : (bv l)[i]? = some (vb x) := by
 unfold bv
 rw [List.getElem?_toArray, List.getElem?_map, h]; rfl
theorem bv_set (l : List UInt8) (i : Nat) (x : UInt8) : (bv l).setIfInBounds i (vb x) = bv (l.set i x) := by
 unfold bv
 rw [List.setIfInBounds_toArray, ← List.map_set]
theorem bv_size (l : List UInt8) : (bv l).size = l.length := by simp [bv]
theorem bv_one (l : List UInt8) : (bv l).all (·.oneCell') = true := by
 rw [Array.all_eq_true_iff_forall_mem]
 intro x hx
 simp only [bv, List.mem_toArray, List.mem_map] at hx
 obtain ⟨y, _, rfl⟩ := hx
 rfl
def zD : List UInt8 := List.replicate 64 0
def zH : Array Value := (cellsG (List.replicate 8 0) zLeft 0).toArray
theorem sum_any (p : Nat) (l : List UInt8) (F : SP) (w : World) (h : (Sha p l * F).on w) (hT : ∀ X, F.on X → Tab X) (hlen : l.length ≤ 1000000000) :
  Calls Tryz.prog 107 #[.pointer (some ⟨p, 0, .none⟩)] w fun e w' => e = .returned (.agg (bv (digest l))) ∧ (Sha p l * F).on w' ∧ Str w w' := by
 have hzd : ∀ w, (zeroValue 147).run Tryz.prog w = .ok (.agg (bv zD)) w := fun w => by kernel_rfl
 have hzh : ∀ w, (zeroValue 175).run Tryz.prog w = .ok (.agg zH) w := fun w => by kernel_rfl
 have hu8 := Tryz.underlying172
 have hud := Tryz.underlying147
 have huh := Tryz.underlying175
 have HT := hide hT
 obtain ⟨left, hL, hw⟩ := Sha.open h
 have hw2 := ((hw.alloc (.cells (bv zD) 147)).alloc (.cells (bv zD) 147)).alloc (.cells zH 175)
 simp only [World.size_alloc] at hw2
 have gp : ((w.alloc (.cells (bv zD) 147)).alloc (.cells (bv zD) 147)).heap[p]? = some (.cells (cells (sta l) left l.length) 175 (0, 0)) := on_blk_mul ((hw.alloc' (.cells (bv zD) 147)).alloc' (.cells (bv zD) 147))
 have gq := on_blk_mul hw2
 have hw3 := hw2.setRow (cells (sta l) left l.length)
 have hs3 := ((((Str.refl w).alloc (.cells (bv zD) 147)).alloc (.cells (bv zD) 147)).alloc (.cells zH 175)).setRow (w.heap.size + 1 + 1) (cells (sta l) left l.length)
 have hcs := cells_size (sta l) left l.length hL.1
 have HsC : Hid ((Tryz.prog.info? 175).map (·.size) = some (cells (sta l) left l.length).size) := hide (by rw [hcs]; kernel_rfl)
 have HzC : Hid (zH.size = (cells (sta l) left l.length).size) := hide (by rw [hcs]; kernel_rfl)
 have HoC := hide (cells_one (sta l) left l.length)
 have HCe : Hid (∃ left, Left l left ∧ cells (sta l) left l.length = cells (sta l) left l.length) := hide ⟨left, hL, rfl⟩
 have h4 : (Sha (w.heap.size + 1 + 1) l * (blk (w.heap.size + 1) (.cells (bv zD) 147 (0, 0)) * (blk w.heap.size (.cells (bv zD) 147 (0, 0)) * (Sha p l * F)))).on ((((w.alloc (.cells (bv zD) 147)).alloc (.cells (bv zD) 147)).alloc (.cells zH 175)).setRow (w.heap.size + 1 + 1) (cells (sta l) left l.length)) := by
  refine Sha.shut hL ?_
  refine (SP.le.mul (SP.le.refl _) (SP.le.mul (SP.le.refl _) (SP.le.mul (SP.le.refl _) ?_))).on hw3
  intro hh hq
  obtain ⟨a, b, h1, h2, h3, pa, qb⟩ := hq
  exact ⟨hh, Hp.sub_refl _, a, b, h1, h2, h3, ⟨left, fun _ => Option.none, a, fun _ => .inl rfl, fun _ _ e => (nomatch e), Hp.sub_refl _, hL, pa⟩, qb⟩
 have Gp := hide gp
 have Gq := hide gq
 have H4 := hide h4
 have HS3 := hide hs3
 generalize hC : cells (sta l) left l.length = C at *
 generalize hW3 : (((w.alloc (.cells (bv zD) 147)).alloc (.cells (bv zD) 147)).alloc (.cells zH 175)).setRow (w.heap.size + 1 + 1) C = w3 at *
 have HW3 := hide hW3
 clear hw hw2 hw3 hs3 h4 gp gq hcs hL hT h hC hW3 HCe
 go_enter Tryz.func107, Tryz.ntmps107
 go_wp2_with (first
  | (refine wpList_load_row rfl _ _ rfl p rfl _ C _ _ Gp.out huh rfl HsC ?_)
  | (refine wpList_store_row rfl _ _ _ rfl (w.heap.size + 1 + 1) C rfl rfl _ _ Gq.out HsC.out HzC.out HoC.out ?_; rw [HW3.out]))
 have hP := pad_any (w.heap.size + 1 + 1) l _ w3 H4.out (fun X hX => HT.out X hX.right.right.right) hlen
 refine hP.mono ?_
 clear hP
 rintro e w4 ⟨⟨u, rfl⟩, h4, hs4⟩
 obtain ⟨left2, hL2, h5⟩ := Sha.open h4
 have HPl := hide (show digest l = outS (sta (padded l)) from rfl)
 have Hpart : Hid (∀ j v, (stc (sta (padded l)))[j]? = some v → w4.cell? ⟨w.heap.size + 1 + 1, 0 + j, .none⟩ = some v) := hide (fun j v hj => by
  have hj8 : j < 8 := by
   have := (Array.getElem?_eq_some_iff.1 hj).1
   rwa [stc_size] at this
  rw [Nat.zero_add, cell_of_blk h5 j (cells_st _ left2 _ j hj8)]
  rw [← hj]
  unfold stc
  rw [wv_get _ j (List.getElem?_eq_getElem (by rw [list_len]; exact hj8))])
 have h6 : (blk (w.heap.size + 1) (.cells (bv (dL (sta (padded l)) 0)) 147 (0, 0)) * (blk w.heap.size (.cells (bv zD) 147 (0, 0)) * (Sha p l * F))).on w4 := h5.right
 have H6 := hide h6
 have HS6 := hide (HS3.out.trans hs4)
 have Hg8 : Hid ((Tryz.prog.info? 172).map (·.size) = some (stc (sta (padded l))).size) := hide (by kernel_rfl)
 clear h4 hs4 hL2 h5 h6 Gp Gq H4 HS3 HsC HzC HoC HW3 hzd hzh
 generalize sta (padded l) = st at *
 have HSt8 : Hid (∀ i, i < 8 → ∃ x, st.list[i]? = some x ∧ (stc st)[i]? = some (v64 x)) := hide fun i hi => ⟨_, List.getElem?_eq_getElem (by rw [list_len]; exact hi), wv_get _ _ (List.getElem?_eq_getElem (by rw [list_len]; exact hi))⟩
 generalize stc st = S8 at *
 go_wp2_with (refine wpList_load_part rfl _ _ rfl (w.heap.size + 1 + 1) 0 rfl S8 _ Hpart.out hu8 rfl Hg8.out ?_)
 clear Hpart Hg8
 go_loopw [17] (fun i wr => ∃ k : Nat, k ≤ 8 ∧ i = .int .i64 k ∧ (blk (w.heap.size + 1) (.cells (bv (dL st (8 * k))) 147 (0, 0)) * (blk w.heap.size (.cells (bv zD) 147 (0, 0)) * (Sha p l * F))).on wr ∧ Str w wr) (fun i _ => 8 - (intOf i).toNat)
 case atStart => exact ⟨0, Nat.zero_le _, rfl, H6.out, HS6.out⟩
 obtain ⟨k, hk, rfl, hw, hstr⟩ := hrel
 by_cases hlt : k < 8
 ·obtain ⟨x, hx, hx8⟩ := HSt8.out k hlt
  have hix := run_index_one (P := Tryz.prog) wr 172 50 8 S8 k (v64 x) .u64 hu8 Tryz.underlying50 (by kernel_rfl) hlt hx8
  have HX := hide hx
  have HW := hide hw
  have HS := hide hstr
  clear hx hx8 hw hstr H6 HS6
  go_wp2_with fail
  clear hix
  go_loopw [21] (fun i wr => ∃ j : Nat, j ≤ 8 ∧ i = .int .i64 j ∧ (blk (w.heap.size + 1) (.cells (bv (dL st (8 * k + j))) 147 (0, 0)) * (blk w.heap.size (.cells (bv zD) 147 (0, 0)) * (Sha p l * F))).on wr ∧ Str w wr) (fun i _ => 8 - (intOf i).toNat)
  case atStart => exact ⟨0, Nat.zero_le _, rfl, HW.out, HS.out⟩
  obtain ⟨j, hj, rfl, hw, hstr⟩ := hrel
  by_cases hjt : j < 8
  ·have hb := outS_get st k j x HX.out hjt
   have hm : 8 * k + j < 64 := by omega
   have cd := cell_of_blk hw (8 * k + j) (bv_get _ _ (dL_get st _ hm))
   have fr := frozen_of_row _ (w.heap.size + 1) (8 * k + j) _ _ (on_blk_mul hw)
   have h9 := hw.setCell (i := 8 * k + j) (vb (byteK x.toNat (56 - 8 * j)))
   rw [bv_set, dL_set st _ hm hb] at h9
   have H9 := hide h9
   have HSt := hide hstr
   clear hb h9 hw hstr HW HS hm
   go_wp2_with fail
   exact ⟨⟨j + 1, by omega, by simp, setCell_congr H9.out (congrArg (Value.int _) (by unfold byteK; simp [IntKind.wrap_u8])), HSt.out.setCell _ _⟩, by simp [intOf]; omega⟩
  obtain rfl : j = 8 := by omega
  have HW2 := hide hw
  have HS2 := hide hstr
  clear hw hstr HW HS
  go_wp2
  exact ⟨⟨k + 1, by omega, by simp, HW2.out, HS2.out⟩, by simp [intOf]; omega⟩
 obtain rfl : k = 8 := by omega
 rw [show 8 * 8 = 64 from rfl, dL_all, ← HPl.out] at hw
 have hd := on_blk_mul hw
 have hr := on_blk_mul hw.right
 have hdl := digest_len l
 have HsD : Hid ((Tryz.prog.info? 147).map (·.size) = some (bv (digest l)).size) := hide (by rw [bv_size, hdl]; kernel_rfl)
 have HzD : Hid ((bv zD).size = (bv (digest l)).size) := hide (by rw [bv_size, bv_size, hdl]; rfl)
 have HoD := hide (bv_one (digest l))
 have HW := hide ((hw.right.setRow (bv (digest l))).right)
 have HSt := hide hstr
 have Hd := hide hd
 have Hr := hide hr
 generalize hDg : bv (digest l) = Dg at *
 have HDg := hide hDg
 clear hw hstr hd hr hdl H6 HS6 hDg
 go_wp2_with (first
  | (refine wpList_load_row rfl _ _ rfl (w.heap.size + 1) rfl _ Dg _ _ Hd.out hud rfl HsD ?_)
  | (refine wpList_store_row rfl _ _ _ rfl w.heap.size Dg rfl rfl _ _ Hr.out HsD HzD HoD ?_))
 refine bodyPost_ret (v := .agg Dg) (results_cell_row Tryz.results107 _ _ w.heap.size _ Dg (0, 0) _ rfl (setRow_heap_same _ _ _ _ _ _ Hr.out) hud rfl HsD.out) rfl ?_
 exact ⟨congrArg (fun d => Ending.returned (.agg d)) HDg.out.symm, HW.out, HSt.out.setRow _ _⟩
theorem Tab.all {w X : World} (h : Tab w) (ha : (all w).on X) : Tab X :=
 ⟨fun i hi => all_cell ha (h.rounds i hi), fun i x hx => all_cell ha (h.first i x hx)⟩
theorem of_any (v : Value) (ls : List (List UInt8)) (w : World) (hr : IsRows w v ls) (hT : Tab w) (hlen : ls.flatten.length ≤ 1000000000) :
  Calls Tryz.prog 89 #[v] w fun e w' => e = .returned (.agg (bv (digest ls.flatten))) ∧ Below w.heap.size w w' := by
 have hzd : ∀ w, (zeroValue 147).run Tryz.prog w = .ok (.agg (bv zD)) w := fun w => by kernel_rfl
 have hud := Tryz.underlying147
 obtain ⟨a, c, vs, rfl, hc, hm, hlay, hvl, hin⟩ := hr
 unfold maxLen at hm
 have hN := new_any (w.alloc (.cells (bv zD) 147)) (hT.below ((Below.refl _ _).alloc (Nat.le_refl _) _))
 have HF : Hid (∀ X, (blk w.heap.size (.cells (bv zD) 147 (0, 0)) * all w).on X → Tab X) := hide fun X hX => hT.all hX.right
 have H0 := hide ((on_all w).alloc (.cells (bv zD) 147))
 have Hlay := hide hlay
 have Hvl := hide hvl
 have Hin := hide hin
 have Hlen := hide hlen
 clear hlay hvl hin hlen hT
 go_enter Tryz.func89, Tryz.ntmps89
 go_wp2_with fail
 refine hN.mono ?_
 clear hN
 rintro e w1 ⟨v1, rfl, ho, hs⟩
 obtain ⟨p, ho⟩ := on_ex_mul.1 ho
 rw [SP.mul_assoc] at ho
 obtain ⟨rfl, ho2⟩ := on_pure_mul.1 ho
 have H1 := hide (on_all_to ho2 H0.out)
 have HS1 := hide (((Str.refl w).alloc (.cells (bv zD) 147)).trans hs)
 clear ho ho2 hs
 go_wp2_with fail
 go_loopw [9] (fun i wr => ∃ k : Nat, k ≤ ls.length ∧ i = .int .i64 k ∧ (Sha p (ls.take k).flatten * (blk w.heap.size (.cells (bv zD) 147 (0, 0)) * all w)).on wr ∧ Str w wr) (fun i _ => ls.length - (intOf i).toNat)
 case atStart => exact ⟨0, Nat.zero_le _, rfl, H1.out, HS1.out⟩
 obtain ⟨k, hk, rfl, hw, hstr⟩ := hrel
 by_cases hlt : k < ls.length
 ·have hvk : k < vs.length := by rw [Hvl.out]; exact hlt
  have hbk := Hin.out k vs[k] ls[k] (List.getElem?_eq_getElem hvk) (List.getElem?_eq_getElem hlt)
  obtain ⟨bg, bo, e1, cv0⟩ := Hlay.out k vs[k] (List.getElem?_eq_getElem hvk)
  subst e1
  have cv := all_cell hw.right.right cv0
  have HN := hide (show (ls.take (k + 1)).flatten = (ls.take k).flatten ++ ls[k] by rw [List.take_succ_eq_append_getElem hlt, List.flatten_append]; simp)
  have hfl : ((ls.take k).flatten).length + ls[k].length ≤ ls.flatten.length := by
   have e9 : ls.flatten = (ls.take (k + 1)).flatten ++ (ls.drop (k + 1)).flatten := by rw [← List.flatten_append, List.take_append_drop]
   rw [e9, HN.out]
   simp only [List.length_append]
   omega
  have hW := write_any p (ls.take k).flatten vs[k] ls[k] _ wr hw HF.out (fun X hX => hbk.all hX.right) (by have := Hlen.out; omega)
  have HSt := hide hstr
  obtain ⟨ba, bc, hbe, _⟩ := hbk
  rw [hbe] at hW cv
  clear hw hstr hfl hbe cv0 H1 HS1
  generalize ls[k].length = nk at *
  go_wp2_with fail
  refine hW.mono ?_
  clear hW cv
  rintro e w2 ⟨⟨u, rfl⟩, hw2, hs2⟩
  rw [← HN.out] at hw2
  have HW2 := hide hw2
  have HS2 := hide (HSt.out.trans hs2)
  clear hw2 hs2
  go_wp2
  exact ⟨⟨k + 1, by omega, by simp, HW2.out, HS2.out⟩, by simp [intOf]; omega⟩
 obtain rfl : k = ls.length := by omega
 rw [List.take_length] at hw
 have hS := sum_any p _ _ wr hw HF.out Hlen.out
 have HSt := hide hstr
 clear hw hstr H1 HS1
 go_wp2_with fail
 refine hS.mono ?_
 clear hS
 rintro e w2 ⟨rfl, hw2, hs2⟩
 have hdl := digest_len ls.flatten
 have Hr := hide (on_blk_mul hw2.right)
 have HW := hide ((hw2.right.setRow (bv (digest ls.flatten))).right)
 have HS2 := hide (HSt.out.trans hs2)
 have HsD : Hid ((Tryz.prog.info? 147).map (·.size) = some (bv (digest ls.flatten)).size) := hide (by rw [bv_size, hdl]; kernel_rfl)
 have HzD : Hid ((bv zD).size = (bv (digest ls.flatten)).size) := hide (by rw [bv_size, bv_size, hdl]; rfl)
 have HoD := hide (bv_one (digest ls.flatten))
 generalize hDg : bv (digest ls.flatten) = Dg at *
 have HDg := hide hDg
 clear hw2 hs2 hdl hDg
 go_wp2_with (refine wpList_store_row rfl _ _ _ rfl w.heap.size Dg rfl rfl _ _ Hr.out HsD HzD HoD ?_)
 refine bodyPost_ret (v := .agg Dg) (results_cell_row Tryz.results89 _ _ w.heap.size _ Dg (0, 0) _ rfl (setRow_heap_same _ _ _ _ _ _ Hr.out) hud rfl HsD.out) rfl ?_
 exact ⟨congrArg (fun d => Ending.returned (.agg d)) HDg.out.symm, all_below HW.out (HS2.out.setRow _ _)⟩
def zsK : List Int := KL.map fun x => ((x.toNat : Nat) : Int)
def zsH : List Int := H0.list.map fun x => ((x.toNat : Nat) : Int)
theorem tab_of_laid {W : World} (hL : laidMetH Tryz.prog [("bosun/longsum.first", Rows.laid_bosun_longsum_first), ("bosun/longsum.rounds", Rows.laid_bosun_longsum_rounds)] W) : Tab W := by
 rw [MakeChecks.laidMetH_plain _ _ _ (by kernel_rfl)] at hL
 have e1 : (Rows.laid_bosun_longsum_first : DataW Unit) = Lib.tabData .u64 zsH := by kernel_rfl
 have e2 : (Rows.laid_bosun_longsum_rounds : DataW Unit) = Lib.tabData .u64 zsK := by kernel_rfl
 have h2 : laidMet Tryz.prog [("bosun/longsum.rounds", Rows.laid_bosun_longsum_rounds)] W := laidMet.filter (fun x => x.1 == "bosun/longsum.rounds") hL
 rw [e1] at hL
 rw [e2] at h2
 have t1 := Lib.tabIs_of_head (g := 10) (t := 172) (e := 50) (n := 8) (by kernel_rfl) (by kernel_rfl) Tryz.underlying172 Tryz.underlying50 (by kernel_rfl) (by kernel_rfl) hL
 have t2 := Lib.tabIs_of_head (g := 11) (t := 179) (e := 50) (n := 80) (by kernel_rfl) (by kernel_rfl) Tryz.underlying179 Tryz.underlying50 (by kernel_rfl) (by kernel_rfl) h2
 constructor
 ·intro i hi
  have hl : KL.length = 80 := by decide
  have := t2.cell (g := 11) (by kernel_rfl) i (by unfold zsK; rw [List.length_map, hl]; exact hi)
  rw [this]
  unfold zsK K
  rw [List.getD_eq_getElem?_getD, List.getElem?_map, List.getD_eq_getElem?_getD, List.getElem?_eq_getElem (by rw [hl]; exact hi)]
  rfl
 intro i x hx
 have hi := (List.getElem?_eq_some_iff.1 hx).1
 have := t1.cell (g := 10) (by kernel_rfl) i (by unfold zsH; rw [List.length_map]; exact hi)
 rw [this]
 unfold zsH
 rw [List.getD_eq_getElem?_getD, List.getElem?_map, hx]
 rfl
end Sha64
end Go.Proofs.YtjdebgbiockafaaGreatDoor
