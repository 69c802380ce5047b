/- SHA-2 on words of 64 bits, as a function of lists. No call is spoken of. -/
import Derived.Test.YtbplbdnofobbiaaDoorWords
set_option linter.unusedVariables false
set_option linter.unusedSimpArgs false
set_option maxRecDepth 100000
set_option maxHeartbeats 8000000
namespace Go.Proofs.YtbplbdnofobbiaaDoor
namespace Sha64
def rotr (x : UInt64) (n : Nat) : UInt64 := (x <<< UInt64.ofNat (64 - n)) ||| (x >>> UInt64.ofNat n)
def KL : List UInt64 := [4794697086780616226, 8158064640168781261, 13096744586834688815, 16840607885511220156, 4131703408338449720, 6480981068601479193, 10538285296894168987, 12329834152419229976, 15566598209576043074, 1334009975649890238, 2608012711638119052, 6128411473006802146, 8268148722764581231, 9286055187155687089, 11230858885718282805, 13951009754708518548, 16472876342353939154, 17275323862435702243, 1135362057144423861, 2597628984639134821, 3308224258029322869, 5365058923640841347, 6679025012923562964, 8573033837759648693, 10970295158949994411, 12119686244451234320, 12683024718118986047, 13788192230050041572, 14330467153632333762, 15395433587784984357, 489312712824947311, 1452737877330783856, 2861767655752347644, 3322285676063803686, 5560940570517711597, 5996557281743188959, 7280758554555802590, 8532644243296465576, 9350256976987008742, 10552545826968843579, 11727347734174303076, 12113106623233404929, 14000437183269869457, 14369950271660146224, 15101387698204529176, 15463397548674623760, 17586052441742319658, 1182934255886127544, 1847814050463011016, 2177327727835720531, 2830643537854262169, 3796741975233480872, 4115178125766777443, 5681478168544905931, 6601373596472566643, 7507060721942968483, 8399075790359081724, 8693463985226723168, 9568029438360202098, 10144078919501101548, 10430055236837252648, 11840083180663258601, 13761210420658862357, 14299343276471374635, 14566680578165727644, 15097957966210449927, 16922976911328602910, 17689382322260857208, 500013540394364858, 748580250866718886, 1242879168328830382, 1977374033974150939, 2944078676154940804, 3659926193048069267, 4368137639120453308, 4836135668995329356, 5532061633213252278, 6448918945643986474, 6902733635092675308, 7801388544844847127]
def K (i : Nat) : UInt64 := KL.getD i 0
structure St where
 a : UInt64
 b : UInt64
 c : UInt64
 d : UInt64
 e : UInt64
 f : UInt64
 g : UInt64
 h : UInt64
def H0 : St := ⟨7640891576956012808, 13503953896175478587, 4354685564936845355, 11912009170470909681, 5840696475078001361, 11170449401992604703, 2270897969802886507, 6620516959819538809⟩
def St.list (s : St) : List UInt64 := [s.a, s.b, s.c, s.d, s.e, s.f, s.g, s.h]
def small0 (x : UInt64) : UInt64 := (rotr x 1 ^^^ rotr x 8) ^^^ (x >>> 7)
def small1 (x : UInt64) : UInt64 := (rotr x 19 ^^^ rotr x 61) ^^^ (x >>> 6)
def big1 (x : UInt64) : UInt64 := (rotr x 14 ^^^ rotr x 18) ^^^ rotr x 41
def big0 (x : UInt64) : UInt64 := (rotr x 28 ^^^ rotr x 34) ^^^ rotr x 39
def pOf (s : St) (k w : UInt64) : UInt64 := (((s.h + big1 s.e) + ((s.e &&& s.f) ^^^ (~~~s.e &&& s.g))) + k) + w
def qOf (s : St) : UInt64 := big0 s.a + (((s.a &&& s.b) ^^^ (s.a &&& s.c)) ^^^ (s.b &&& s.c))
def rnd (s : St) (k w : UInt64) : St := ⟨pOf s k w + qOf s, s.a, s.b, s.c, s.d + pOf s k w, s.e, s.f, s.g⟩
def runR (s : St) (w : List UInt64) : Nat → St
 | 0 => s
 | i + 1 => rnd (runR s w i) (K i) (w.getD i 0)
def wordN (l : List UInt8) (at' : Nat) : Nat → UInt64
 | 0 => 0
 | k + 1 => (wordN l at' k <<< 8) ||| (l.getD (at' + k) 0).toUInt64
def nextW (w : List UInt64) (i : Nat) : UInt64 := ((w.getD (i - 16) 0 + small0 (w.getD (i - 15) 0)) + w.getD (i - 7) 0) + small1 (w.getD (i - 2) 0)
def sched (m : List UInt8) : Nat → List UInt64
 | 0 => []
 | i + 1 => sched m i ++ [if i < 16 then wordN m (8 * i) 8 else nextW (sched m i) i]
theorem sched_len (m : List UInt8) : ∀ n, (sched m n).length = n
 | 0 => rfl
 | n + 1 => by simp [sched, sched_len m n]
def addS (s t : St) : St := ⟨s.a + t.a, s.b + t.b, s.c + t.c, s.d + t.d, s.e + t.e, s.f + t.f, s.g + t.g, s.h + t.h⟩
def compress (s : St) (m : List UInt8) : St := addS s (runR s (sched m 80) 80)
def stK (l : List UInt8) : Nat → St
 | 0 => H0
 | k + 1 => compress (stK l k) ((l.drop (128 * k)).take 128)
theorem stK_append (l m : List UInt8) : ∀ k, 128 * k ≤ l.length → stK (l ++ m) k = stK l k
 | 0, _ => rfl
 | k + 1, h => by
  simp only [stK]
  rw [stK_append l m k (by omega), List.drop_append_of_le_length (by omega), List.take_append_of_le_length (by rw [List.length_drop]; omega)]
def byteK (n : Nat) (sh : Nat) : UInt8 := UInt8.ofNat (n / 2 ^ sh % 256)
def lenB (n : Nat) : Nat → List UInt8
 | 0 => []
 | i + 1 => lenB n i ++ [byteK n (120 - 8 * i)]
def padZ (n : Nat) : Nat := (112 - 1 + 128 - n % 128) % 128
def padded (l : List UInt8) : List UInt8 := (l ++ [128] ++ List.replicate (padZ l.length) 0) ++ lenB (8 * l.length) 16
theorem lenB_len (n : Nat) : ∀ k, (lenB n k).length = k
 | 0 => rfl
 | k + 1 => by simp [lenB, lenB_len n k]
theorem padded_mod (l : List UInt8) : (padded l).length % 128 = 0 := by
 simp only [padded, padZ, List.length_append, List.length_replicate, lenB_len, List.length_cons, List.length_nil]
 omega
def outW (x : UInt64) : Nat → List UInt8
 | 0 => []
 | j + 1 => outW x j ++ [byteK x.toNat (56 - 8 * j)]
def outS (s : St) : List UInt8 := outW s.a 8 ++ outW s.b 8 ++ outW s.c 8 ++ outW s.d 8 ++ outW s.e 8 ++ outW s.f 8 ++ outW s.g 8 ++ outW s.h 8
def digest (l : List UInt8) : List UInt8 := outS (stK (padded l) ((padded l).length / 128))
theorem outW_len (x : UInt64) : ∀ k, (outW x k).length = k
 | 0 => rfl
 | k + 1 => by simp [outW, outW_len x k]
theorem outS_len (s : St) : (outS s).length = 64 := by simp [outS, outW_len]
theorem digest_len (l : List UInt8) : (digest l).length = 64 := outS_len _
end Sha64
end Go.Proofs.YtbplbdnofobbiaaDoor
