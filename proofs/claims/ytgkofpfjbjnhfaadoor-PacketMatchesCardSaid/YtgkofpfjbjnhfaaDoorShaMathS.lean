/- SHA-2 on words of 32 bits, as a function of lists. No call is spoken of. -/
import Derived.Test.YtgkofpfjbjnhfaaDoorWords
namespace Go.Proofs.YtgkofpfjbjnhfaaDoor
namespace Sha32
set_option linter.unusedVariables false

def rotr (x : UInt32) (n : Nat) : UInt32 := (x <<< UInt32.ofNat (32 - n)) ||| (x >>> UInt32.ofNat n)
def KL : List UInt32 := [1116352408, 1899447441, 3049323471, 3921009573, 961987163, 1508970993, 2453635748, 2870763221, 3624381080, 310598401, 607225278, 1426881987, 1925078388, 2162078206, 2614888103, 3248222580, 3835390401, 4022224774, 264347078, 604807628, 770255983, 1249150122, 1555081692, 1996064986, 2554220882, 2821834349, 2952996808, 3210313671, 3336571891, 3584528711, 113926993, 338241895, 666307205, 773529912, 1294757372, 1396182291, 1695183700, 1986661051, 2177026350, 2456956037, 2730485921, 2820302411, 3259730800, 3345764771, 3516065817, 3600352804, 4094571909, 275423344, 430227734, 506948616, 659060556, 883997877, 958139571, 1322822218, 1537002063, 1747873779, 1955562222, 2024104815, 2227730452, 2361852424, 2428436474, 2756734187, 3204031479, 3329325298]
def K (i : Nat) : UInt32 := KL.getD i 0
structure St where
  a : UInt32
  b : UInt32
  c : UInt32
  d : UInt32
  e : UInt32
  f : UInt32
  g : UInt32
  h : UInt32
def H0 : St := ⟨1779033703, 3144134277, 1013904242, 2773480762, 1359893119, 2600822924, 528734635, 1541459225⟩
def St.list (s : St) : List UInt32 := [s.a, s.b, s.c, s.d, s.e, s.f, s.g, s.h]
def small0 (x : UInt32) : UInt32 := (rotr x 7 ^^^ rotr x 18) ^^^ (x >>> 3)
def small1 (x : UInt32) : UInt32 := (rotr x 17 ^^^ rotr x 19) ^^^ (x >>> 10)
def big1 (x : UInt32) : UInt32 := (rotr x 6 ^^^ rotr x 11) ^^^ rotr x 25
def big0 (x : UInt32) : UInt32 := (rotr x 2 ^^^ rotr x 13) ^^^ rotr x 22
def pOf (s : St) (k w : UInt32) : UInt32 := (((s.h + big1 s.e) + ((s.e &&& s.f) ^^^ (~~~s.e &&& s.g))) + k) + w
def qOf (s : St) : UInt32 := big0 s.a + (((s.a &&& s.b) ^^^ (s.a &&& s.c)) ^^^ (s.b &&& s.c))
def rnd (s : St) (k w : UInt32) : St := ⟨pOf s k w + qOf s, s.a, s.b, s.c, s.d + pOf s k w, s.e, s.f, s.g⟩
def runR (s : St) (w : List UInt32) : Nat → St
  | 0 => s
  | i + 1 => rnd (runR s w i) (K i) (w.getD i 0)
/-- so many bytes of a word, the highest first -/
def wordN (l : List UInt8) (at' : Nat) : Nat → UInt32
  | 0 => 0
  | k + 1 => (wordN l at' k <<< 8) ||| (l.getD (at' + k) 0).toUInt32
def nextW (w : List UInt32) (i : Nat) : UInt32 := ((w.getD (i - 16) 0 + small0 (w.getD (i - 15) 0)) + w.getD (i - 7) 0) + small1 (w.getD (i - 2) 0)
def sched (m : List UInt8) : Nat → List UInt32
  | 0 => []
  | i + 1 => sched m i ++ [if i < 16 then wordN m (4 * i) 4 else nextW (sched m i) i]
theorem sched_len (m : List UInt8) : ∀ n, (sched m n).length = n
  | 0 => rfl
  | n + 1 => by simp [sched, sched_len m n]
def addS (s t : St) : St := ⟨s.a + t.a, s.b + t.b, s.c + t.c, s.d + t.d, s.e + t.e, s.f + t.f, s.g + t.g, s.h + t.h⟩
def compress (s : St) (m : List UInt8) : St := addS s (runR s (sched m 64) 64)
/-- the state behind so many whole blocks -/
def stK (l : List UInt8) : Nat → St
  | 0 => H0
  | k + 1 => compress (stK l k) ((l.drop (64 * k)).take 64)
theorem stK_append (l m : List UInt8) : ∀ k, 64 * k ≤ l.length → stK (l ++ m) k = stK l k
  | 0, _ => rfl
  | k + 1, h => by
    simp only [stK]
    rw [stK_append l m k (by omega), List.drop_append_of_le_length (by omega), List.take_append_of_le_length (by rw [List.length_drop]; omega)]
def byteK (n : Nat) (sh : Nat) : UInt8 := UInt8.ofNat (n / 2 ^ sh % 256)
/-- the length in bits, as 8 bytes, the highest first -/
def lenB (n : Nat) : Nat → List UInt8
  | 0 => []
  | i + 1 => lenB n i ++ [byteK n (56 - 8 * i)]
def padZ (n : Nat) : Nat := (56 - 1 + 64 - n % 64) % 64
def padded (l : List UInt8) : List UInt8 := (l ++ [128] ++ List.replicate (padZ l.length) 0) ++ lenB (8 * l.length) 8
theorem lenB_len (n : Nat) : ∀ k, (lenB n k).length = k
  | 0 => rfl
  | k + 1 => by simp [lenB, lenB_len n k]
theorem padded_mod (l : List UInt8) : (padded l).length % 64 = 0 := by
  simp only [padded, padZ, List.length_append, List.length_replicate, lenB_len, List.length_cons, List.length_nil]
  omega
def outW (x : UInt32) : Nat → List UInt8
  | 0 => []
  | j + 1 => outW x j ++ [byteK x.toNat (24 - 8 * j)]
def outS (s : St) : List UInt8 := outW s.a 4 ++ outW s.b 4 ++ outW s.c 4 ++ outW s.d 4 ++ outW s.e 4 ++ outW s.f 4 ++ outW s.g 4 ++ outW s.h 4
def digest (l : List UInt8) : List UInt8 := outS (stK (padded l) ((padded l).length / 64))
theorem outW_len (x : UInt32) : ∀ k, (outW x k).length = k
  | 0 => rfl
  | k + 1 => by simp [outW, outW_len x k]
theorem outS_len (s : St) : (outS s).length = 32 := by simp [outS, outW_len]
theorem digest_len (l : List UInt8) : (digest l).length = 32 := outS_len _
end Sha32
end Go.Proofs.YtgkofpfjbjnhfaaDoor
