/- Signatures: which bytes are one, and how one is made. No Go function is spoken of here. -/
import Derived.Test.YtbplbdnofobbiaaDoorGEd
import Derived.Test.YtbplbdnofobbiaaDoorShaMathL
set_option linter.unusedVariables false
set_option linter.unusedSimpArgs false
set_option maxRecDepth 100000
set_option maxHeartbeats 8000000
namespace Go.Proofs.YtbplbdnofobbiaaDoor
namespace Sg
open Fe
def chalN (l : List UInt8) : Nat := leN (Sha64.digest l) % O6
def verB (key sig m : List UInt8) : Bool := Ed.verify key (sig.take 32) (sig.drop 32) (chalN (sig.take 32 ++ key ++ m))
def clampL (h : List UInt8) : List UInt8 := (h.set 0 (h.getD 0 0 &&& 248)).set 31 ((h.getD 31 0 &&& 63) + 64)
def secN (s : List UInt8) : Nat := leN ((clampL (Sha64.digest s)).take 32)
def secR (s : List UInt8) : List UInt8 := (Sha64.digest s).drop 32
def pubP (s : List UInt8) : Ed.Pt := Ed.Pt.base.mul (secN s)
def pubB (s : List UInt8) : List UInt8 := Ed.enc (pubP s)
def rN (s m : List UInt8) : Nat := chalN (secR s ++ m)
def sigP (s m : List UInt8) : Ed.Pt := Ed.Pt.base.mul (rN s m)
def sigK (s m : List UInt8) : Nat := chalN (Ed.enc (sigP s m) ++ pubB s ++ m)
def sigT (s m : List UInt8) : Nat := (rN s m + sigK s m * (secN s % O6) % O6) % O6
def sigB (s m : List UInt8) : List UInt8 := Ed.enc (sigP s m) ++ bl (sigT s m)
theorem O6_pos : 0 < O6 := by decide
theorem O6_32 : O6 < 256 ^ 32 := by decide +kernel
theorem chalN_lt (l : List UInt8) : chalN l < O6 := Nat.mod_lt _ O6_pos
theorem rN_lt (s m : List UInt8) : rN s m < O6 := chalN_lt _
theorem sigT_lt (s m : List UInt8) : sigT s m < O6 := Nat.mod_lt _ O6_pos
theorem sigB_len (s m : List UInt8) : (sigB s m).length = 64 := by unfold sigB; rw [List.length_append, Ed.enc_len, bl_len]
theorem clampL_len (h : List UInt8) : (clampL h).length = h.length := by simp [clampL]
theorem secN_lt (s : List UInt8) : secN s < 256 ^ 32 := by
 have h := leN_lt ((clampL (Sha64.digest s)).take 32)
 have e : ((clampL (Sha64.digest s)).take 32).length = 32 := by rw [List.length_take, clampL_len, Sha64.digest_len]; rfl
 rw [e] at h
 exact h
theorem secR_len (s : List UInt8) : (secR s).length = 32 := by unfold secR; rw [List.length_drop, Sha64.digest_len]
theorem sigB_take (s m : List UInt8) : (sigB s m).take 32 = Ed.enc (sigP s m) := by
 unfold sigB
 have h := Ed.enc_len (sigP s m)
 rw [List.take_append_of_le_length (by omega), List.take_of_length_le (by omega)]
theorem sigB_drop (s m : List UInt8) : (sigB s m).drop 32 = bl (sigT s m) := by
 unfold sigB
 have h := Ed.enc_len (sigP s m)
 rw [List.drop_append_of_le_length (by omega), List.drop_of_length_le (by omega), List.nil_append]
theorem signed_ok (s m : List UInt8) : verB (pubB s) (sigB s m) m = true := by
 unfold verB
 rw [sigB_take, sigB_drop]
 exact Ed.verify_signed (secN s) (rN s m) (sigK s m)
theorem added_no (s m t : List UInt8) (ht : leN t = sigT s m + O6) : verB (pubB s) (Ed.enc (sigP s m) ++ t) m = false := by
 have h := Ed.enc_len (sigP s m)
 unfold verB Ed.verify
 rw [List.take_append_of_le_length (by omega), List.take_of_length_le (by omega), List.drop_append_of_le_length (by omega), List.drop_of_length_le (by omega), List.nil_append]
 rw [show pubB s = Ed.enc (pubP s) from rfl, Ed.dec_enc, Ed.dec_enc]
 dsimp only
 rw [ht, decide_eq_false (by omega), Bool.false_and]
def kKey : List UInt8 := [215, 90, 152, 1, 130, 177, 10, 183, 213, 75, 254, 211, 201, 100, 7, 58, 14, 225, 114, 243, 218, 166, 35, 37, 175, 2, 26, 104, 247, 7, 81, 26]
def kSig : List UInt8 := [229, 86, 67, 0, 195, 96, 172, 114, 144, 134, 226, 204, 128, 110, 130, 138, 132, 135, 127, 30, 184, 229, 217, 116, 216, 115, 224, 101, 34, 73, 1, 85, 95, 184, 130, 21, 144, 163, 59, 172, 198, 30, 57, 112, 28, 249, 180, 107, 210, 91, 245, 240, 89, 91, 190, 36, 101, 81, 65, 67, 142, 122, 16, 11]
def kAx : Nat := 38815646466658113194383306759739515082307681141926459231621296960732224964046
def kAy : Nat := 11903303657706407974989296177215005343713679411332034699907763981919547054807
def kRx : Nat := 44370630452101398467924320556439323233869374150616132215183787387252341590058
def kRy : Nat := 38448863731492799660668882834560725606410712239157980760146247592118262650597
theorem kA_on : Ed.On (Ed.el kAx) (Ed.el kAy) := by unfold Ed.On; decide +kernel
theorem kR_on : Ed.On (Ed.el kRx) (Ed.el kRy) := by unfold Ed.On; decide +kernel
def kA : Ed.Pt := ⟨Ed.el kAx, Ed.el kAy, kA_on⟩
def kR : Ed.Pt := ⟨Ed.el kRx, Ed.el kRy, kR_on⟩
theorem kA_x : kA.x.val = kAx := Ed.el_val _ (by decide)
theorem kA_y : kA.y.val = kAy := Ed.el_val _ (by decide)
theorem kR_x : kR.x.val = kRx := Ed.el_val _ (by decide)
theorem kR_y : kR.y.val = kRy := Ed.el_val _ (by decide)
theorem kA_enc : Ed.enc kA = kKey := by
 unfold Ed.enc
 rw [kA_x, kA_y]
 decide +kernel
theorem kR_enc : Ed.enc kR = kSig.take 32 := by
 unfold Ed.enc
 rw [kR_x, kR_y]
 decide +kernel
def kHolds (s k : Nat) : Bool := Ed.nSame (Ed.nTimes (Ed.nPt Ed.bxN Ed.byN) s 256) (Ed.nAdd (Ed.nPt kRx kRy) (Ed.nTimes (Ed.nPt kAx kAy) k 256))
theorem kVer (sig m : List UInt8) (hs : sig.take 32 = kSig.take 32) (s k : Nat) (h1 : leN (sig.drop 32) = s) (h2 : chalN (kSig.take 32 ++ kKey ++ m) = k) (hs2 : s < O6) : verB kKey sig m = kHolds s k := by
 have h3 : O6 < 2 ^ 256 := by decide +kernel
 have h4 := chalN_lt (kSig.take 32 ++ kKey ++ m)
 rw [h2] at h4
 unfold verB
 rw [hs, h2]
 unfold Ed.verify
 rw [← kR_enc, ← kA_enc, Ed.dec_enc, Ed.dec_enc]
 dsimp only
 rw [h1, decide_eq_true hs2, Bool.true_and, Ed.holds_nat kA kR s k (by omega) (by omega), kA_x, kA_y, kR_x, kR_y]
 rfl
def k0 : Nat := 1958233733501237659471134851339390337284068724042047466985993338226439154310
def k1 : Nat := 5739917060239399386628100714654249777605879736788356462454918389142766655041
def s0 : Nat := 5004556735901913393272427758925840403246877222315506387332009764265656498271
def s1 : Nat := 5004556735901913393272427758925840403246877222315506387258222787970818291807
theorem k0_is : chalN (kSig.take 32 ++ kKey ++ []) = k0 := by decide +kernel
theorem k1_is : chalN (kSig.take 32 ++ kKey ++ [0]) = k1 := by decide +kernel
def kBad : List UInt8 := kSig.set 40 194
theorem known_ok : verB kKey kSig [] = true := by
 rw [kVer kSig [] rfl s0 k0 (by decide +kernel) k0_is (by decide +kernel)]
 decide +kernel
theorem known_bad : verB kKey kBad [] = false := by
 rw [kVer kBad [] (by decide +kernel) s1 k0 (by decide +kernel) k0_is (by decide +kernel)]
 decide +kernel
theorem known_more : verB kKey kSig [0] = false := by
 rw [kVer kSig [0] rfl s0 k1 (by decide +kernel) k1_is (by decide +kernel)]
 decide +kernel
end Sg
end Go.Proofs.YtbplbdnofobbiaaDoor
