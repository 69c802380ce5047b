/- The law UploaderActs: its acts as arguments; what both have sent, in whatever order. -/
import Derived.Test.YtjmgnfpcieofkaaUB4
import Derived.Test.YtjmgnfpcieofkaaUA8
import Derived.Test.YtjmgnfpcieofkaaUA9
import Derived.Test.YtjmgnfpcieofkaaRowsOpen
import Derived.Test.YtjmgnfpcieofkaaGBase2
import Derived.Test.YtjmgnfpcieofkaaUploaderNil
import Derived.Test.YtjmgnfpcieofkaaAllOn
namespace Go.Proofs.Ytjmgnfpcieofkaa
open Go.ChangeShapes Go.WideShapes Go.ChangeAt Go.RowKit
set_option linter.unusedVariables false
set_option linter.unusedSimpArgs false

structure AcU where
  kind : UInt8
  op : UInt8
  res : UInt8
  n : Int
  data : List UInt8
  dv : Value
def auC (y : AcU) : Array Value := #[vb y.kind, vb y.op, vb y.res, .int .i64 y.n, y.dv]
structure AcU.Good (w : World) (y : AcU) : Prop where
  n1 : -9223372036854775808 ≤ y.n
  n2 : y.n ≤ 9223372036854775807
  data : IsBytes w y.dv y.data
abbrev zeroAU : AcU := ⟨0, 0, 0, 0, [], nilV⟩
theorem au_hz (X : World) : (zeroValue 86).run Try.prog X = .ok (.agg (auC zeroAU)) X := by kernel_rfl
theorem au_one (k o r : UInt8) (n : Int) (d : List UInt8) (a : Option Addr) (m c : Nat) : (auC ⟨k, o, r, n, d, .slice a m c⟩).all Value.oneCell' = true := by simp [auC, Value.oneCell']
theorem au_info (y : AcU) : (Try.prog.info? 86).map (·.size) = some (auC y).size := by
  show _ = some 5
  kernel_rfl
section
variable {H : Type} {enc : TypeId × Value → H} {w : World} {base : Nat} {spare : Nat → Bool} {held : Bool}
set_option maxRecDepth 100000 in
theorem each_actU (fuel : Nat) (cs : List Value) (x : DataW H × List MemPlace) (h : DataW.trod enc Try.prog w base spare held fuel 86 cs = some x) : ∃ y : AcU, cs = (auC y).toList ∧ y.Good w ∧ 0 < (auC y).size := by
  have hu := Try.underlying86
  have h8 := Try.underlying5
  have hs8 := Try.underlying33
  have hi := Try.underlying3
  have c8 : Try.prog.cellsOf 5 = 1 := by kernel_rfl
  have cs8 : Try.prog.cellsOf 33 = 1 := by kernel_rfl
  have ci : Try.prog.cellsOf 3 = 1 := by kernel_rfl
  have c5 : Try.prog.cellsOf 86 = 5 := by kernel_rfl
  obtain ⟨xs, n, rfl, _, hl, hxl, hfs⟩ := DataW.trod_struct hu h
  rw [c5] at hl
  match xs, hxl with
  | [x0, x1, x2, x3, x4], _ =>
    have g0 := hfs 0 _ rfl
    have g1 := hfs 1 _ rfl
    have g2 := hfs 2 _ rfl
    have g3 := hfs 3 _ rfl
    have g4 := hfs 4 _ rfl
    obtain ⟨n0, e0⟩ := trod_b8 h8 g0
    obtain ⟨n1, e1⟩ := trod_b8 h8 g1
    obtain ⟨n2, e2⟩ := trod_b8 h8 g2
    obtain ⟨n3, b1, b1', e3⟩ := trod_i64 hi g3
    obtain ⟨dv, d, e4, hb, _⟩ := trod_bytes hs8 h8 c8 g4
    refine ⟨⟨n0, n1, n2, n3, d, dv⟩, ?_, ⟨b1, b1', hb⟩, by show 0 < 5; omega⟩
    clear g0 g1 g2 g3 g4 hfs h
    match cs, hl with
    | [y0, y1, y2, y3, y4], _ =>
      change List.take (Try.prog.cellsOf 5) ([y0, y1, y2, y3, y4].drop 0) = _ at e0
      rw [c8] at e0
      change List.take (Try.prog.cellsOf 5) ([y0, y1, y2, y3, y4].drop 1) = _ at e1
      rw [c8] at e1
      change List.take (Try.prog.cellsOf 5) ([y0, y1, y2, y3, y4].drop 2) = _ at e2
      rw [c8] at e2
      change List.take (Try.prog.cellsOf 3) ([y0, y1, y2, y3, y4].drop 3) = _ at e3
      rw [ci] at e3
      change List.take (Try.prog.cellsOf 33) ([y0, y1, y2, y3, y4].drop 4) = _ at e4
      rw [cs8] at e4
      simp at e0 e1 e2 e3 e4
      subst e0 e1 e2 e3 e4
      rfl
end
/-- what both have sent, as far as they have -/
def SendI (U0 U1 M0 M1 : SP) (O : List UInt8) (G : SP) (w : World) (f1 f4 : Bool) (v1 v4 : Value) (X : World) : Prop :=
  ((if f1 = true then ownR v1 O * U1 else U0) * ((if f4 = true then ownR v4 O * M1 else M0) * G)).on X ∧ Str w X
section
variable {U0 U1 M0 M1 G : SP} {O : List UInt8} {w X Y : World} {f1 f4 : Bool} {v1 v4 : Value}
theorem SendI.stay (h : SendI U0 U1 M0 M1 O G w f1 f4 v1 v4 X) (k : Stay X Y) : SendI U0 U1 M0 M1 O G w f1 f4 v1 v4 Y := ⟨h.1.below k, h.2.trans (Str.below k)⟩
theorem SendI.same {v1' v4' : Value} (h1 : f1 = true → v1 = v1') (h4 : f4 = true → v4 = v4') (h : SendI U0 U1 M0 M1 O G w f1 f4 v1 v4 X) : SendI U0 U1 M0 M1 O G w f1 f4 v1' v4' X := by
  cases f1 <;> cases f4
  · exact h
  · rw [← h4 rfl]; exact h
  · rw [← h1 rfl]; exact h
  · rw [← h1 rfl, ← h4 rfl]; exact h
theorem SendI.one (h : SendI U0 U1 M0 M1 O G w false false v1 v4 X) : (U0 * (M0 * G)).on X ∧ ∀ v Y, (ownR v O * (U1 * (M0 * G))).on Y → Str X Y → SendI U0 U1 M0 M1 O G w true false v v4 Y :=
  ⟨by have h1 := h.1; rw [if_neg (by decide), if_neg (by decide)] at h1; exact h1, fun v Y hY hs => ⟨by rw [if_pos rfl, if_neg (by decide), SP.mul_assoc]; exact hY, h.2.trans hs⟩⟩
theorem SendI.two (h : SendI U0 U1 M0 M1 O G w true false v1 v4 X) : (M0 * (ownR v1 O * (U1 * G))).on X ∧ ∀ v Y, (ownR v O * (M1 * (ownR v1 O * (U1 * G)))).on Y → Str X Y → SendI U0 U1 M0 M1 O G w true true v1 v Y :=
  ⟨by have h1 := h.1; rw [if_pos rfl, if_neg (by decide), SP.mul_left_comm, SP.mul_assoc] at h1; exact h1, fun v Y hY hs => ⟨by rw [if_pos rfl, if_pos rfl, show (ownR v1 O * U1) * ((ownR v O * M1) * G) = ownR v O * (M1 * (ownR v1 O * (U1 * G))) by ac_rfl]; exact hY, h.2.trans hs⟩⟩
theorem SendI.get1 (h : SendI U0 U1 M0 M1 O G w true f4 v1 v4 X) : IsBytes X v1 O := by
  have h1 := h.1
  rw [if_pos rfl, SP.mul_assoc] at h1
  exact own_bytes h1
theorem SendI.get4 (h : SendI U0 U1 M0 M1 O G w f1 true v1 v4 X) : IsBytes X v4 O := by
  have h1 := h.1.right
  rw [if_pos rfl, SP.mul_assoc] at h1
  exact own_bytes h1
theorem SendI.done (h : SendI U0 U1 M0 M1 O G w true true v1 v4 X) : (U1 * (M1 * G)).on X ∧ Str w X := by
  have h1 := h.1
  rw [if_pos rfl, if_pos rfl, show (ownR v1 O * U1) * ((ownR v4 O * M1) * G) = (U1 * (M1 * G)) * (ownR v1 O * ownR v4 O) by ac_rfl] at h1
  exact ⟨h1.left, h.2⟩
end
theorem US.send_ok {img : List UInt8} {s : US} (h : s.Ok img) : s.send.Ok img := by
  unfold US.send
  split
  · exact h
  · exact ⟨h.phase, h.waited, h.from', h.sum, h.here⟩
theorem US.send_sends (s : US) : s.send.sends ≤ s.sends + 1 := by
  unfold US.send
  split
  · exact Nat.le_succ _
  · exact Nat.le_refl _
theorem mem_sum : ∀ (l : List Nat) (x : Nat), x ∈ l → x ≤ l.sum
  | a :: l, x, h => by
    rw [List.sum_cons]
    rcases List.mem_cons.1 h with rfl | h
    · omega
    · have := mem_sum l x h
      omega
theorem lastP_len (b : List UInt8) : (lastP b).length ≤ b.length := by
  unfold lastP
  cases h : (partsF b).getLast? with
  | none => exact Nat.zero_le _
  | some x =>
    have h1 := mem_sum _ _ (List.mem_map_of_mem (f := List.length) (List.mem_of_getLast? h))
    rw [partsF_len] at h1
    exact h1
end Go.Proofs.Ytjmgnfpcieofkaa
