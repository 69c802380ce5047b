/- A record as an argument; 'of'; how both encodings end. -/
import Derived.Test.YtjmgnfpcieofkaaRecLives
import Derived.Test.YtjmgnfpcieofkaaRecMath2
import Derived.Test.YtjmgnfpcieofkaaGBase
namespace Go.Proofs.Ytjmgnfpcieofkaa
open Go.ChangeShapes Go.WideShapes Go.ChangeAt Go.RowKit
set_option linter.unusedVariables false
set_option linter.unusedSimpArgs false
section
variable {H : Type} {enc : TypeId × Value → H} {w : World} {base : Nat} {spare : Nat → Bool} {held : Bool}

theorem trod_u32 {P : Program} {t : TypeId} {fuel : Nat} {cs : List Value} {x : DataW H × List MemPlace} (ht : P.underlying t = some (.int .u32)) (h : DataW.trod enc P w base spare held fuel t cs = some x) : ∃ c : Nat, c < 4294967296 ∧ cs = [u32v c] := by
  obtain ⟨n, rfl, _, hw⟩ := DataW.trod_int ht h
  obtain ⟨h0, h1⟩ := wf_u32 hw
  obtain ⟨m, rfl⟩ := Int.eq_ofNat_of_zero_le h0
  exact ⟨m, by omega, rfl⟩
theorem trod_b8 {P : Program} {t : TypeId} {fuel : Nat} {cs : List Value} {x : DataW H × List MemPlace} (ht : P.underlying t = some (.int .u8)) (h : DataW.trod enc P w base spare held fuel t cs = some x) : ∃ c : UInt8, cs = [vb c] := by
  obtain ⟨n, rfl, _, hw⟩ := DataW.trod_int ht h
  obtain ⟨h0, h1⟩ := wf_u8 hw
  refine ⟨UInt8.ofNat n.toNat, ?_⟩
  have : (UInt8.ofNat n.toNat).toNat = n.toNat := by simp; omega
  simp only [vb, this]
  rw [Int.toNat_of_nonneg h0]
structure RecS.Nums (s : RecS) : Prop where
  seq : s.seq < 4294967296
  floor : s.floor < 4294967296
  bytes : s.bytes < 4294967296
  sum : s.sum < 4294967296
  done : s.done < 4294967296
theorem RecS.Nums.ok {s : RecS} (h : s.Nums) (hi : s.init.length ≤ 1000000) : s.Ok := ⟨h.seq, h.floor, h.bytes, h.sum, h.done, hi⟩

set_option maxRecDepth 100000 in
theorem open_rec {v : Value} {d : DataW H} {p : List MemPlace} {r : _} {base' : Nat} (hv : Value.okWide Try.prog w r base' 35 v) (h : DataW.Trod enc Try.prog w base spare held 35 v d p) : ∃ s iv, v = .agg (recCells s iv) ∧ s.Nums ∧ IsBytes w iv s.init := by
  have hu := Try.underlying35
  have h32 := Try.underlying32
  have h8 := Try.underlying5
  have hs8 := Try.underlying33
  have c32 : Try.prog.cellsOf 32 = 1 := by kernel_rfl
  have c8 : Try.prog.cellsOf 5 = 1 := by kernel_rfl
  have cs8 : Try.prog.cellsOf 33 = 1 := by kernel_rfl
  have c7 : Try.prog.cellsOf 35 = 7 := by kernel_rfl
  obtain ⟨cs, rfl, hsz⟩ := okWide_struct hu hv
  obtain ⟨fuel, hf⟩ := h
  obtain ⟨xs, n, rfl, _, hl, hxl, hfs⟩ := DataW.trod_struct hu hf
  rw [c7] at hsz
  match xs, hxl with
  | [x0, x1, x2, x3, x4, x5, x6], _ =>
    have g0 := hfs 0 _ rfl
    have g1 := hfs 1 _ rfl
    have g2 := hfs 2 _ rfl
    have g3 := hfs 3 _ rfl
    have g4 := hfs 4 _ rfl
    have g5 := hfs 5 _ rfl
    have g6 := hfs 6 _ rfl
    simp only [Value.cells] at g0 g1 g2 g3 g4 g5 g6
    obtain ⟨n0, b0, e0⟩ := trod_u32 h32 g0
    obtain ⟨n1, b1, e1⟩ := trod_u32 h32 g1
    obtain ⟨n2, b2, e2⟩ := trod_u32 h32 g2
    obtain ⟨n3, b3, e3⟩ := trod_u32 h32 g3
    obtain ⟨n4, e4⟩ := trod_b8 h8 g4
    obtain ⟨n5, b5, e5⟩ := trod_u32 h32 g5
    obtain ⟨iv, l, e6, hb, _⟩ := trod_bytes hs8 h8 c8 g6
    refine ⟨⟨n0, n1, n2, n3, n4, n5, l⟩, iv, ?_, ⟨b0, b1, b2, b3, b5⟩, hb⟩
    clear g0 g1 g2 g3 g4 g5 g6 hfs hf hl hv
    obtain ⟨csl⟩ := cs
    match csl, hsz with
    | [y0, y1, y2, y3, y4, y5, y6], _ =>
      simp only [List.drop_succ_cons, List.drop_zero] at e0 e1 e2 e3 e4 e5 e6
      change List.take (Try.prog.cellsOf 32) _ = _ at e0
      rw [c32] at e0
      change List.take (Try.prog.cellsOf 32) _ = _ at e1
      rw [c32] at e1
      change List.take (Try.prog.cellsOf 32) _ = _ at e2
      rw [c32] at e2
      change List.take (Try.prog.cellsOf 32) _ = _ at e3
      rw [c32] at e3
      change List.take (Try.prog.cellsOf 32) _ = _ at e5
      rw [c32] at e5
      change List.take (Try.prog.cellsOf 5) _ = _ at e4
      rw [c8] at e4
      change List.take (Try.prog.cellsOf 33) _ = _ at e6
      rw [cs8] at e6
      simp at e0 e1 e2 e3 e4 e5 e6
      subst e0 e1 e2 e3 e4 e5 e6
      rfl
end

/-- both encodings end so -/
def encErr (s : RecS) : Nat := if s.right = true then 0 else 1
def encGot (s : RecS) : List UInt8 := if s.right = true then recBytes s else []
theorem RecEnd.both {s : RecS} {w : World} {e : Ending} {w' : World} (h : RecEnd s w e w') : ∃ out, e = .returned (.tuple #[out, .int .i64 (encErr s : Nat)]) ∧ (ownR out (encGot s) * all w).on w' ∧ Str w w' := by
  rcases h with ⟨hr, out, rfl, h1, h2⟩ | ⟨hr, rfl, hb⟩
  · refine ⟨out, ?_, ?_, h2⟩
    · rw [encErr, if_pos hr]; rfl
    · rw [encGot, if_pos hr]; exact h1
  · refine ⟨.slice Option.none 0 0, ?_, ?_, Str.below hb⟩
    · rw [encErr, if_neg (by simp [hr])]; rfl
    · rw [encGot, if_neg (by simp [hr])]; exact own_nil _ _ ((on_all w).below hb)

end Go.Proofs.Ytjmgnfpcieofkaa
