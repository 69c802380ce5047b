/- A round of saving: what is there behind it, once the power is there again. No Go function is spoken of. -/
import Derived.Test.YtjmgnfpcieofkaaTorn3
import Derived.Test.YtjmgnfpcieofkaaSet5
namespace Go.Proofs.Ytjmgnfpcieofkaa
set_option linter.unusedVariables false
set_option linter.unusedSimpArgs false

/-- with power again -/
abbrev FlS.power (s : FlS) : FlS := { s with off := false, armed := false }
theorem FlS.Up.power {s : FlS} {T : Nat} (h : s.Up T) : s.power.Live := ⟨rfl, rfl, h.free, ⟨h.ok.pages, h.ok.most, h.ok.lf, h.ok.lt, h.ok.left, h.ok.tear⟩⟩
theorem FlS.Down.power {s : FlS} (h : s.Down) : s.power.Live := ⟨rfl, rfl, h.free, ⟨h.ok.pages, h.ok.most, h.ok.lf, h.ok.lt, h.ok.left, h.ok.tear⟩⟩
theorem FlS.Fit.power {s : FlS} {n : Nat} (h : s.Fit n) : s.power.Fit n := ⟨⟨h.ok.pages, h.ok.most, h.ok.lf, h.ok.lt, h.ok.left, h.ok.tear⟩, h.free, h.steps, h.worn⟩
theorem FlS.Live.up {s : FlS} (h : s.Live) (T : Nat) : s.Up T := ⟨h.off, h.free, h.ok, fun c => by rw [h.armed] at c; cases c⟩
/-- the power is to go -/
abbrev FlS.fail (s : FlS) (n t : Nat) : FlS := { s with armed := true, left := n, tear := t }
theorem FlS.Live.fail {s : FlS} (h : s.Live) (n t : Nat) (hn : n ≤ 9223372036854775807) (ht : t < 4294967296) : (s.fail n t).Up t := ⟨h.off, h.free, ⟨h.ok.pages, h.ok.most, h.ok.lf, h.ok.lt, hn, ht⟩, fun _ => rfl⟩
theorem FlS.Fit.fail {s : FlS} {m : Nat} (h : s.Fit m) (n t : Nat) (hn : n ≤ 9223372036854775807) (ht : t < 4294967296) : (s.fail n t).Fit m := ⟨⟨h.ok.pages, h.ok.most, h.ok.lf, h.ok.lt, hn, ht⟩, h.free, h.steps, h.worn⟩
theorem tearK_lt (t k : Nat) (h : t < 4294967296) : tearK t k < 4294967296 := by
  unfold tearK
  exact Nat.xor_lt_two_pow (n := 32) h (Nat.mod_lt _ (by decide))
theorem tear_eq (t k : Nat) (h : t < 4294967296) : bits .xor .u32 (t : Int) ((k : Int) * 2654435769 % 4294967296) = ((tearK t k : Nat) : Int) := by
  have e : ((k : Int) * 2654435769 % 4294967296) = ((k * 2654435769 % 4294967296 : Nat) : Int) := by
    rw [Int.natCast_emod, Int.natCast_mul]
    rfl
  rw [e, u32_xor_nat _ _ h (Nat.mod_lt _ (by decide))]
  rfl
/-- what is known of the flash between two rounds -/
structure Between (t : Nat) (k : Nat) (s : FlS) (R : RecS) : Prop where
  live : s.Live
  worn : s.worn.length = 2
  fit : s.Fit (k * 252 + 300)
  seq : R.seq ≤ k + 1
  two : ∃ pl, Two t k s R pl
theorem Between.ok {t k : Nat} {s : FlS} {R : RecS} (h : Between t k s R) : R.Ok := by
  obtain ⟨_, h⟩ := h.two
  exact h.ok
theorem Between.load {t k : Nat} {s : FlS} {R : RecS} (h : Between t k s R) (hk : k ≤ 25) : s.load.1 = R ∧ s.load.2.2 = 0 := by
  obtain ⟨_, h2⟩ := h.two
  have := h.live.ok.pages
  have := h.worn
  rw [h2.load hk h.live.off (by omega)]
  exact ⟨rfl, rfl⟩
/-- a round -/
theorem save_round {t k : Nat} {s : FlS} {R x : RecS} (hk : k < 12) (hu : s.Up (tearK t k)) (hw : s.worn.length = 2) (hfit : s.Fit (k * 252 + 300)) (hq : R.seq ≤ k + 1) (h2 : ∃ pl, Two t k s R pl) (ok : x.Ok) :
    (x.right = false ∧ (s.save x).2 = (zeroS, 1) ∧ Between t (k + 1) (s.save x).1.power R) ∨
    (x.right = true ∧ ((s.save x).2 = ({ x with seq := R.seq + 1 }, 0) ∧ Between t (k + 1) (s.save x).1.power { x with seq := R.seq + 1 } ∨
      (s.save x).2 = (zeroS, 5) ∧ Between t (k + 1) (s.save x).1.power R ∨ (s.save x).2 = (zeroS, 5) ∧ Between t (k + 1) (s.save x).1.power { x with seq := R.seq + 1 })) := by
  obtain ⟨pl, h2⟩ := h2
  have hpg := hu.ok.pages
  have hL := h2.load (by omega) hu.off (by omega)
  have hf := (hfit.save x).power
  have hf2 : (s.save x).1.power.Fit ((k + 1) * 252 + 300) := hf.mono (by omega)
  cases hr : x.right with
  | false =>
    left
    have hsv := save_wrong (s := s) (r := x) (.inl (by rw [hL])) (by rw [hL]; show R.seq ≠ _; omega) hr
    rw [hsv] at hf2 ⊢
    exact ⟨rfl, rfl, hu.power, hw, hf2, by omega, pl, (h2.mono (Nat.le_succ k)).same rfl rfl⟩
  | true =>
    right
    refine ⟨rfl, ?_⟩
    obtain ⟨⟨l1, l2, l3⟩, h | h⟩ := torn_save hu h2 (by omega) (by omega) x ok hr (by omega)
    · obtain ⟨e1, u1, _, pl2, t1⟩ := h
      exact .inl ⟨e1, u1.power, by rw [← hw, ← l2], hf2, by show R.seq + 1 ≤ _; omega, pl2, (t1.mono (Nat.le_succ k)).same rfl rfl⟩
    · obtain ⟨e1, u1, _, pl2, t1 | t1⟩ := h
      · exact .inr (.inl ⟨e1, u1.power, by rw [← hw, ← l2], hf2, by omega, pl2, t1.same rfl rfl⟩)
      · exact .inr (.inr ⟨e1, u1.power, by rw [← hw, ← l2], hf2, by show R.seq + 1 ≤ _; omega, pl2, t1.same rfl rfl⟩)
end Go.Proofs.Ytjmgnfpcieofkaa
