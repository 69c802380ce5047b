/- Words of flash are programmed, one behind the other. -/
import Derived.Test.YtjmgnfpcieofkaaFlash4
namespace Go.Proofs.Ytjmgnfpcieofkaa
open Go.ChangeShapes Go.WideShapes Go.ChangeAt Go.RowKit
set_option linter.unusedVariables false

/-- so many words of a text are programmed, the first of them at word i: the flash, and the error -/
def FlS.progW (lb : List UInt8) (a : Nat) : Nat → Nat → FlS → FlS × Nat
  | 0, _, s => (s, 0)
  | r + 1, i, s => if s.wordErr (a + i * 4) ((lb.drop (i * 4)).take 4) = 0 then FlS.progW lb a r (i + 1) (s.word (a + i * 4) ((lb.drop (i * 4)).take 4))
    else (s.word (a + i * 4) ((lb.drop (i * 4)).take 4), s.wordErr (a + i * 4) ((lb.drop (i * 4)).take 4))
theorem FlS.word_length (s : FlS) (a : Nat) (lb : List UInt8) : (s.word a lb).B.length = s.B.length := by simp [FlS.word, progK_length]
theorem FlS.word_steps (s : FlS) (a : Nat) (lb : List UInt8) : (s.word a lb).steps ≤ s.steps + 1 := FlS.step_steps s
theorem FlS.word_lf (s : FlS) (a : Nat) (lb : List UInt8) : (s.word a lb).lf = s.lf ∧ (s.word a lb).lt = s.lt := by
  simp only [FlS.word, FlS.step]; split <;> simp
theorem IsBytes.part' {w : World} {g off n cap : Nat} {l : List UInt8} (h : IsBytes w (.slice (some ⟨g, off, Option.none⟩) n cap) l) (a k : Nat) (hk : a + k ≤ l.length) : IsBytes w (.slice (some ⟨g, off + a, Option.none⟩) k (cap - a)) ((l.drop a).take k) := by
  obtain ⟨ad, c, e, h1, h2, h3, _⟩ := h
  simp only [Value.slice.injEq] at e
  obtain ⟨rfl, rfl, rfl⟩ := e
  refine ⟨_, _, by rw [List.length_take, List.length_drop, Nat.min_eq_left (by omega)], by simp; omega, by omega, ?_, by simp⟩
  have := (h3.drop a).take k
  simpa [vbs] using this

set_option maxRecDepth 100000 in
set_option maxHeartbeats 2000000 in
theorem program_any (p : Nat) (s : FlS) (F : SP) (w : World) (h : (Flash p s * F).on w) (ok : s.Ok) (hst : s.steps ≤ 1099511000000) (hoff : s.off = false) (a : Nat) (v : Value) (lb : List UInt8) (words : Nat) (ha4 : a % 4 = 0) (hlb : lb.length = words * 4) (hin : a + lb.length ≤ s.B.length)
    (hlk : ∀ i : Nat, i < words → s.locked (((a + i * 4) / 256 : Nat) : Int) = false) (hrd : ∀ w, F.on w → IsBytes w v lb) :
    Calls Try.prog 49 #[fptr p, .int .i64 a, v] w fun e w' => e = .returned (.int .i64 ((FlS.progW lb a words 0 s).2 : Int)) ∧ (Flash p (FlS.progW lb a words 0 s).1 * F).on w' ∧ Str w w' := by
  have hv := hrd w h.right
  obtain ⟨av, cv, rfl, hcv, hmv, hlv, hnv⟩ := hv
  have hpg := ok.pages
  have hmo := ok.most
  have hB : s.B.length ≤ 16384 := by omega
  clear hpg hmo
  unfold maxLen at hmv
  have Hrd := hide hrd
  have H := hide h
  have Hlk := hide hlk
  have Hnv := hide hnv
  have Hlv := hide hlv
  clear hrd h hlk hnv hlv
  have Hin := hide (inside_any p s F w H.out ok a lb.length (by omega) (by omega))
  have hins : s.inside a lb.length = true := by simp [FlS.inside]; omega
  rw [hins] at Hin
  clear hins
  rw [hlb] at Hin hcv ⊢
  have hwords : words ≤ 4096 := by omega
  have e1 : ((a : Int)).tmod 4 = 0 := by rw [Int.tmod_eq_emod_of_nonneg (by omega)]; omega
  have e2 : (((words * 4 : Nat) : Int)).tmod 4 = 0 := by rw [Int.tmod_eq_emod_of_nonneg (by omega)]; omega
  have e3 : (((words * 4 : Nat) : Int)).tdiv 4 = (words : Int) := by rw [Int.tdiv_eq_ediv_of_nonneg (by omega)]; omega
  go_enter Try.func49, Try.ntmps49
  go_wp2_with fail
  refine (ready_any p s F w H.out).mono ?_
  rintro e w1 ⟨rfl, rfl⟩
  rw [hoff]
  go_wp2_with fail
  refine Hin.out.mono ?_
  rintro e w1 ⟨rfl, rfl⟩
  go_wp2_with fail
  go_loopw [37] (fun i wr => ∃ j : Nat, j ≤ words ∧ i = .int .i64 j ∧ wr = w) (fun i _ => words - (intOf i).toNat)
  case atStart => exact ⟨0, by omega, rfl, rfl⟩
  case round =>
    obtain ⟨j, hj, rfl, rfl⟩ := hrel
    by_cases hlt : j < words
    · have Hl := locked_any p s F wr H.out (((a + j * 4) / 256 : Nat) : Int)
      rw [Hlk.out j hlt] at Hl
      have hpage : (((a + j * 4) / 256 : Nat) : Int) = ((a : Int) + (j : Int) * 4) / 256 := by omega
      rw [hpage] at Hl
      have HL := hide Hl
      clear Hl hpage
      go_wp2_with fail
      refine HL.out.mono ?_
      rintro e w2 ⟨rfl, rfl⟩
      go_wp2_with fail
      exact ⟨⟨j + 1, by omega, by simp, trivial⟩, by simp [intOf]; omega⟩
    · go_wp2_with fail
      go_loopw [49] (fun i w2 => ∃ (k : Nat) (st : FlS), k ≤ words ∧ i = .int .i64 k ∧ st.Ok ∧ st.B.length = s.B.length ∧ st.steps ≤ s.steps + k ∧ FlS.progW lb a words 0 s = FlS.progW lb a (words - k) k st ∧ (Flash p st * F).on w2 ∧ Str wr w2) (fun i _ => words - (intOf i).toNat)
      case atStart => exact ⟨0, s, by omega, rfl, ok, rfl, by omega, rfl, H.out, Str.refl _⟩
      case round =>
        obtain ⟨k, st, hk, rfl, okt, hlt2, hst2, heq, hw2, hstr2⟩ := hrel
        by_cases hkl : k < words
        · obtain ⟨bv, offv, rfl⟩ := Lay.isAddr Hlv.out 0 (by simp; omega)
          have Heq := hide heq
          have Hw2 := hide hw2
          have Hstr2 := hide hstr2
          have hlen4 : ((lb.drop (k * 4)).take 4).length = 4 := by simp; omega
          have HW := hide (word_any p st F _ hw2 okt (by omega) (a + k * 4) (by omega) (.slice (some ⟨bv, offv + k * 4, Option.none⟩) 4 (cv - k * 4)) ((lb.drop (k * 4)).take 4) hlen4 (fun w hw => by
            have h1 := Hrd.out w hw
            exact h1.part' (k * 4) 4 (by omega)))
          have hokw := FlS.word_ok okt (a + k * 4) ((lb.drop (k * 4)).take 4)
          have hstw := FlS.word_steps st (a + k * 4) ((lb.drop (k * 4)).take 4)
          have hlnw := FlS.word_length st (a + k * 4) ((lb.drop (k * 4)).take 4)
          have hstep : FlS.progW lb a (words - k) k st = if st.wordErr (a + k * 4) ((lb.drop (k * 4)).take 4) = 0 then FlS.progW lb a (words - (k + 1)) (k + 1) (st.word (a + k * 4) ((lb.drop (k * 4)).take 4))
              else (st.word (a + k * 4) ((lb.drop (k * 4)).take 4), st.wordErr (a + k * 4) ((lb.drop (k * 4)).take 4)) := by
            obtain ⟨m, hm⟩ : ∃ m, words - k = m + 1 := ⟨words - k - 1, by omega⟩
            rw [hm, show words - (k + 1) = m by omega]
            rfl
          clear heq hw2 hstr2 hlen4
          generalize (lb.drop (k * 4)).take 4 = l4 at *
          generalize st.word (a + k * 4) l4 = st' at *
          have eaddr : ((a + k * 4 : Nat) : Int) = (a : Int) + (k : Int) * 4 := by omega
          rw [eaddr] at HW
          clear eaddr
          by_cases he : st.wordErr (a + k * 4) l4 = 0
          · rw [if_pos he] at hstep
            rw [he] at HW
            have Hstep := hide hstep
            clear he hstep
            go_wp2_with fail
            refine HW.out.mono ?_
            rintro e w3 ⟨rfl, h3, hs3⟩
            have H3 := hide h3
            have Hs3 := hide hs3
            clear h3 hs3
            go_wp2_with fail
            exact ⟨⟨k + 1, st', by omega, by simp, hokw, by rw [hlnw, hlt2], by omega, by rw [Heq.out, Hstep.out], H3.out, Hstr2.out.trans Hs3.out⟩, by simp [intOf]; omega⟩
          · rw [if_neg he] at hstep
            have Hstep := hide hstep
            have hle : st.wordErr (a + k * 4) l4 ≤ 6 := by unfold FlS.wordErr; split <;> (try split) <;> omega
            have he1 : 1 ≤ st.wordErr (a + k * 4) l4 := by omega
            clear he hstep
            generalize st.wordErr (a + k * 4) l4 = er at *
            go_wp2_with fail
            refine HW.out.mono ?_
            rintro e w3 ⟨rfl, h3, hs3⟩
            have H3 := hide h3
            have Hs3 := hide hs3
            clear h3 hs3
            go_wp2_with fail
            go_ret
            rw [Heq.out, Hstep.out]
            exact ⟨rfl, H3.out, Hstr2.out.trans Hs3.out⟩
        · have hkw : words - k = 0 := by omega
          rw [hkw] at heq
          have Heq := hide heq
          have Hw2 := hide hw2
          have Hstr2 := hide hstr2
          clear heq hw2 hstr2 hkw
          go_wp2_with fail
          go_ret
          rw [Heq.out]
          exact ⟨rfl, Hw2.out, Hstr2.out⟩
end Go.Proofs.Ytjmgnfpcieofkaa
