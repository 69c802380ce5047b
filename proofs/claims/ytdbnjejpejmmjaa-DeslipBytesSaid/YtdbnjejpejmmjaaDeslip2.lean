/- What bytes bring, one by one: the list of events that the law's feed makes. -/
import Derived.Test.YtdbnjejpejmmjaaDeslip
namespace Go.Proofs.Ytdbnjejpejmmjaa
open Go.ChangeShapes Go.WideShapes Go.ChangeAt Go.RowKit
set_option linter.unusedVariables false

structure Ev where
  kind : Nat
  frame : List UInt8
  err : Nat
def evCells (L : List (Value × Ev)) : List Value := L.flatMap fun y => [.int .i64 (y.2.kind : Int), y.1, .int .i64 (y.2.err : Int)]
def stars : List (Value × Ev) → SP
  | [] => emp
  | y :: t => ownD y.1 y.2.frame * stars t
theorem stars_snoc (L : List (Value × Ev)) (y : Value × Ev) : stars (L ++ [y]) = stars L * ownD y.1 y.2.frame := by
  induction L with
  | nil => exact SP.mul_comm _ _
  | cons z t ih => show _ * stars (t ++ [y]) = _; rw [ih, ← SP.mul_assoc]; rfl
theorem stars_get {F : SP} {w : World} : ∀ (L : List (Value × Ev)) (i : Nat) (v : Value) (e : Ev), (stars L * F).on w → L[i]? = some (v, e) → IsBytes w v e.frame
  | [], i, v, e, _, h => by simp at h
  | y :: t, 0, v, e, h, hi => by
    simp only [List.getElem?_cons_zero, Option.some.injEq] at hi
    subst hi
    have h2 : ((ownD v e.frame * stars t) * F).on w := h
    rw [SP.mul_assoc] at h2
    exact own_bytes h2
  | y :: t, i + 1, v, e, h, hi => by
    have h2 : ((ownD y.1 y.2.frame * stars t) * F).on w := h
    rw [SP.mul_assoc] at h2
    exact stars_get t i v e h2.right (by simpa using hi)
theorem evCells_length (L : List (Value × Ev)) : (evCells L).length = L.length * 3 := by
  induction L with
  | nil => rfl
  | cons y t ih => simp only [evCells, List.flatMap_cons, List.length_append, List.length_cons] at ih ⊢; rw [ih]; simp; omega
theorem evCells_snoc (L : List (Value × Ev)) (y : Value × Ev) : evCells (L ++ [y]) = evCells L ++ [.int .i64 (y.2.kind : Int), y.1, .int .i64 (y.2.err : Int)] := by simp [evCells]
theorem evCells_get : ∀ (L : List (Value × Ev)) (i : Nat) (v : Value) (e : Ev), L[i]? = some (v, e) → (evCells L)[i * 3]? = some (.int .i64 (e.kind : Int)) ∧ (evCells L)[i * 3 + 1]? = some v ∧ (evCells L)[i * 3 + 2]? = some (.int .i64 (e.err : Int))
  | [], i, v, e, h => by simp at h
  | y :: t, 0, v, e, hi => by
    simp only [List.getElem?_cons_zero, Option.some.injEq] at hi
    subst hi
    exact ⟨rfl, rfl, rfl⟩
  | y :: t, i + 1, v, e, hi => by
    have := evCells_get t i v e (by simpa using hi)
    rw [show (i + 1) * 3 = i * 3 + 3 by omega, show i * 3 + 3 + 1 = (i * 3 + 1) + 3 by omega, show i * 3 + 3 + 2 = (i * 3 + 2) + 3 by omega]
    exact this
def Evs (v : Value) (L : List (Value × Ev)) : SP := own 59 3 v L.length (evCells L) * stars L
theorem Evs.nil {F : SP} {w : World} (h : F.on w) : (Evs (.slice Option.none 0 0) [] * F).on w := by
  show ((own 59 3 (.slice Option.none 0 0) 0 [] * emp) * F).on w
  rw [SP.mul_assoc]
  exact own_nil _ 3 (on_emp_mul.2 h)
theorem Evs.push {v2 x : Value} {L : List (Value × Ev)} {ev : Ev} {F : SP} {w : World} (h : (own 59 3 v2 (L.length + 1) (evCells L ++ [.int .i64 (ev.kind : Int), x, .int .i64 (ev.err : Int)]) * (stars L * (ownD x ev.frame * F))).on w) :
    (Evs v2 (L ++ [(x, ev)]) * F).on w := by
  unfold Evs
  rw [evCells_snoc, stars_snoc, List.length_append, SP.mul_assoc, SP.mul_assoc]
  exact h

theorem evs_swap {x out : Value} {fl : List UInt8} {D F : SP} {L : List (Value × Ev)} {w : World} (h : (ownD x fl * (D * (Evs out L * F))).on w) :
    (own 59 3 out L.length (evCells L) * (stars L * (ownD x fl * (D * F)))).on w := by
  have e : (ownD x fl * (D * (Evs out L * F))) = (own 59 3 out L.length (evCells L) * (stars L * (ownD x fl * (D * F)))) := by
    unfold Evs; ac_rfl
  rw [e] at h
  exact h

def evOf (r : List UInt8 × Nat × DsS) : Ev := if r.2.1 = 0 then (if 0 < r.1.length then ⟨1, r.1, 0⟩ else ⟨0, [], 0⟩) else ⟨2, r.1, r.2.1⟩
def feedK (s : DsS) (b : List UInt8) : Nat → List Ev × DsS
  | 0 => ([], s)
  | k + 1 => ((feedK s b k).1 ++ [evOf ((feedK s b k).2.feed (b.getD k 0))], ((feedK s b k).2.feed (b.getD k 0)).2.2)
theorem feedK_ok {s : DsS} (h : s.Ok) (b : List UInt8) : ∀ k, (feedK s b k).2.Ok
  | 0 => h
  | k + 1 => DsS.feed_ok (feedK_ok h b k) _
theorem feedK_length (s : DsS) (b : List UInt8) : ∀ k, (feedK s b k).1.length = k
  | 0 => rfl
  | k + 1 => by show (_ ++ [_]).length = _; rw [List.length_append, feedK_length s b k]; rfl
theorem infoEv : (Try.prog.info? 59).map (fun i => (i.zero, i.size, i.bytes)) = some (some (.agg #[.int .i64 0, .slice Option.none 0 0, .int .i64 0]), 3, 40) := by kernel_rfl
theorem DsS.feed_err (s : DsS) (c : UInt8) : (s.feed c).2.1 ≤ 17 := by
  unfold DsS.feed DsS.second DsS.keep
  repeat' split
  all_goals simp

set_option maxRecDepth 100000 in
set_option maxHeartbeats 4000000 in
theorem feedl_any (p : Nat) (s : DsS) (F : SP) (w : World) (h : (Dec p s * F).on w) (ok : s.Ok) (v : Value) (b : List UInt8) (hlen : b.length ≤ 1000000) (hrd : ∀ w, F.on w → IsBytes w v b) :
    Calls Try.prog 38 #[dptr p, v] w fun e w' => ∃ out L, e = .returned out ∧ L.map Prod.snd = (feedK s b b.length).1 ∧ (Evs out L * (Dec p (feedK s b b.length).2 * F)).on w' ∧ Str w w' := by
  obtain ⟨a, c, rfl, hc, hm, hl, hn⟩ := hrd w h.right
  obtain ⟨ie, hie, hz, hsz, hby⟩ := info_some infoEv
  have hue := Try.underlying54
  have Hrd := hide hrd
  have Hie := hide hie
  have Hz := hide hz
  have Hsz := hide hsz
  have Hby := hide hby
  have H := hide h
  have Hn := hide hn
  clear hrd h hl hn hie hz hsz hby
  unfold maxLen at hm
  go_enter Try.func38, Try.ntmps38
  go_wp2_with fail
  go_loopw [5, 12] (fun out i wr => ∃ (k : Nat) (L : List (Value × Ev)), k ≤ b.length ∧ i = .int .i64 k ∧ L.map Prod.snd = (feedK s b k).1 ∧ (Evs out L * (Dec p (feedK s b k).2 * F)).on wr ∧ Str w wr) (fun _ i _ => b.length - (intOf i).toNat)
  case atStart => exact ⟨0, [], by omega, rfl, rfl, Evs.nil H.out, Str.refl _⟩
  case round =>
    obtain ⟨k, L, hk, rfl, hL, hw, hstr⟩ := hrel
    have okk := feedK_ok ok b k
    have hLl : L.length = k := by have := congrArg List.length hL; rw [List.length_map, feedK_length] at this; exact this
    by_cases hkl : k < b.length
    · obtain ⟨bv, offv, rfl⟩ : ∃ bv offv, a = some ⟨bv, offv, Option.none⟩ := by
        obtain ⟨_, _, e, _, _, h3, _⟩ := Hrd.out wr hw.right.right
        simp only [Value.slice.injEq] at e
        obtain ⟨rfl, _, rfl⟩ := e
        exact Lay.isAddr h3 k (by simpa using hkl)
      have cb : wr.cell? ⟨bv, offv + k, Option.none⟩ = some (vb (b.getD k 0)) := by
        obtain ⟨_, _, e, _, _, h3, _⟩ := Hrd.out wr hw.right.right
        simp only [Value.slice.injEq] at e
        obtain ⟨rfl, _, rfl⟩ := e
        have := Lay.cell h3 k (vbs_get b k hkl)
        rw [this, List.getD_eq_getElem?_getD, List.getElem?_eq_getElem hkl]
        rfl
      have hwd := hw
      rw [SP.mul_left_comm] at hwd
      have HF := hide (feed_any p _ _ wr hwd okk (b.getD k 0))
      have HK1 := hide (show (feedK s b (k + 1)).1 = (feedK s b k).1 ++ [evOf ((feedK s b k).2.feed (b.getD k 0))] from rfl)
      have HK2 := hide (show (feedK s b (k + 1)).2 = ((feedK s b k).2.feed (b.getD k 0)).2.2 from rfl)
      have HL := hide hL
      have HLl := hide hLl
      have Hstr := hide hstr
      have her := DsS.feed_err (feedK s b k).2 (b.getD k 0)
      clear hw hwd hL hstr hLl okk
      generalize (feedK s b k).2.feed (b.getD k 0) = r at *
      generalize b.getD k 0 = cc at *
      obtain ⟨fl, er, st⟩ := r
      dsimp only at HF HK2 her
      go_wp2_with fail
      refine HF.out.mono ?_
      rintro e w1 ⟨vq, rfl, h1, hs1⟩
      obtain ⟨x, rfl, h2⟩ := feedQ.out h1
      have Hs1 := hide (Hstr.out.trans hs1)
      obtain ⟨xa, xc, rfl, _, _, _, hxn⟩ := own_value h2
      have h2 := evs_swap h2
      have Hxn := hide hxn
      have H2 := hide h2
      clear h1 h2 hs1 HF hxn
      by_cases her0 : er = 0
      · subst her0
        by_cases hfl : 0 < fl.length
        · have HE := hide (show evOf (fl, 0, st) = ⟨1, fl, 0⟩ by simp [evOf, hfl])
          go_wp2_with (at_builtin; refine wpList_append_sp (F := stars L * (ownD (.slice xa fl.length xc) fl * (Dec p st * F))) rfl _ _ 54 rfl 59 ie _ 3 40 hue Hie.out Hz.out Hsz.out Hby.out rfl (by decide) _ L.length (evCells L) rfl (H2.out.alloc' _) (some ⟨w1.heap.size, 0, Option.none⟩) 1 1 [.int .i64 1, .slice xa fl.length xc, .int .i64 0] rfl (by simp) rfl (Lay.new _ _ _) (by intro u hu; simp at hu; rcases hu with rfl | rfl | rfl <;> rfl) (by rw [HLl.out]; unfold maxLen; omega) (by rw [HLl.out]; omega) ?_; intro v2 w2 ho2 hs2)
          go_wp2_with fail
          refine ⟨⟨k + 1, L ++ [(.slice xa fl.length xc, ⟨1, fl, 0⟩)], by omega, by simp, by rw [HK1.out, List.map_append, HL.out, HE.out]; rfl, ?_, (Hs1.out.alloc _).trans hs2⟩, by simp [intOf]; omega⟩
          rw [HK2.out]
          exact Evs.push (ev := ⟨1, fl, 0⟩) ho2
        · have HE := hide (show evOf (fl, 0, st) = ⟨0, [], 0⟩ by simp [evOf, hfl])
          have hfl0 : fl = [] := by cases fl with | nil => rfl | cons y t => simp at hfl
          subst hfl0
          go_wp2_with (at_builtin; refine wpList_append_sp (F := stars L * (ownD (.slice xa ([] : List UInt8).length xc) [] * (Dec p st * F))) rfl _ _ 54 rfl 59 ie _ 3 40 hue Hie.out Hz.out Hsz.out Hby.out rfl (by decide) _ L.length (evCells L) rfl (H2.out.alloc' _) (some ⟨w1.heap.size, 0, Option.none⟩) 1 1 [.int .i64 0, .slice Option.none 0 0, .int .i64 0] rfl (by simp) rfl (Lay.new _ _ _) (by intro u hu; simp at hu; rcases hu with rfl | rfl | rfl <;> rfl) (by rw [HLl.out]; unfold maxLen; omega) (by rw [HLl.out]; omega) ?_; intro v2 w2 ho2 hs2)
          go_wp2_with fail
          refine ⟨⟨k + 1, L ++ [(.slice Option.none 0 0, ⟨0, [], 0⟩)], by omega, by simp, by rw [HK1.out, List.map_append, HL.out, HE.out]; rfl, ?_, (Hs1.out.alloc _).trans hs2⟩, by simp [intOf]; omega⟩
          rw [HK2.out]
          refine Evs.push (ev := ⟨0, [], 0⟩) ?_
          have h5 := ownD_nil ho2
          have e5 : (ownD (.slice Option.none 0 0) [] * (own 59 3 v2 (L.length + 1) (evCells L ++ [.int .i64 0, .slice Option.none 0 0, .int .i64 0]) * (stars L * (ownD (.slice xa ([] : List UInt8).length xc) [] * (Dec p st * F))))) =
            (ownD (.slice xa ([] : List UInt8).length xc) [] * (own 59 3 v2 (L.length + 1) (evCells L ++ [.int .i64 0, .slice Option.none 0 0, .int .i64 0]) * (stars L * (ownD (.slice Option.none 0 0) [] * (Dec p st * F))))) := by ac_rfl
          rw [e5] at h5
          exact h5.right
      · have HE := hide (show evOf (fl, er, st) = ⟨2, fl, er⟩ by simp [evOf, her0])
        have her1 : 1 ≤ er := by omega
        clear her0
        go_wp2_with (at_builtin; refine wpList_append_sp (F := stars L * (ownD (.slice xa fl.length xc) fl * (Dec p st * F))) rfl _ _ 54 rfl 59 ie _ 3 40 hue Hie.out Hz.out Hsz.out Hby.out rfl (by decide) _ L.length (evCells L) rfl (H2.out.alloc' _) (some ⟨w1.heap.size, 0, Option.none⟩) 1 1 [.int .i64 2, .slice xa fl.length xc, .int .i64 (er : Int)] rfl (by simp) rfl (Lay.new _ _ _) (by intro u hu; simp at hu; rcases hu with rfl | rfl | rfl <;> rfl) (by rw [HLl.out]; unfold maxLen; omega) (by rw [HLl.out]; omega) ?_; intro v2 w2 ho2 hs2)
        go_wp2_with fail
        refine ⟨⟨k + 1, L ++ [(.slice xa fl.length xc, ⟨2, fl, er⟩)], by omega, by simp, by rw [HK1.out, List.map_append, HL.out, HE.out]; rfl, ?_, (Hs1.out.alloc _).trans hs2⟩, by simp [intOf]; omega⟩
        rw [HK2.out]
        exact Evs.push (ev := ⟨2, fl, er⟩) ho2
    · have hkb : k = b.length := by omega
      have HL := hide hL
      have Hw := hide hw
      have Hstr := hide hstr
      clear hL hw hstr hLl okk
      go_wp2_with fail
      go_ret
      subst hkb
      exact ⟨_, L, rfl, HL.out, Hw.out, Hstr.out⟩
end Go.Proofs.Ytdbnjejpejmmjaa
