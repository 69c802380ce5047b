/- A statement whose operations may be carried out in more than one order, with guards on what was passed over. No Go function is spoken of here. -/
import Derived.Test.YtgkofpfjbjnhfaaDoorTwo
namespace Go.Proofs.YtgkofpfjbjnhfaaDoor
open Go.RowKit
set_option linter.unusedVariables false
set_option linter.unusedSimpArgs false

def TodoG (P : Program) (ops : Array Oper) (V : Nat → Value → World → Prop) (T : World → World → Prop) (a0 : Act) (w1 : World) : Nat → List Oper → Prop
  | _, [] => True
  | i, o :: rest => (∀ (ev : Operand → Value) (w : World), T w1 w → Base ev → knownOf ops a0 ev o.op.operands.toList → factsOf ops V ev w o.after.toList →
      match o.guard with
      | Option.none => OpOk P o ev w (fun v w' => V i v w' ∧ T w w')
      | some (j, want) => (∃ b, slotOf ops ev j = .bool b ∧ (b = want → OpOk P o ev w (fun v w' => V i v w' ∧ T w w')) ∧ (b ≠ want → V i undef w)) ∨ (slotOf ops ev j = undef ∧ V i undef w)) ∧ TodoG P ops V T a0 w1 (i + 1) rest
section
variable {P : Program} {n : Nat} {ops : Array Oper} {V : Nat → Value → World → Prop} {T : World → World → Prop} {a0 : Act} {w1 : World} {Q : Exit → Act → World → Prop}
theorem todoG_at : ∀ (l : List Oper) (k i : Nat) (o : Oper), TodoG P ops V T a0 w1 k l → l[i]? = some o →
    (∀ (ev : Operand → Value) (w : World), T w1 w → Base ev → knownOf ops a0 ev o.op.operands.toList → factsOf ops V ev w o.after.toList →
      match o.guard with
      | Option.none => OpOk P o ev w (fun v w' => V (k + i) v w' ∧ T w w')
      | some (j, want) => (∃ b, slotOf ops ev j = .bool b ∧ (b = want → OpOk P o ev w (fun v w' => V (k + i) v w' ∧ T w w')) ∧ (b ≠ want → V (k + i) undef w)) ∨ (slotOf ops ev j = undef ∧ V (k + i) undef w))
  | [], _, _, _, _, h => by simp at h
  | x :: l, k, 0, o, h, e => by simp at e; subst e; exact h.1
  | x :: l, k, i + 1, o, h, e => by
    have := todoG_at l (k + 1) i o h.2 (by simpa using e)
    rw [show k + (i + 1) = k + 1 + i by omega]
    exact this
theorem TodoG.from' {w2 : World} (h : ∀ w, T w1 w → T w2 w) : ∀ (l : List Oper) (i : Nat), TodoG P ops V T a0 w2 i l → TodoG P ops V T a0 w1 i l
  | [], _, _ => trivial
  | _ :: l, i, ht => ⟨fun ev w hw => ht.1 ev w (h w hw), TodoG.from' h l (i + 1) ht.2⟩

theorem freeG_any (hok : okOps ops a0.tmps.size = true) (hTr : ∀ w, T w w) (hTt : ∀ a b c, T a b → T b c → T a c) (hVT : ∀ i v w w', V i v w → T w w' → V i v w') (hV0 : ∀ (i : Nat) (o : Oper), ops[i]? = some o → o.dst = Option.none → ∀ v w, V i v w → V i undef w)
    (htodo : TodoG P ops V T a0 w1 0 ops.toList) (hend : ∀ (listed : Array Bool) a w, (∀ i, i < ops.size → listed.getD i true = true) → Inv ops V T a0 w1 listed a w → Q .normal a w) :
    ∀ (fuel : Nat) (listed : Array Bool) (a : Act) (w : World), listed.size = ops.size → (List.range ops.size).countP (fun j => !listed.getD j true) ≤ fuel → Inv ops V T a0 w1 listed a w → wpAny P .any ops Q fuel listed a w
  | 0, listed, a, w, hs, hc, hinv => by
    have hall : ∀ i, i < ops.size → listed.getD i true = true := by
      intro i hi
      have h0 : (List.range ops.size).countP (fun j => !listed.getD j true) = 0 := by omega
      have := List.countP_eq_zero.1 h0 i (List.mem_range.2 hi)
      simpa using this
    refine ⟨?_, hend listed a w hall hinv⟩
    unfold Region.ready
    refine List.filter_eq_nil_iff.2 fun i hi => ?_
    simp [hall i (List.mem_range.1 hi)]
  | fuel + 1, listed, a, w, hs, hc, hinv => by
    refine ⟨fun hr => hend listed a w (ready_all hok hs hr) hinv, fun i hi => ?_⟩
    obtain ⟨o, ho, hlt, hl, haft⟩ := ready_mem hs hi
    have hstep := todoG_at ops.toList 0 i o htodo (by simpa using ho)
    have hstep := hstep a.eval w hinv.t (base_of a) (known_of hinv.keep _) (facts_of _ fun e he hb => hinv.vals _ (by have := ok_edge hok ho (by simpa using he) hb; omega) (haft e (by simpa using he) hb (by have := ok_edge hok ho (by simpa using he) hb; omega)))
    rw [Nat.zero_add] at hstep
    have next : ∀ v w', V i v w' ∧ T w w' → wpAny P .any ops Q fuel (listed.setIfInBounds i true) (a.put o.dst v) w' := by
      intro v w' ⟨hv, ht⟩
      refine freeG_any hok hTr hTt hVT hV0 htodo hend fuel _ _ _ (by simpa using hs) ?_ (inv_put hok hTt hVT hinv ho v ht ?_)
      · have := count_set (n := ops.size) hlt hs hl
        omega
      · cases hd : o.dst with
        | none =>
          have : slotOf ops (a.put Option.none v).eval i = undef := by simp [slotOf, ho, hd]
          rw [this]
          exact hV0 i o ho hd v w' hv
        | some d =>
          have := slot_self hok hinv.size ho v (by rw [hd]; intro h; cases h)
          rw [hd] at this
          rw [this]; exact hv
    unfold wpOp
    simp only [ho]
    cases hg : o.guard with
    | none =>
      rw [hg] at hstep
      rw [if_pos (by simp [Region.wanted, hg])]
      exact .inl (wp_of_ok hstep fun v w' h _ => next v w' h)
    | some jw =>
      obtain ⟨j, want⟩ := jw
      rw [hg] at hstep
      obtain ⟨o', d, ho', hd'⟩ := ok_guard hok ho hg
      rcases hstep with ⟨b, hb, h1, h2⟩ | ⟨hb, h2⟩
      · have hy : yielded ops a.tmps j = some b := by
          simp only [slotOf, ho', hd', Act.eval, Array.getD_eq_getD_getElem?] at hb
          simp only [yielded, ho', hd', Option.bind_some]
          cases hx : a.tmps[d]? with
          | none => rw [hx] at hb; simp [undef] at hb
          | some x => rw [hx] at hb; simp only [Option.getD_some] at hb; subst hb; rfl
        by_cases hbw : b = want
        · rw [if_pos (by simp [Region.wanted, hg, hy, hbw])]
          exact .inl (wp_of_ok (h1 hbw) fun v w' h _ => next v w' h)
        · rw [if_neg (by simp [Region.wanted, hg, hy, hbw])]
          exact next undef w ⟨h2 hbw, hTr w⟩
      · have hy : yielded ops a.tmps j = Option.none := by
          simp only [slotOf, ho', hd', Act.eval, Array.getD_eq_getD_getElem?] at hb
          simp only [yielded, ho', hd', Option.bind_some]
          cases hx : a.tmps[d]? with
          | none => rfl
          | some x => rw [hx] at hb; simp only [Option.getD_some] at hb; subst hb; rfl
        rw [if_neg (by simp [Region.wanted, hg, hy])]
        exact next undef w ⟨h2, hTr w⟩

/-- A REGION IN WHATEVER ORDER -/
theorem wp_region_freeg {id : Nat} {l : List Oper} {w0 : World} (V : Nat → Value → World → Prop) (T : World → World → Prop) (hm : P.follows .mixedOrders = true) (hok : okOps l.toArray a0.tmps.size = true)
    (hTr : ∀ w, T w w) (hTt : ∀ a b c, T a b → T b c → T a c) (hVT : ∀ i v w w', V i v w → T w w' → V i v w')
    (hV0 : ∀ (i : Nat) (o : Oper), l.toArray[i]? = some o → o.dst = Option.none → ∀ v w, V i v w → V i undef w)
    (htodo : TodoG P l.toArray V T a0 w0.drew 0 l) (hend : ∀ w, T w0.drew w → Rest V Q w 0 l a0) : (Code.region id l.toArray true).wp P Q a0 w0 := by
  refine wp_region_any hm ?_
  refine freeG_any (a0 := a0) (w1 := w0.drew) hok hTr hTt hVT hV0 (by simpa using htodo) ?_ _ _ _ _ (by simp) ?_ ⟨hTr _, rfl, rfl, fun _ _ => rfl, ?_⟩
  · intro listed a w hall hinv
    have h := rest_ends (ev := a.eval) l 0 a0 (fun i o ho => by
      have hi : i < l.length := (List.getElem?_eq_some_iff.1 ho).1
      have := hinv.vals i (by simpa using hi) (hall i (by simpa using hi))
      rw [Nat.zero_add]
      simpa [slotOf, ho] using this) (hend w hinv.t)
    have : ends a0 a.eval l = a := by
      have h1 := ends_defers a.eval l a0
      have h2 : (ends a0 a.eval l).tmps = a.tmps := by
        apply Array.ext_getElem?
        intro t
        rw [ends_get]
        split
        · rename_i hc
          simp [Act.eval, hinv.size, hc.1]
        · rename_i hc
          by_cases ht : t < a0.tmps.size
          · refine (hinv.keep t fun i o ho e => hc ⟨ht, o, ?_, e⟩).symm
            have : l[i]? = some o := by simpa using ho
            exact List.mem_of_getElem? this
          · rw [Array.getElem?_eq_none (by omega), Array.getElem?_eq_none (by rw [hinv.size]; omega)]
      cases hx : ends a0 a.eval l with
      | mk t d =>
        rw [hx] at h1 h2
        cases a with
        | mk t' d' =>
          have h3 := hinv.defers
          simp only at h1 h2 h3
          rw [h2, h1, ← h3]
    rw [this] at h
    exact h
  · exact Nat.le_trans List.countP_le_length (by simp)
  · intro i hi hl
    rw [Array.getD_eq_getD_getElem?, Array.getElem?_replicate, if_pos hi] at hl
    cases hl
end

/-- A REGION IN WHATEVER ORDER, what is known of its slots being a list; nothing that exists is turned -/
theorem wp_region_vsg {P : Program} {id : Nat} {l : List Oper} {w0 : World} {a0 : Act} {Q : Exit → Act → World → Prop} (L : List (Value → World → Prop)) (hm : P.follows .mixedOrders = true) (hok : okOps l.toArray a0.tmps.size = true)
    (hds : (l.all fun o => o.dst.isSome) = true) (hk : KeepAll L) (htodo : TodoG P l.toArray (vList L) Stay a0 w0 0 l) (hend : ∀ w, Stay w0 w → Rest (vList L) Q w 0 l a0) : (Code.region id l.toArray true).wp P Q a0 w0 :=
  wp_region_freeg (vList L) Stay hm hok Stay.refl (fun _ _ _ h k => Stay.trans h k) (vList_keep hk.mem) (fun i o ho hd => by
    have := List.all_eq_true.1 hds o (by simpa using Array.mem_of_getElem? ho)
    simp [hd] at this) (TodoG.from' (fun _ h => h.undrew) l 0 htodo) (fun w h => hend w h.undrew)

end Go.Proofs.YtgkofpfjbjnhfaaDoor
