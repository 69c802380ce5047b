/- A statement whose operations may be carried out in more than one order, some of them (S) such as turn what lies there: what is known of the world hangs on which of these were carried out. No Go function is spoken of here. -/
import Derived.Test.YtgkofpfjbjnhfaaDoorAppK
namespace Go.Proofs.YtgkofpfjbjnhfaaDoor
namespace Multi
open Go.RowKit AppK
set_option linter.unusedVariables false
set_option linter.unusedSimpArgs false

section
variable {P : Program} {n : Nat} {ops : Array Oper} {V : Nat → Value → World → Prop} {S : List Nat} {a0 : Act} {I : (Nat → Bool) → World → Prop} {Q : Exit → Act → World → Prop}

/-- how an operation ends -/
def Ended (ops : Array Oper) (S : List Nat) (V : Nat → Value → World → Prop) (I : (Nat → Bool) → World → Prop) (f : Nat → Bool) (ev : Operand → Value) (w : World) (i : Nat) (v : Value) (w' : World) : Prop :=
  V i v w' ∧ if S.contains i = true then I (fun j => j == i || f j) w' ∧ ∀ j, j ≠ i → V j (slotOf ops ev j) w → V j (slotOf ops ev j) w' else Stay w w'

def TodoM (P : Program) (ops : Array Oper) (S : List Nat) (V : Nat → Value → World → Prop) (a0 : Act) (I : (Nat → Bool) → World → Prop) : Nat → List Oper → Prop
  | _, [] => True
  | i, o :: rest => (∀ (f : Nat → Bool), f i = false → (∀ j, waits ops i j = true → f j = true) → (∀ j, needs ops 9 j i = true → f j = false) → ∀ (ev : Operand → Value) (w : World), I f w → Base ev → knownAt ops a0 ev i o.op.operands.toList → factsOf ops V ev w o.after.toList →
      match o.guard with
      | Option.none => OpOk P o ev w (Ended ops S V I f ev w i)
      | some (j, want) => ∃ b, slotOf ops ev j = .bool b ∧ (b = want → OpOk P o ev w (Ended ops S V I f ev w i)) ∧ (b ≠ want → V i undef w ∧ S.contains i = false)) ∧ TodoM P ops S V a0 I (i + 1) rest
theorem todoM_at : ∀ (l : List Oper) (k i : Nat) (o : Oper), TodoM P ops S V a0 I k l → l[i]? = some o →
    (∀ (f : Nat → Bool), f (k + i) = false → (∀ j, waits ops (k + i) j = true → f j = true) → (∀ j, needs ops 9 j (k + i) = true → f j = false) → ∀ (ev : Operand → Value) (w : World), I f w → Base ev → knownAt ops a0 ev (k + i) o.op.operands.toList → factsOf ops V ev w o.after.toList →
      match o.guard with
      | Option.none => OpOk P o ev w (Ended ops S V I f ev w (k + i))
      | some (j, want) => ∃ b, slotOf ops ev j = .bool b ∧ (b = want → OpOk P o ev w (Ended ops S V I f ev w (k + i))) ∧ (b ≠ want → V (k + i) undef w ∧ S.contains (k + i) = false))
  | [], _, _, _, _, h => by simp at h
  | x :: l, k, 0, o, h, e => by simp at e; subst e; exact h.1
  | x :: l, k, i + 1, o, h, e => by
    have := todoM_at l (k + 1) i o h.2 (by simpa using e)
    rw [show k + (i + 1) = k + 1 + i by omega]
    exact this

structure InvM (ops : Array Oper) (V : Nat → Value → World → Prop) (a0 : Act) (I : (Nat → Bool) → World → Prop) (listed : Array Bool) (a : Act) (w : World) : Prop where
  t : I (fun j => listed.getD j false) w
  defers : a.defers = a0.defers
  size : a.tmps.size = a0.tmps.size
  keep : ∀ (t : Nat), (∀ (i : Nat) (o : Oper), ops[i]? = some o → listed.getD i false = true → o.dst ≠ some t) → a.tmps[t]? = a0.tmps[t]?
  vals : ∀ i, i < ops.size → listed.getD i true = true → V i (slotOf ops a.eval i) w

theorem multi_any (hok : okOps ops a0.tmps.size = true) (hVT : ∀ i v w w', V i v w → Stay w w' → V i v w') (hIT : ∀ f w w', I f w → Stay w w' → I f w') (hIS : ∀ f g w, (∀ j, S.contains j = true → f j = g j) → I f w → I g w)
    (hV0 : ∀ (i : Nat) (o : Oper), ops[i]? = some o → o.dst = Option.none → ∀ v w, V i v w → V i undef w)
    (htodo : TodoM P ops S V a0 I 0 ops.toList) (hend : ∀ (listed : Array Bool) a w, (∀ i, i < ops.size → listed.getD i true = true) → listed.size = ops.size → InvM ops V a0 I listed a w → Q .normal a w) :
    ∀ (fuel : Nat) (listed : Array Bool) (a : Act) (w : World), listed.size = ops.size → (List.range ops.size).countP (fun j => !listed.getD j true) ≤ fuel → Down ops listed → InvM ops V a0 I listed a w → wpAny P .any ops Q fuel listed a w
  | 0, listed, a, w, hs, hc, hd, hinv => by
    have hall : ∀ i, i < ops.size → listed.getD i true = true := by
      intro i hi
      have h0 : (List.range ops.size).countP (fun j => !listed.getD j true) = 0 := by omega
      have := List.countP_eq_zero.1 h0 i (List.mem_range.2 hi)
      simpa using this
    refine ⟨?_, hend listed a w hall hs hinv⟩
    unfold Region.ready
    refine List.filter_eq_nil_iff.2 fun i hi => ?_
    simp [hall i (List.mem_range.1 hi)]
  | fuel + 1, listed, a, w, hs, hc, hdn, hinv => by
    refine ⟨fun hr => hend listed a w (ready_all hok hs hr) hs hinv, fun i hi => ?_⟩
    obtain ⟨o, ho, hlt, hl, haft⟩ := ready_mem' hi
    have hcnt : (List.range ops.size).countP (fun j => !(listed.setIfInBounds i true).getD j true) ≤ fuel := by
      have := count_set (n := ops.size) hlt hs hl
      omega
    have hlf : listed.getD i false = false := by rw [← getD_both (by omega)]; exact hl
    have hstep := todoM_at ops.toList 0 i o htodo (by simpa using ho)
    rw [Nat.zero_add] at hstep
    have hstep := hstep (fun j => listed.getD j false) hlf (fun j hw => by
        obtain ⟨o', ho', e, he, hb, hon⟩ := waits_edge hw
        rw [ho] at ho'; cases ho'
        have := haft e he hb
        rwa [hon] at this) (fun j hw => by
        show listed.getD j false = false
        cases hq : listed.getD j false with
        | false => rfl
        | true =>
          have := needs_listed hdn 9 j i hw hq
          rw [hlf] at this
          cases this) a.eval w hinv.t (base_of a) (known_at hdn hlf hinv.keep _) (facts_of _ fun e he hb => by
            have h1 := haft e (by simpa using he) hb
            have h2 := ok_edge hok ho (by simpa using he) hb
            exact hinv.vals e.on (by omega) (by rw [getD_both (by omega)]; exact h1))
    have next : ∀ v w', Ended ops S V I (fun j => listed.getD j false) a.eval w i v w' → wpAny P .any ops Q fuel (listed.setIfInBounds i true) (a.put o.dst v) w' := by
      intro v w' ⟨hv, ht⟩
      obtain ⟨p1, p2, p3⟩ := put_restK (v := v) (by omega) ho hinv.defers hinv.size hinv.keep
      have hflag : ∀ j, (listed.setIfInBounds i true).getD j false = (j == i || listed.getD j false) := by
        intro j
        rw [getD_set' (by omega)]
        by_cases hj : j = i <;> simp [hj]
      refine multi_any hok hVT hIT hIS hV0 htodo hend fuel _ _ _ (by simpa using hs) hcnt (down_set hdn hs hlt ho haft) ⟨?_, p1, p2, p3, ?_⟩
      · by_cases hS : S.contains i = true
        · rw [if_pos hS] at ht
          exact hIS _ _ _ (fun j _ => (hflag j).symm) ht.1
        · rw [if_neg hS] at ht
          refine hIS _ _ _ (fun j hj => ?_) (hIT _ _ _ hinv.t ht)
          rw [hflag j]
          by_cases hji : j = i
          · rw [hji] at hj; exact absurd hj hS
          · simp [hji]
      · intro j hj hlj
        by_cases hji : j = i
        · rw [hji]
          cases hd : o.dst with
          | none =>
            have : slotOf ops (a.put Option.none v).eval i = undef := by simp [slotOf, ho, hd]
            rw [this]
            exact hV0 i o ho hd v w' hv
          | some d =>
            have := slot_self hok hinv.size ho v (by rw [hd]; intro h; cases h)
            rw [hd] at this
            rw [this]; exact hv
        · rw [slot_put hok hinv.size ho v hji]
          rw [getD_set (by omega), if_neg hji] at hlj
          have h0 := hinv.vals j hj hlj
          by_cases hS : S.contains i = true
          · rw [if_pos hS] at ht
            exact ht.2 j hji h0
          · rw [if_neg hS] at ht
            exact hVT _ _ _ _ h0 ht
    unfold wpOp
    simp only [ho]
    cases hg : o.guard with
    | none =>
      rw [hg] at hstep
      rw [if_pos (by simp [Region.wanted, hg])]
      exact .inl (wp_of_ok hstep fun v w' h _ => next v w' h)
    | some jw =>
      obtain ⟨j, want⟩ := jw
      rw [hg] at hstep
      obtain ⟨b, hb, h1, h2⟩ := hstep
      obtain ⟨o', d, ho', hd'⟩ := ok_guard hok ho hg
      have hy : yielded ops a.tmps j = some b := by
        simp only [slotOf, ho', hd', Act.eval, Array.getD_eq_getD_getElem?] at hb
        simp only [yielded, ho', hd', Option.bind_some]
        cases hx : a.tmps[d]? with
        | none => rw [hx] at hb; simp [undef] at hb
        | some x => rw [hx] at hb; simp only [Option.getD_some] at hb; subst hb; rfl
      by_cases hbw : b = want
      · rw [if_pos (by simp [Region.wanted, hg, hy, hbw])]
        exact .inl (wp_of_ok (h1 hbw) fun v w' h _ => next v w' h)
      · rw [if_neg (by simp [Region.wanted, hg, hy, hbw])]
        have h3 := h2 hbw
        exact next undef w ⟨h3.1, by rw [if_neg (by rw [h3.2]; decide)]; exact Stay.refl w⟩

end

def TrueAt (L : List (Value → World → Prop)) : List Nat → Prop
  | [] => True
  | i :: r => (vList L i = fun _ _ => True) ∧ TrueAt L r
theorem trueAt_mem {L : List (Value → World → Prop)} : ∀ {nd : List Nat}, TrueAt L nd → ∀ i ∈ nd, vList L i = fun _ _ => True
  | [], _, _, h => by simp at h
  | x :: r, h, i, hi => by
    rcases List.mem_cons.1 hi with rfl | hi
    · exact h.1
    · exact trueAt_mem h.2 i hi

/-- A REGION IN WHATEVER ORDER, with operations that turn what lies there: those of S; nd: those that leave no value -/
theorem wp_region_multi {P : Program} {id : Nat} {l : List Oper} {w0 : World} {a0 : Act} {Q : Exit → Act → World → Prop} (S nd : List Nat) (L : List (Value → World → Prop)) (hm : P.follows .mixedOrders = true) (hok : okOps l.toArray a0.tmps.size = true)
    (hds : ((List.range l.length).all fun i => nd.contains i || ((l[i]?).bind (·.dst)).isSome) = true) (hnd : TrueAt L nd) (I : (Nat → Bool) → World → Prop) (hI0 : I (fun _ => false) w0.drew) (hIT : ∀ f w w', I f w → Stay w w' → I f w')
    (hIS : ∀ f g w, (∀ j, S.contains j = true → f j = g j) → I f w → I g w) (hk : KeepAll L)
    (htodo : TodoM P l.toArray S (vList L) a0 I 0 l)
    (hend : ∀ w, I (fun _ => true) w → Rest (vList L) Q w 0 l a0) (hSl : (S.all fun i => decide (i < l.length)) = true) : (Code.region id l.toArray true).wp P Q a0 w0 := by
  refine wp_region_any hm ?_
  refine multi_any (V := vList L) (S := S) (a0 := a0) (I := I) hok (vTwo_keep hk) hIT hIS ?_ (by simpa using htodo) ?_ _ _ _ _ (by simp) ?_ ?_ ⟨?_, rfl, rfl, fun _ _ => rfl, ?_⟩
  · intro i o ho hd v w _
    have hi : i < l.length := by simpa using (Array.getElem?_eq_some_iff.1 ho).1
    have := List.all_eq_true.1 hds i (List.mem_range.2 hi)
    have ho' : l[i]? = some o := by simpa using ho
    have hc : i ∈ nd := by simpa [ho', hd] using this
    rw [trueAt_mem hnd i hc]
    trivial
  · intro listed a w hall hsz hinv
    have hv := hinv.vals
    have h := rest_ends (ev := a.eval) l 0 a0 (fun i o ho => by
      have hi : i < l.length := (List.getElem?_eq_some_iff.1 ho).1
      rw [Nat.zero_add]
      have := hv i (by simpa using hi) (hall i (by simpa using hi))
      simpa [slotOf, ho] using this) (hend w (hIS _ _ _ (fun j hj => by
        show listed.getD j false = true
        have hjl : j < l.length := by
          have hm : j ∈ S := by simpa using hj
          simpa using List.all_eq_true.1 hSl j hm
        rw [← getD_both (by rw [hsz]; simpa using hjl)]
        exact hall j (by simpa using hjl)) hinv.t))
    have : ends a0 a.eval l = a := by
      have h1 := ends_defers a.eval l a0
      have h2 : (ends a0 a.eval l).tmps = a.tmps := by
        apply Array.ext_getElem?
        intro t
        rw [ends_get]
        split
        · rename_i hc
          simp [Act.eval, hinv.size, hc.1]
        · rename_i hc
          by_cases ht : t < a0.tmps.size
          · refine (hinv.keep t fun i o ho _ e => hc ⟨ht, o, ?_, e⟩).symm
            have : l[i]? = some o := by simpa using ho
            exact List.mem_of_getElem? this
          · rw [Array.getElem?_eq_none (by omega), Array.getElem?_eq_none (by rw [hinv.size]; omega)]
      cases hx : ends a0 a.eval l with
      | mk t d =>
        rw [hx] at h1 h2
        cases a with
        | mk t' d' =>
          have h3 := hinv.defers
          simp only at h1 h2 h3
          rw [h2, h1, ← h3]
    rw [this] at h
    exact h
  · exact Nat.le_trans List.countP_le_length (by simp)
  · intro i o ho hl
    rw [Array.getD_eq_getD_getElem?, Array.getElem?_replicate] at hl
    split at hl <;> cases hl
  · refine hIS _ _ _ (fun j _ => ?_) hI0
    rw [Array.getD_eq_getD_getElem?, Array.getElem?_replicate]
    split <;> rfl
  · intro i hi hl
    rw [Array.getD_eq_getD_getElem?, Array.getElem?_replicate, if_pos hi] at hl
    cases hl

/-- what is known of one operation that was or wasn't carried out -/
theorem ended_stay {ops : Array Oper} {S : List Nat} {V : Nat → Value → World → Prop} {I : (Nat → Bool) → World → Prop} {f : Nat → Bool} {ev : Operand → Value} {w w' : World} {i : Nat} {v : Value} (hS : S.contains i = false) (hv : V i v w') (hs : Stay w w') : Ended ops S V I f ev w i v w' :=
  ⟨hv, by rw [if_neg (by rw [hS]; decide)]; exact hs⟩
theorem ended_turn {ops : Array Oper} {S : List Nat} {V : Nat → Value → World → Prop} {I : (Nat → Bool) → World → Prop} {f : Nat → Bool} {ev : Operand → Value} {w w' : World} {i : Nat} {v : Value} (hS : S.contains i = true) (hv : V i v w') (hI : I (fun j => j == i || f j) w') (hk : ∀ j v, V j v w → V j v w') : Ended ops S V I f ev w i v w' :=
  ⟨hv, by rw [if_pos hS]; exact ⟨hI, fun j _ h => hk j _ h⟩⟩
theorem free_keep {L : List (Value → World → Prop)} (h : ∀ p ∈ L, ∀ v w w', p v w → p v w') (w w' : World) (j : Nat) (v : Value) (hv : vList L j v w) : vList L j v w' := by
  unfold vList at hv ⊢
  cases hq : L[j]? with
  | none => rw [hq] at hv; exact hv
  | some P => rw [hq] at hv; exact h P (List.mem_of_getElem? hq) v w w' hv
end Multi
end Go.Proofs.YtgkofpfjbjnhfaaDoor
