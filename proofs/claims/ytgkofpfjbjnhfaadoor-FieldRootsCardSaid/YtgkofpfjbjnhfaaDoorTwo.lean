/- A statement whose operations may be carried out in more than one order, one of them a store: what is known of the slots is one thing ahead of the store, and another behind it. No Go function is spoken of here. -/
import Derived.Test.YtgkofpfjbjnhfaaDoorRow
namespace Go.Proofs.YtgkofpfjbjnhfaaDoor
open Go.RowKit
set_option linter.unusedVariables false
set_option linter.unusedSimpArgs false

theorem OpOk.store_row {P : Program} {o : Oper} {ev : Operand → Value} {W : World} {R : Value → World → Prop} (ty : TypeId) (x y : Operand) (ho : o.op = .store ty x y)
    (g : Nat) (cells : Array Value) (hx : ev x = .pointer (some ⟨g, 0, Option.none⟩)) (hy : ev y = .agg cells)
    (t : TypeId) (old : Array Value) (hg : W.heap[g]? = some (.cells old t (0, 0))) (hi : (P.info? ty).map (·.size) = some cells.size)
    (hold : old.size = cells.size) (h1 : cells.all (·.oneCell') = true) (h : R undef (W.setRow g cells)) : OpOk P o ev W R := by
  unfold OpOk execOp
  simp only [ho, hx, hy, Instr.storeAt, Instr.sureAddr, Sem.run_bind, Sem.run_pure, Result.andThen_ok, run_storeVar_row W g t ty old cells hg hi hold h1]
  exact h

def two (V V' : Nat → Value → World → Prop) (ph : Bool) : Nat → Value → World → Prop := if ph then V' else V

section
variable {P : Program} {n : Nat} {ops : Array Oper} {V V' : Nat → Value → World → Prop} {s : Nat} {a0 : Act} {w1 : World} {Q : Exit → Act → World → Prop}

/-- what is to be shown of each operation but the store -/
def Todo2 (P : Program) (ops : Array Oper) (V V' : Nat → Value → World → Prop) (s : Nat) (a0 : Act) (w1 : World) : Nat → List Oper → Prop
  | _, [] => True
  | i, o :: rest => (i ≠ s → ∀ (ph : Bool), (waits ops i s = true → ph = true) → (waits ops s i = true → ph = false) → ∀ (ev : Operand → Value) (w : World), Below w1.heap.size w1 w → Base ev → knownOf ops a0 ev o.op.operands.toList → factsOf ops (two V V' ph) ev w o.after.toList →
      match o.guard with
      | Option.none => OpOk P o ev w (fun v w' => two V V' ph i v w' ∧ Stay w w')
      | some (j, want) => ∃ b, slotOf ops ev j = .bool b ∧ (b = want → OpOk P o ev w (fun v w' => two V V' ph i v w' ∧ Stay w w')) ∧ (b ≠ want → two V V' ph i undef w)) ∧ Todo2 P ops V V' s a0 w1 (i + 1) rest
theorem todo2_at : ∀ (l : List Oper) (k i : Nat) (o : Oper), Todo2 P ops V V' s a0 w1 k l → l[i]? = some o →
    (k + i ≠ s → ∀ (ph : Bool), (waits ops (k + i) s = true → ph = true) → (waits ops s (k + i) = true → ph = false) → ∀ (ev : Operand → Value) (w : World), Below w1.heap.size w1 w → Base ev → knownOf ops a0 ev o.op.operands.toList → factsOf ops (two V V' ph) ev w o.after.toList →
      match o.guard with
      | Option.none => OpOk P o ev w (fun v w' => two V V' ph (k + i) v w' ∧ Stay w w')
      | some (j, want) => ∃ b, slotOf ops ev j = .bool b ∧ (b = want → OpOk P o ev w (fun v w' => two V V' ph (k + i) v w' ∧ Stay w w')) ∧ (b ≠ want → two V V' ph (k + i) undef w))
  | [], _, _, _, _, h => by simp at h
  | x :: l, k, 0, o, h, e => by simp at e; subst e; exact h.1
  | x :: l, k, i + 1, o, h, e => by
    have := todo2_at l (k + 1) i o h.2 (by simpa using e)
    rw [show k + (i + 1) = k + 1 + i by omega]
    exact this

/-- what is to be shown of the store -/
def StoreOk (P : Program) (ops : Array Oper) (V V' : Nat → Value → World → Prop) (s : Nat) (a0 : Act) (w1 : World) (o : Oper) : Prop :=
  ∀ (ev : Operand → Value) (w : World), Below w1.heap.size w1 w → Base ev → knownOf ops a0 ev o.op.operands.toList → factsOf ops V ev w o.after.toList →
    OpOk P o ev w (fun _ w' => Below w1.heap.size w1 w' ∧ ∀ i, i ≠ s → V i (slotOf ops ev i) w → V' i (slotOf ops ev i) w')

structure Inv2 (ops : Array Oper) (V V' : Nat → Value → World → Prop) (s : Nat) (a0 : Act) (w1 : World) (listed : Array Bool) (a : Act) (w : World) : Prop where
  t : Below w1.heap.size w1 w
  defers : a.defers = a0.defers
  size : a.tmps.size = a0.tmps.size
  keep : ∀ (t : Nat), (∀ (i : Nat) (o : Oper), ops[i]? = some o → o.dst ≠ some t) → a.tmps[t]? = a0.tmps[t]?
  vals : ∀ i, i < ops.size → i ≠ s → listed.getD i true = true → two V V' (listed.getD s false) i (slotOf ops a.eval i) w

theorem put_rest {i : Nat} {o : Oper} {a : Act} {v : Value} (ho : ops[i]? = some o) (hd : a.defers = a0.defers) (hs : a.tmps.size = a0.tmps.size) (hk : ∀ (t : Nat), (∀ (i : Nat) (o : Oper), ops[i]? = some o → o.dst ≠ some t) → a.tmps[t]? = a0.tmps[t]?) :
    (a.put o.dst v).defers = a0.defers ∧ (a.put o.dst v).tmps.size = a0.tmps.size ∧ ∀ (t : Nat), (∀ (i : Nat) (o : Oper), ops[i]? = some o → o.dst ≠ some t) → (a.put o.dst v).tmps[t]? = a0.tmps[t]? := by
  refine ⟨?_, ?_, ?_⟩
  · cases h : o.dst <;> simp [Act.put, hd]
  · cases h : o.dst <;> simp [Act.put, hs]
  · intro t htt
    cases h : o.dst with
    | none => exact hk t htt
    | some d =>
      have : d ≠ t := fun e => htt i o ho (by rw [h, e])
      simp only [Act.put]
      rw [Array.getElem?_setIfInBounds, if_neg this]
      exact hk t htt

theorem two_any (hok : okOps ops a0.tmps.size = true) (hVT : ∀ i v w w', V i v w → Stay w w' → V i v w') (hVT' : ∀ i v w w', V' i v w → Stay w w' → V' i v w') (hVs : ∀ v w, V' s v w)
    (os : Oper) (hos : ops[s]? = some os) (hsd : os.dst = Option.none) (hsg : os.guard = Option.none) (hds : ∀ (i : Nat) (o : Oper), i ≠ s → ops[i]? = some o → o.dst.isSome = true)
    (hst : StoreOk P ops V V' s a0 w1 os)
    (htodo : Todo2 P ops V V' s a0 w1 0 ops.toList) (hend : ∀ (listed : Array Bool) a w, (∀ i, i < ops.size → listed.getD i true = true) → listed.size = ops.size → Inv2 ops V V' s a0 w1 listed a w → Q .normal a w) :
    ∀ (fuel : Nat) (listed : Array Bool) (a : Act) (w : World), listed.size = ops.size → (List.range ops.size).countP (fun j => !listed.getD j true) ≤ fuel → Down ops listed → Inv2 ops V V' s a0 w1 listed a w → wpAny P .any ops Q fuel listed a w
  | 0, listed, a, w, hs, hc, hd, hinv => by
    have hall : ∀ i, i < ops.size → listed.getD i true = true := by
      intro i hi
      have h0 : (List.range ops.size).countP (fun j => !listed.getD j true) = 0 := by omega
      have := List.countP_eq_zero.1 h0 i (List.mem_range.2 hi)
      simpa using this
    refine ⟨?_, hend listed a w hall hs hinv⟩
    unfold Region.ready
    refine List.filter_eq_nil_iff.2 fun i hi => ?_
    simp [hall i (List.mem_range.1 hi)]
  | fuel + 1, listed, a, w, hs, hc, hdn, hinv => by
    refine ⟨fun hr => hend listed a w (ready_all hok hs hr) hs hinv, fun i hi => ?_⟩
    obtain ⟨o, ho, hlt, hl, haft⟩ := ready_mem' hi
    have hss : s < ops.size := (Array.getElem?_eq_some_iff.1 hos).1
    have hcnt : (List.range ops.size).countP (fun j => !(listed.setIfInBounds i true).getD j true) ≤ fuel := by
      have := count_set (n := ops.size) hlt hs hl
      omega
    by_cases his : i = s
    · rw [his] at ho hlt hl hcnt ⊢
      clear his hi
      have hoo : o = os := by rw [ho] at hos; exact Option.some.inj hos
      rw [hoo] at ho haft
      clear hoo
      have hlf : listed.getD s false = false := by rw [← getD_both (by omega)]; exact hl
      have hvals := hinv.vals
      rw [hlf] at hvals
      have hfac : factsOf ops V a.eval w os.after.toList := facts_of _ fun e he hb => by
        have h1 := haft e (by simpa using he) hb
        have h2 := ok_edge hok ho (by simpa using he) hb
        exact hvals e.on (by omega) (by omega) (by rw [getD_both (by omega)]; exact h1)
      have hstep := hst a.eval w hinv.t (base_of a) (known_of hinv.keep _) hfac
      unfold wpOp
      simp only [ho, hsg]
      rw [if_pos (by simp [Region.wanted, hsg])]
      refine .inl (wp_of_ok hstep fun v w' h _ => ?_)
      obtain ⟨h1, h2⟩ := h
      obtain ⟨p1, p2, p3⟩ := put_rest (v := v) ho hinv.defers hinv.size hinv.keep
      refine two_any hok hVT hVT' hVs os hos hsd hsg hds hst htodo hend fuel _ _ _ (by simpa using hs) hcnt (down_set hdn hs hlt ho haft) ⟨h1, p1, p2, p3, ?_⟩
      intro j hj hjs hlj
      have hsl : (listed.setIfInBounds s true).getD s false = true := by rw [getD_set' (by omega), if_pos rfl]
      rw [hsl]
      rw [getD_set (by omega), if_neg hjs] at hlj
      rw [slot_put hok hinv.size ho v hjs]
      exact h2 j hjs (hvals j hj hjs hlj)
    · have hset : (listed.setIfInBounds i true).getD s false = listed.getD s false := by rw [getD_set' (by omega), if_neg (fun e => his e.symm)]
      have hstep := todo2_at ops.toList 0 i o htodo (by simpa using ho)
      rw [Nat.zero_add] at hstep
      have hstep := hstep his (listed.getD s false) (fun hw => by
        obtain ⟨o', ho', e, he, hb, hon⟩ := waits_edge hw
        rw [ho] at ho'; cases ho'
        have := haft e he hb
        rwa [hon] at this) (fun hw => by
        obtain ⟨o', ho', e, he, hb, hon⟩ := waits_edge hw
        cases hq : listed.getD s false with
        | false => rfl
        | true =>
          have := hdn s o' ho' hq e he hb
          rw [hon, ← getD_both (by omega), hl] at this
          cases this) a.eval w hinv.t (base_of a) (known_of hinv.keep _) (facts_of _ fun e he hb => by
            have h1 := haft e (by simpa using he) hb
            have h2 := ok_edge hok ho (by simpa using he) hb
            by_cases hes : e.on = s
            · rw [hes] at h1
              rw [h1, hes]
              exact hVs _ _
            · exact hinv.vals e.on (by omega) hes (by rw [getD_both (by omega)]; exact h1))
      have next : ∀ v w', two V V' (listed.getD s false) i v w' ∧ Stay w w' → wpAny P .any ops Q fuel (listed.setIfInBounds i true) (a.put o.dst v) w' := by
        intro v w' ⟨hv, ht⟩
        obtain ⟨p1, p2, p3⟩ := put_rest (v := v) ho hinv.defers hinv.size hinv.keep
        refine two_any hok hVT hVT' hVs os hos hsd hsg hds hst htodo hend fuel _ _ _ (by simpa using hs) hcnt (down_set hdn hs hlt ho haft) ⟨hinv.t.trans (ht.mono hinv.t.size), p1, p2, p3, ?_⟩
        intro j hj hjs hlj
        rw [hset]
        by_cases hji : j = i
        · rw [hji]
          obtain ⟨d, hd⟩ := Option.isSome_iff_exists.1 (hds i o his ho)
          have := slot_self hok hinv.size ho v (by rw [hd]; intro h; cases h)
          rw [this]; exact hv
        · rw [slot_put hok hinv.size ho v hji]
          rw [getD_set (by omega), if_neg hji] at hlj
          have h0 := hinv.vals j hj hjs hlj
          cases hq : listed.getD s false with
          | false => rw [hq] at h0; exact hVT _ _ _ _ h0 ht
          | true => rw [hq] at h0; exact hVT' _ _ _ _ h0 ht
      unfold wpOp
      simp only [ho]
      cases hg : o.guard with
      | none =>
        rw [hg] at hstep
        rw [if_pos (by simp [Region.wanted, hg])]
        exact .inl (wp_of_ok hstep fun v w' h _ => next v w' h)
      | some jw =>
        obtain ⟨j, want⟩ := jw
        rw [hg] at hstep
        obtain ⟨b, hb, h1, h2⟩ := hstep
        obtain ⟨o', d, ho', hd'⟩ := ok_guard hok ho hg
        have hy : yielded ops a.tmps j = some b := by
          simp only [slotOf, ho', hd', Act.eval, Array.getD_eq_getD_getElem?] at hb
          simp only [yielded, ho', hd', Option.bind_some]
          cases hx : a.tmps[d]? with
          | none => rw [hx] at hb; simp [undef] at hb
          | some x => rw [hx] at hb; simp only [Option.getD_some] at hb; subst hb; rfl
        by_cases hbw : b = want
        · rw [if_pos (by simp [Region.wanted, hg, hy, hbw])]
          exact .inl (wp_of_ok (h1 hbw) fun v w' h _ => next v w' h)
        · rw [if_neg (by simp [Region.wanted, hg, hy, hbw])]
          exact next undef w ⟨h2 hbw, Stay.refl w⟩

end

theorem vTwo_keep {L : List (Value → World → Prop)} (h : KeepAll L) : ∀ i v w w', vList L i v w → Stay w w' → vList L i v w' := vList_keep h.mem

/-- A REGION IN WHATEVER ORDER, with one store, number s -/
theorem wp_region_store {P : Program} {id : Nat} {l : List Oper} {w0 : World} {a0 : Act} {Q : Exit → Act → World → Prop} (s : Nat) (L L' : List (Value → World → Prop)) (os : Oper) (hos : l[s]? = some os) (hm : P.follows .mixedOrders = true) (hok : okOps l.toArray a0.tmps.size = true)
    (hsd : os.dst = Option.none) (hsg : os.guard = Option.none) (hds : ((List.range l.length).all fun i => i == s || ((l[i]?).bind (·.dst)).isSome) = true) (hVs : L'[s]? = Option.none ∨ L'[s]? = some (fun _ _ => True)) (hk : KeepAll L) (hk' : KeepAll L')
    (hst : StoreOk P l.toArray (vList L) (vList L') s a0 w0.drew os) (htodo : Todo2 P l.toArray (vList L) (vList L') s a0 w0.drew 0 l)
    (hend : ∀ w, Below w0.heap.size w0 w → Rest (vList L') Q w 0 l a0) : (Code.region id l.toArray true).wp P Q a0 w0 := by
  refine wp_region_any hm ?_
  have hVs' : ∀ v w, vList L' s v w := fun v w => by
    unfold vList
    rcases hVs with h | h <;> rw [h] <;> trivial
  refine two_any (V := vList L) (V' := vList L') (s := s) (a0 := a0) (w1 := w0.drew) hok (vTwo_keep hk) (vTwo_keep hk') hVs' os (by simpa using hos) hsd hsg ?_ hst (by simpa using htodo) ?_ _ _ _ _ (by simp) ?_ ?_ ⟨Below.refl _ _, rfl, rfl, fun _ _ => rfl, ?_⟩
  · intro i o his ho
    have hi : i < l.length := by simpa using (Array.getElem?_eq_some_iff.1 ho).1
    have := List.all_eq_true.1 hds i (List.mem_range.2 hi)
    have ho' : l[i]? = some o := by simpa using ho
    simpa [his, ho'] using this
  · intro listed a w hall hsz hinv
    have hs : s < l.length := (List.getElem?_eq_some_iff.1 hos).1
    have hls : listed.getD s false = true := by rw [← getD_both (by simpa [hsz] using hs)]; exact hall s (by simpa using hs)
    have hv := hinv.vals
    rw [hls] at hv
    have h := rest_ends (ev := a.eval) l 0 a0 (fun i o ho => by
      have hi : i < l.length := (List.getElem?_eq_some_iff.1 ho).1
      rw [Nat.zero_add]
      by_cases his : i = s
      · rw [his]; exact hVs' _ _
      · have := hv i (by simpa using hi) his (hall i (by simpa using hi))
        simpa [slotOf, ho, two] using this) (hend w ⟨hinv.t.os, hinv.t.tape, hinv.t.output, hinv.t.size, hinv.t.block⟩)
    have : ends a0 a.eval l = a := by
      have h1 := ends_defers a.eval l a0
      have h2 : (ends a0 a.eval l).tmps = a.tmps := by
        apply Array.ext_getElem?
        intro t
        rw [ends_get]
        split
        · rename_i hc
          simp [Act.eval, hinv.size, hc.1]
        · rename_i hc
          by_cases ht : t < a0.tmps.size
          · refine (hinv.keep t fun i o ho e => hc ⟨ht, o, ?_, e⟩).symm
            have : l[i]? = some o := by simpa using ho
            exact List.mem_of_getElem? this
          · rw [Array.getElem?_eq_none (by omega), Array.getElem?_eq_none (by rw [hinv.size]; omega)]
      cases hx : ends a0 a.eval l with
      | mk t d =>
        rw [hx] at h1 h2
        cases a with
        | mk t' d' =>
          have h3 := hinv.defers
          simp only at h1 h2 h3
          rw [h2, h1, ← h3]
    rw [this] at h
    exact h
  · exact Nat.le_trans List.countP_le_length (by simp)
  · intro i o ho hl
    rw [Array.getD_eq_getD_getElem?, Array.getElem?_replicate] at hl
    split at hl <;> cases hl
  · intro i hi his hl
    rw [Array.getD_eq_getD_getElem?, Array.getElem?_replicate, if_pos hi] at hl
    cases hl
end Go.Proofs.YtgkofpfjbjnhfaaDoor
