/- LAID TOGETHER: Two, App, AppK, Multi2, Set, Seq, Part, FreeG, Multi. -/
import Derived.Test.YtgmpmlneoiagdaaGreatDoorGBase
/- A statement whose operations may be carried out in more than one order, one of them a store: what is known of the slots is one thing ahead of the store, and another behind it. No Go function is spoken of here. -/
namespace Go.Proofs.YtgmpmlneoiagdaaGreatDoor
open Go.RowKit
set_option linter.unusedVariables false
set_option linter.unusedSimpArgs false

theorem OpOk.store_row {P : Program} {o : Oper} {ev : Operand → Value} {W : World} {R : Value → World → Prop} (ty : TypeId) (x y : Operand) (ho : o.op = .store ty x y)
    (g : Nat) (cells : Array Value) (hx : ev x = .pointer (some ⟨g, 0, Option.none⟩)) (hy : ev y = .agg cells)
    (t : TypeId) (old : Array Value) (hg : W.heap[g]? = some (.cells old t (0, 0))) (hi : (P.info? ty).map (·.size) = some cells.size)
    (hold : old.size = cells.size) (h1 : cells.all (·.oneCell') = true) (h : R undef (W.setRow g cells)) : OpOk P o ev W R := by
  unfold OpOk execOp
  simp only [ho, hx, hy, Instr.storeAt, Instr.sureAddr, Sem.run_bind, Sem.run_pure, Result.andThen_ok, run_storeVar_row W g t ty old cells hg hi hold h1]
  exact h

def two (V V' : Nat → Value → World → Prop) (ph : Bool) : Nat → Value → World → Prop := if ph then V' else V

section
variable {P : Program} {n : Nat} {ops : Array Oper} {V V' : Nat → Value → World → Prop} {s : Nat} {a0 : Act} {w1 : World} {Q : Exit → Act → World → Prop}

/-- what is to be shown of each operation but the store -/
def Todo2 (P : Program) (ops : Array Oper) (V V' : Nat → Value → World → Prop) (s : Nat) (a0 : Act) (w1 : World) : Nat → List Oper → Prop
  | _, [] => True
  | i, o :: rest => (i ≠ s → ∀ (ph : Bool), (waits ops i s = true → ph = true) → (waits ops s i = true → ph = false) → ∀ (ev : Operand → Value) (w : World), Below w1.heap.size w1 w → Base ev → knownOf ops a0 ev o.op.operands.toList → factsOf ops (two V V' ph) ev w o.after.toList →
      match o.guard with
      | Option.none => OpOk P o ev w (fun v w' => two V V' ph i v w' ∧ Stay w w')
      | some (j, want) => ∃ b, slotOf ops ev j = .bool b ∧ (b = want → OpOk P o ev w (fun v w' => two V V' ph i v w' ∧ Stay w w')) ∧ (b ≠ want → two V V' ph i undef w)) ∧ Todo2 P ops V V' s a0 w1 (i + 1) rest
theorem todo2_at : ∀ (l : List Oper) (k i : Nat) (o : Oper), Todo2 P ops V V' s a0 w1 k l → l[i]? = some o →
    (k + i ≠ s → ∀ (ph : Bool), (waits ops (k + i) s = true → ph = true) → (waits ops s (k + i) = true → ph = false) → ∀ (ev : Operand → Value) (w : World), Below w1.heap.size w1 w → Base ev → knownOf ops a0 ev o.op.operands.toList → factsOf ops (two V V' ph) ev w o.after.toList →
      match o.guard with
      | Option.none => OpOk P o ev w (fun v w' => two V V' ph (k + i) v w' ∧ Stay w w')
      | some (j, want) => ∃ b, slotOf ops ev j = .bool b ∧ (b = want → OpOk P o ev w (fun v w' => two V V' ph (k + i) v w' ∧ Stay w w')) ∧ (b ≠ want → two V V' ph (k + i) undef w))
  | [], _, _, _, _, h => by simp at h
  | x :: l, k, 0, o, h, e => by simp at e; subst e; exact h.1
  | x :: l, k, i + 1, o, h, e => by
    have := todo2_at l (k + 1) i o h.2 (by simpa using e)
    rw [show k + (i + 1) = k + 1 + i by omega]
    exact this

/-- what is to be shown of the store -/
def StoreOk (P : Program) (ops : Array Oper) (V V' : Nat → Value → World → Prop) (s : Nat) (a0 : Act) (w1 : World) (o : Oper) : Prop :=
  ∀ (ev : Operand → Value) (w : World), Below w1.heap.size w1 w → Base ev → knownOf ops a0 ev o.op.operands.toList → factsOf ops V ev w o.after.toList →
    OpOk P o ev w (fun _ w' => Below w1.heap.size w1 w' ∧ ∀ i, i ≠ s → V i (slotOf ops ev i) w → V' i (slotOf ops ev i) w')

structure Inv2 (ops : Array Oper) (V V' : Nat → Value → World → Prop) (s : Nat) (a0 : Act) (w1 : World) (listed : Array Bool) (a : Act) (w : World) : Prop where
  t : Below w1.heap.size w1 w
  defers : a.defers = a0.defers
  size : a.tmps.size = a0.tmps.size
  keep : ∀ (t : Nat), (∀ (i : Nat) (o : Oper), ops[i]? = some o → o.dst ≠ some t) → a.tmps[t]? = a0.tmps[t]?
  vals : ∀ i, i < ops.size → i ≠ s → listed.getD i true = true → two V V' (listed.getD s false) i (slotOf ops a.eval i) w

theorem put_rest {i : Nat} {o : Oper} {a : Act} {v : Value} (ho : ops[i]? = some o) (hd : a.defers = a0.defers) (hs : a.tmps.size = a0.tmps.size) (hk : ∀ (t : Nat), (∀ (i : Nat) (o : Oper), ops[i]? = some o → o.dst ≠ some t) → a.tmps[t]? = a0.tmps[t]?) :
    (a.put o.dst v).defers = a0.defers ∧ (a.put o.dst v).tmps.size = a0.tmps.size ∧ ∀ (t : Nat), (∀ (i : Nat) (o : Oper), ops[i]? = some o → o.dst ≠ some t) → (a.put o.dst v).tmps[t]? = a0.tmps[t]? := by
  refine ⟨?_, ?_, ?_⟩
  · cases h : o.dst <;> simp [Act.put, hd]
  · cases h : o.dst <;> simp [Act.put, hs]
  · intro t htt
    cases h : o.dst with
    | none => exact hk t htt
    | some d =>
      have : d ≠ t := fun e => htt i o ho (by rw [h, e])
      simp only [Act.put]
      rw [Array.getElem?_setIfInBounds, if_neg this]
      exact hk t htt

theorem two_any (hok : okOps ops a0.tmps.size = true) (hVT : ∀ i v w w', V i v w → Stay w w' → V i v w') (hVT' : ∀ i v w w', V' i v w → Stay w w' → V' i v w') (hVs : ∀ v w, V' s v w)
    (os : Oper) (hos : ops[s]? = some os) (hsd : os.dst = Option.none) (hsg : os.guard = Option.none) (hds : ∀ (i : Nat) (o : Oper), i ≠ s → ops[i]? = some o → o.dst.isSome = true)
    (hst : StoreOk P ops V V' s a0 w1 os)
    (htodo : Todo2 P ops V V' s a0 w1 0 ops.toList) (hend : ∀ (listed : Array Bool) a w, (∀ i, i < ops.size → listed.getD i true = true) → listed.size = ops.size → Inv2 ops V V' s a0 w1 listed a w → Q .normal a w) :
    ∀ (fuel : Nat) (listed : Array Bool) (a : Act) (w : World), listed.size = ops.size → (List.range ops.size).countP (fun j => !listed.getD j true) ≤ fuel → Down ops listed → Inv2 ops V V' s a0 w1 listed a w → wpAny P .any ops Q fuel listed a w
  | 0, listed, a, w, hs, hc, hd, hinv => by
    have hall : ∀ i, i < ops.size → listed.getD i true = true := by
      intro i hi
      have h0 : (List.range ops.size).countP (fun j => !listed.getD j true) = 0 := by omega
      have := List.countP_eq_zero.1 h0 i (List.mem_range.2 hi)
      simpa using this
    refine ⟨?_, hend listed a w hall hs hinv⟩
    unfold Region.ready
    refine List.filter_eq_nil_iff.2 fun i hi => ?_
    simp [hall i (List.mem_range.1 hi)]
  | fuel + 1, listed, a, w, hs, hc, hdn, hinv => by
    refine ⟨fun hr => hend listed a w (ready_all hok hs hr) hs hinv, fun i hi => ?_⟩
    obtain ⟨o, ho, hlt, hl, haft⟩ := ready_mem' hi
    have hss : s < ops.size := (Array.getElem?_eq_some_iff.1 hos).1
    have hcnt : (List.range ops.size).countP (fun j => !(listed.setIfInBounds i true).getD j true) ≤ fuel := by
      have := count_set (n := ops.size) hlt hs hl
      omega
    by_cases his : i = s
    · rw [his] at ho hlt hl hcnt ⊢
      clear his hi
      have hoo : o = os := by rw [ho] at hos; exact Option.some.inj hos
      rw [hoo] at ho haft
      clear hoo
      have hlf : listed.getD s false = false := by rw [← getD_both (by omega)]; exact hl
      have hvals := hinv.vals
      rw [hlf] at hvals
      have hfac : factsOf ops V a.eval w os.after.toList := facts_of _ fun e he hb => by
        have h1 := haft e (by simpa using he) hb
        have h2 := ok_edge hok ho (by simpa using he) hb
        exact hvals e.on (by omega) (by omega) (by rw [getD_both (by omega)]; exact h1)
      have hstep := hst a.eval w hinv.t (base_of a) (known_of hinv.keep _) hfac
      unfold wpOp
      simp only [ho, hsg]
      rw [if_pos (by simp [Region.wanted, hsg])]
      refine .inl (wp_of_ok hstep fun v w' h _ => ?_)
      obtain ⟨h1, h2⟩ := h
      obtain ⟨p1, p2, p3⟩ := put_rest (v := v) ho hinv.defers hinv.size hinv.keep
      refine two_any hok hVT hVT' hVs os hos hsd hsg hds hst htodo hend fuel _ _ _ (by simpa using hs) hcnt (down_set hdn hs hlt ho haft) ⟨h1, p1, p2, p3, ?_⟩
      intro j hj hjs hlj
      have hsl : (listed.setIfInBounds s true).getD s false = true := by rw [getD_set' (by omega), if_pos rfl]
      rw [hsl]
      rw [getD_set (by omega), if_neg hjs] at hlj
      rw [slot_put hok hinv.size ho v hjs]
      exact h2 j hjs (hvals j hj hjs hlj)
    · have hset : (listed.setIfInBounds i true).getD s false = listed.getD s false := by rw [getD_set' (by omega), if_neg (fun e => his e.symm)]
      have hstep := todo2_at ops.toList 0 i o htodo (by simpa using ho)
      rw [Nat.zero_add] at hstep
      have hstep := hstep his (listed.getD s false) (fun hw => by
        obtain ⟨o', ho', e, he, hb, hon⟩ := waits_edge hw
        rw [ho] at ho'; cases ho'
        have := haft e he hb
        rwa [hon] at this) (fun hw => by
        obtain ⟨o', ho', e, he, hb, hon⟩ := waits_edge hw
        cases hq : listed.getD s false with
        | false => rfl
        | true =>
          have := hdn s o' ho' hq e he hb
          rw [hon, ← getD_both (by omega), hl] at this
          cases this) a.eval w hinv.t (base_of a) (known_of hinv.keep _) (facts_of _ fun e he hb => by
            have h1 := haft e (by simpa using he) hb
            have h2 := ok_edge hok ho (by simpa using he) hb
            by_cases hes : e.on = s
            · rw [hes] at h1
              rw [h1, hes]
              exact hVs _ _
            · exact hinv.vals e.on (by omega) hes (by rw [getD_both (by omega)]; exact h1))
      have next : ∀ v w', two V V' (listed.getD s false) i v w' ∧ Stay w w' → wpAny P .any ops Q fuel (listed.setIfInBounds i true) (a.put o.dst v) w' := by
        intro v w' ⟨hv, ht⟩
        obtain ⟨p1, p2, p3⟩ := put_rest (v := v) ho hinv.defers hinv.size hinv.keep
        refine two_any hok hVT hVT' hVs os hos hsd hsg hds hst htodo hend fuel _ _ _ (by simpa using hs) hcnt (down_set hdn hs hlt ho haft) ⟨hinv.t.trans (ht.mono hinv.t.size), p1, p2, p3, ?_⟩
        intro j hj hjs hlj
        rw [hset]
        by_cases hji : j = i
        · rw [hji]
          obtain ⟨d, hd⟩ := Option.isSome_iff_exists.1 (hds i o his ho)
          have := slot_self hok hinv.size ho v (by rw [hd]; intro h; cases h)
          rw [this]; exact hv
        · rw [slot_put hok hinv.size ho v hji]
          rw [getD_set (by omega), if_neg hji] at hlj
          have h0 := hinv.vals j hj hjs hlj
          cases hq : listed.getD s false with
          | false => rw [hq] at h0; exact hVT _ _ _ _ h0 ht
          | true => rw [hq] at h0; exact hVT' _ _ _ _ h0 ht
      unfold wpOp
      simp only [ho]
      cases hg : o.guard with
      | none =>
        rw [hg] at hstep
        rw [if_pos (by simp [Region.wanted, hg])]
        exact .inl (wp_of_ok hstep fun v w' h _ => next v w' h)
      | some jw =>
        obtain ⟨j, want⟩ := jw
        rw [hg] at hstep
        obtain ⟨b, hb, h1, h2⟩ := hstep
        obtain ⟨o', d, ho', hd'⟩ := ok_guard hok ho hg
        have hy : yielded ops a.tmps j = some b := by
          simp only [slotOf, ho', hd', Act.eval, Array.getD_eq_getD_getElem?] at hb
          simp only [yielded, ho', hd', Option.bind_some]
          cases hx : a.tmps[d]? with
          | none => rw [hx] at hb; simp [undef] at hb
          | some x => rw [hx] at hb; simp only [Option.getD_some] at hb; subst hb; rfl
        by_cases hbw : b = want
        · rw [if_pos (by simp [Region.wanted, hg, hy, hbw])]
          exact .inl (wp_of_ok (h1 hbw) fun v w' h _ => next v w' h)
        · rw [if_neg (by simp [Region.wanted, hg, hy, hbw])]
          exact next undef w ⟨h2 hbw, Stay.refl w⟩

end

theorem vTwo_keep {L : List (Value → World → Prop)} (h : KeepAll L) : ∀ i v w w', vList L i v w → Stay w w' → vList L i v w' := vList_keep h.mem

/-- A REGION IN WHATEVER ORDER, with one store, number s -/
theorem wp_region_store {P : Program} {id : Nat} {l : List Oper} {w0 : World} {a0 : Act} {Q : Exit → Act → World → Prop} (s : Nat) (L L' : List (Value → World → Prop)) (os : Oper) (hos : l[s]? = some os) (hm : P.follows .mixedOrders = true) (hok : okOps l.toArray a0.tmps.size = true)
    (hsd : os.dst = Option.none) (hsg : os.guard = Option.none) (hds : ((List.range l.length).all fun i => i == s || ((l[i]?).bind (·.dst)).isSome) = true) (hVs : L'[s]? = Option.none ∨ L'[s]? = some (fun _ _ => True)) (hk : KeepAll L) (hk' : KeepAll L')
    (hst : StoreOk P l.toArray (vList L) (vList L') s a0 w0.drew os) (htodo : Todo2 P l.toArray (vList L) (vList L') s a0 w0.drew 0 l)
    (hend : ∀ w, Below w0.heap.size w0 w → Rest (vList L') Q w 0 l a0) : (Code.region id l.toArray true).wp P Q a0 w0 := by
  refine wp_region_any hm ?_
  have hVs' : ∀ v w, vList L' s v w := fun v w => by
    unfold vList
    rcases hVs with h | h <;> rw [h] <;> trivial
  refine two_any (V := vList L) (V' := vList L') (s := s) (a0 := a0) (w1 := w0.drew) hok (vTwo_keep hk) (vTwo_keep hk') hVs' os (by simpa using hos) hsd hsg ?_ hst (by simpa using htodo) ?_ _ _ _ _ (by simp) ?_ ?_ ⟨Below.refl _ _, rfl, rfl, fun _ _ => rfl, ?_⟩
  · intro i o his ho
    have hi : i < l.length := by simpa using (Array.getElem?_eq_some_iff.1 ho).1
    have := List.all_eq_true.1 hds i (List.mem_range.2 hi)
    have ho' : l[i]? = some o := by simpa using ho
    simpa [his, ho'] using this
  · intro listed a w hall hsz hinv
    have hs : s < l.length := (List.getElem?_eq_some_iff.1 hos).1
    have hls : listed.getD s false = true := by rw [← getD_both (by simpa [hsz] using hs)]; exact hall s (by simpa using hs)
    have hv := hinv.vals
    rw [hls] at hv
    have h := rest_ends (ev := a.eval) l 0 a0 (fun i o ho => by
      have hi : i < l.length := (List.getElem?_eq_some_iff.1 ho).1
      rw [Nat.zero_add]
      by_cases his : i = s
      · rw [his]; exact hVs' _ _
      · have := hv i (by simpa using hi) his (hall i (by simpa using hi))
        simpa [slotOf, ho, two] using this) (hend w ⟨hinv.t.os, hinv.t.tape, hinv.t.output, hinv.t.size, hinv.t.block⟩)
    have : ends a0 a.eval l = a := by
      have h1 := ends_defers a.eval l a0
      have h2 : (ends a0 a.eval l).tmps = a.tmps := by
        apply Array.ext_getElem?
        intro t
        rw [ends_get]
        split
        · rename_i hc
          simp [Act.eval, hinv.size, hc.1]
        · rename_i hc
          by_cases ht : t < a0.tmps.size
          · refine (hinv.keep t fun i o ho e => hc ⟨ht, o, ?_, e⟩).symm
            have : l[i]? = some o := by simpa using ho
            exact List.mem_of_getElem? this
          · rw [Array.getElem?_eq_none (by omega), Array.getElem?_eq_none (by rw [hinv.size]; omega)]
      cases hx : ends a0 a.eval l with
      | mk t d =>
        rw [hx] at h1 h2
        cases a with
        | mk t' d' =>
          have h3 := hinv.defers
          simp only at h1 h2 h3
          rw [h2, h1, ← h3]
    rw [this] at h
    exact h
  · exact Nat.le_trans List.countP_le_length (by simp)
  · intro i o ho hl
    rw [Array.getD_eq_getD_getElem?, Array.getElem?_replicate] at hl
    split at hl <;> cases hl
  · intro i hi his hl
    rw [Array.getD_eq_getD_getElem?, Array.getElem?_replicate, if_pos hi] at hl
    cases hl
end Go.Proofs.YtgmpmlneoiagdaaGreatDoor

/- A statement whose operations may be carried out in more than one order, one of them one that turns what lies there and has a value (an append to one's own slice): what is known of the slots is one thing ahead of it, and another behind it; of the world what is kept all the time. No Go function is spoken of here. -/
namespace Go.Proofs.YtgmpmlneoiagdaaGreatDoor
open Go.RowKit
set_option linter.unusedVariables false
set_option linter.unusedSimpArgs false

section
variable {P : Program} {n : Nat} {ops : Array Oper} {V V' : Nat → Value → World → Prop} {s : Nat} {a0 : Act} {I : Bool → World → Prop} {Q : Exit → Act → World → Prop}

/-- what is to be shown of each operation but the store -/
def TodoA (P : Program) (ops : Array Oper) (V V' : Nat → Value → World → Prop) (s : Nat) (a0 : Act) (I : Bool → World → Prop) : Nat → List Oper → Prop
  | _, [] => True
  | i, o :: rest => (i ≠ s → ∀ (ph : Bool), (waits ops i s = true → ph = true) → (waits ops s i = true → ph = false) → ∀ (ev : Operand → Value) (w : World), I ph w → Base ev → knownOf ops a0 ev o.op.operands.toList → factsOf ops (two V V' ph) ev w o.after.toList →
      match o.guard with
      | Option.none => OpOk P o ev w (fun v w' => two V V' ph i v w' ∧ Stay w w')
      | some (j, want) => ∃ b, slotOf ops ev j = .bool b ∧ (b = want → OpOk P o ev w (fun v w' => two V V' ph i v w' ∧ Stay w w')) ∧ (b ≠ want → two V V' ph i undef w)) ∧ TodoA P ops V V' s a0 I (i + 1) rest
theorem todoA_at : ∀ (l : List Oper) (k i : Nat) (o : Oper), TodoA P ops V V' s a0 I k l → l[i]? = some o →
    (k + i ≠ s → ∀ (ph : Bool), (waits ops (k + i) s = true → ph = true) → (waits ops s (k + i) = true → ph = false) → ∀ (ev : Operand → Value) (w : World), I ph w → Base ev → knownOf ops a0 ev o.op.operands.toList → factsOf ops (two V V' ph) ev w o.after.toList →
      match o.guard with
      | Option.none => OpOk P o ev w (fun v w' => two V V' ph (k + i) v w' ∧ Stay w w')
      | some (j, want) => ∃ b, slotOf ops ev j = .bool b ∧ (b = want → OpOk P o ev w (fun v w' => two V V' ph (k + i) v w' ∧ Stay w w')) ∧ (b ≠ want → two V V' ph (k + i) undef w))
  | [], _, _, _, _, h => by simp at h
  | x :: l, k, 0, o, h, e => by simp at e; subst e; exact h.1
  | x :: l, k, i + 1, o, h, e => by
    have := todoA_at l (k + 1) i o h.2 (by simpa using e)
    rw [show k + (i + 1) = k + 1 + i by omega]
    exact this

/-- what is to be shown of the store -/
def AppOk (P : Program) (ops : Array Oper) (V V' : Nat → Value → World → Prop) (s : Nat) (a0 : Act) (I : Bool → World → Prop) (o : Oper) : Prop :=
  ∀ (ev : Operand → Value) (w : World), I false w → Base ev → knownOf ops a0 ev o.op.operands.toList → factsOf ops V ev w o.after.toList →
    OpOk P o ev w (fun v w' => I true w' ∧ V' s v w' ∧ ∀ i, i ≠ s → V i (slotOf ops ev i) w → V' i (slotOf ops ev i) w')

structure InvA (ops : Array Oper) (V V' : Nat → Value → World → Prop) (s : Nat) (a0 : Act) (I : Bool → World → Prop) (listed : Array Bool) (a : Act) (w : World) : Prop where
  t : I (listed.getD s false) w
  defers : a.defers = a0.defers
  size : a.tmps.size = a0.tmps.size
  keep : ∀ (t : Nat), (∀ (i : Nat) (o : Oper), ops[i]? = some o → o.dst ≠ some t) → a.tmps[t]? = a0.tmps[t]?
  vals : ∀ i, i < ops.size → listed.getD i true = true → two V V' (listed.getD s false) i (slotOf ops a.eval i) w

end

end Go.Proofs.YtgmpmlneoiagdaaGreatDoor

/- A statement whose operations may be carried out in more than one order, one of them one that turns what lies there and has a value (an append to one's own slice): what is known of the slots is one thing ahead of it, and another behind it; of the world what is kept all the time. No Go function is spoken of here. -/
namespace Go.Proofs.YtgmpmlneoiagdaaGreatDoor
namespace AppK
open Go.RowKit
set_option linter.unusedVariables false
set_option linter.unusedSimpArgs false

/-- s waits for i, by way of others perhaps -/
def needs (ops : Array Oper) : Nat → Nat → Nat → Bool
  | 0, _, _ => false
  | n + 1, s, i => waits ops s i || (List.range ops.size).any fun j => waits ops s j && needs ops n j i
theorem needs_listed {ops : Array Oper} {listed : Array Bool} (hd : Down ops listed) : ∀ (n s i : Nat), needs ops n s i = true → listed.getD s false = true → listed.getD i false = true
  | 0, _, _, h, _ => by cases h
  | n + 1, s, i, h, hs => by
    have step : ∀ j, waits ops s j = true → listed.getD j false = true := fun j hw => by
      obtain ⟨o, ho, e, he, hb, hon⟩ := waits_edge hw
      have := hd s o ho hs e he hb
      rw [hon] at this
      exact this
    simp only [needs, Bool.or_eq_true, List.any_eq_true, Bool.and_eq_true] at h
    rcases h with h | ⟨j, _, h1, h2⟩
    · exact step i h
    · exact needs_listed hd n j i h2 (step j h1)
/-- all operations that lay a value into this slot wait for operation i -/
def allWait (ops : Array Oper) (x : Operand) (i : Nat) : Bool := match x with
  | .tmp t => (List.range ops.size).all fun j => match ops[j]? with
    | some o => !(o.dst == some t) || needs ops 9 j i
    | Option.none => true
  | _ => true
def knownAt (ops : Array Oper) (a0 : Act) (ev : Operand → Value) (i : Nat) : List Operand → Prop
  | [] => True
  | x :: xs => (if allWait ops x i = true then ev x = a0.eval x else True) ∧ knownAt ops a0 ev i xs
theorem known_at {ops : Array Oper} {a0 a : Act} {listed : Array Bool} (hd : Down ops listed) {i : Nat} (hl : listed.getD i false = false)
    (h : ∀ (t : Nat), (∀ (i : Nat) (o : Oper), ops[i]? = some o → listed.getD i false = true → o.dst ≠ some t) → a.tmps[t]? = a0.tmps[t]?) : ∀ xs, knownAt ops a0 a.eval i xs
  | [] => trivial
  | x :: xs => by
    refine ⟨?_, known_at hd hl h xs⟩
    split
    · rename_i hw
      cases x with
      | tmp t =>
        have : a.tmps[t]? = a0.tmps[t]? := h t (fun j o ho hj e => by
          have hm := List.all_eq_true.1 hw j (List.mem_range.2 (Array.getElem?_eq_some_iff.1 ho).1)
          rw [ho] at hm
          simp only [e, BEq.rfl, Bool.not_true, Bool.false_or] at hm
          have := needs_listed hd 9 j i hm hj
          rw [hl] at this
          cases this)
        simp [Act.eval, Array.getD_eq_getD_getElem?, this]
      | const c => rfl
      | global g => rfl
      | func f => rfl
    · trivial
theorem put_restK {ops : Array Oper} {a0 : Act} {listed : Array Bool} {i : Nat} {o : Oper} {a : Act} {v : Value} (hi : i < listed.size) (ho : ops[i]? = some o) (hd : a.defers = a0.defers) (hs : a.tmps.size = a0.tmps.size)
    (hk : ∀ (t : Nat), (∀ (i : Nat) (o : Oper), ops[i]? = some o → listed.getD i false = true → o.dst ≠ some t) → a.tmps[t]? = a0.tmps[t]?) :
    (a.put o.dst v).defers = a0.defers ∧ (a.put o.dst v).tmps.size = a0.tmps.size ∧ ∀ (t : Nat), (∀ (j : Nat) (o : Oper), ops[j]? = some o → (listed.setIfInBounds i true).getD j false = true → o.dst ≠ some t) → (a.put o.dst v).tmps[t]? = a0.tmps[t]? := by
  refine ⟨?_, ?_, ?_⟩
  · cases h : o.dst <;> simp [Act.put, hd]
  · cases h : o.dst <;> simp [Act.put, hs]
  · intro t htt
    have hold : a.tmps[t]? = a0.tmps[t]? := hk t fun j o' ho' hj => htt j o' ho' (by rw [getD_set' hi]; split <;> simp [hj])
    cases h : o.dst with
    | none => exact hold
    | some d =>
      have : d ≠ t := fun e => htt i o ho (by rw [getD_set' hi, if_pos rfl]) (by rw [h, e])
      simp only [Act.put]
      rw [Array.getElem?_setIfInBounds, if_neg this]
      exact hold

section
variable {P : Program} {n : Nat} {ops : Array Oper} {V V' : Nat → Value → World → Prop} {s : Nat} {a0 : Act} {I : Bool → World → Prop} {Q : Exit → Act → World → Prop}

/-- what is to be shown of each operation but the store -/
def TodoA (P : Program) (ops : Array Oper) (V V' : Nat → Value → World → Prop) (s : Nat) (a0 : Act) (I : Bool → World → Prop) : Nat → List Oper → Prop
  | _, [] => True
  | i, o :: rest => (i ≠ s → ∀ (ph : Bool), (waits ops i s = true → ph = true) → (needs ops 9 s i = true → ph = false) → ∀ (ev : Operand → Value) (w : World), I ph w → Base ev → knownAt ops a0 ev i o.op.operands.toList → factsOf ops (two V V' ph) ev w o.after.toList →
      match o.guard with
      | Option.none => OpOk P o ev w (fun v w' => two V V' ph i v w' ∧ Stay w w')
      | some (j, want) => ∃ b, slotOf ops ev j = .bool b ∧ (b = want → OpOk P o ev w (fun v w' => two V V' ph i v w' ∧ Stay w w')) ∧ (b ≠ want → two V V' ph i undef w)) ∧ TodoA P ops V V' s a0 I (i + 1) rest
theorem todoA_at : ∀ (l : List Oper) (k i : Nat) (o : Oper), TodoA P ops V V' s a0 I k l → l[i]? = some o →
    (k + i ≠ s → ∀ (ph : Bool), (waits ops (k + i) s = true → ph = true) → (needs ops 9 s (k + i) = true → ph = false) → ∀ (ev : Operand → Value) (w : World), I ph w → Base ev → knownAt ops a0 ev (k + i) o.op.operands.toList → factsOf ops (two V V' ph) ev w o.after.toList →
      match o.guard with
      | Option.none => OpOk P o ev w (fun v w' => two V V' ph (k + i) v w' ∧ Stay w w')
      | some (j, want) => ∃ b, slotOf ops ev j = .bool b ∧ (b = want → OpOk P o ev w (fun v w' => two V V' ph (k + i) v w' ∧ Stay w w')) ∧ (b ≠ want → two V V' ph (k + i) undef w))
  | [], _, _, _, _, h => by simp at h
  | x :: l, k, 0, o, h, e => by simp at e; subst e; exact h.1
  | x :: l, k, i + 1, o, h, e => by
    have := todoA_at l (k + 1) i o h.2 (by simpa using e)
    rw [show k + (i + 1) = k + 1 + i by omega]
    exact this

/-- what is to be shown of the store -/
def AppOk (P : Program) (ops : Array Oper) (V V' : Nat → Value → World → Prop) (s : Nat) (a0 : Act) (I : Bool → World → Prop) (o : Oper) : Prop :=
  ∀ (ev : Operand → Value) (w : World), I false w → Base ev → knownAt ops a0 ev s o.op.operands.toList → factsOf ops V ev w o.after.toList →
    OpOk P o ev w (fun v w' => I true w' ∧ V' s v w' ∧ ∀ i, i ≠ s → V i (slotOf ops ev i) w → V' i (slotOf ops ev i) w')

structure InvA (ops : Array Oper) (V V' : Nat → Value → World → Prop) (s : Nat) (a0 : Act) (I : Bool → World → Prop) (listed : Array Bool) (a : Act) (w : World) : Prop where
  t : I (listed.getD s false) w
  defers : a.defers = a0.defers
  size : a.tmps.size = a0.tmps.size
  keep : ∀ (t : Nat), (∀ (i : Nat) (o : Oper), ops[i]? = some o → listed.getD i false = true → o.dst ≠ some t) → a.tmps[t]? = a0.tmps[t]?
  vals : ∀ i, i < ops.size → listed.getD i true = true → two V V' (listed.getD s false) i (slotOf ops a.eval i) w

end

end AppK
end Go.Proofs.YtgmpmlneoiagdaaGreatDoor

/- A statement whose operations may be carried out in more than one order, some of them (S) such as turn what lies there: what is known of the world hangs on which of these were carried out, and on what values (of A) they left. No Go function is spoken of here. -/
namespace Go.Proofs.YtgmpmlneoiagdaaGreatDoor
namespace Multi2
open Go.RowKit AppK
set_option linter.unusedVariables false
set_option linter.unusedSimpArgs false

section
variable {P : Program} {n : Nat} {ops : Array Oper} {V : Nat → Value → World → Prop} {S A : List Nat} {a0 : Act} {I : (Nat → Bool) → (Nat → Value) → World → Prop} {Q : Exit → Act → World → Prop}

/-- how an operation ends -/
def Ended (ops : Array Oper) (S : List Nat) (V : Nat → Value → World → Prop) (I : (Nat → Bool) → (Nat → Value) → World → Prop) (f : Nat → Bool) (ev : Operand → Value) (w : World) (i : Nat) (v : Value) (w' : World) : Prop :=
  V i v w' ∧ if S.contains i = true then I (fun j => j == i || f j) (fun j => if j = i then v else slotOf ops ev j) w' ∧ ∀ j, j ≠ i → V j (slotOf ops ev j) w → V j (slotOf ops ev j) w' else Stay w w'

def TodoM (P : Program) (ops : Array Oper) (S : List Nat) (V : Nat → Value → World → Prop) (a0 : Act) (I : (Nat → Bool) → (Nat → Value) → World → Prop) : Nat → List Oper → Prop
  | _, [] => True
  | i, o :: rest => (∀ (f : Nat → Bool), f i = false → (∀ j, waits ops i j = true → f j = true) → (∀ j, needs ops 9 j i = true → f j = false) → ∀ (ev : Operand → Value) (w : World), I f (slotOf ops ev) w → Base ev → knownAt ops a0 ev i o.op.operands.toList → factsOf ops V ev w o.after.toList →
      match o.guard with
      | Option.none => OpOk P o ev w (Ended ops S V I f ev w i)
      | some (j, want) => ∃ b, slotOf ops ev j = .bool b ∧ (b = want → OpOk P o ev w (Ended ops S V I f ev w i)) ∧ (b ≠ want → V i undef w ∧ S.contains i = false)) ∧ TodoM P ops S V a0 I (i + 1) rest
theorem todoM_at : ∀ (l : List Oper) (k i : Nat) (o : Oper), TodoM P ops S V a0 I k l → l[i]? = some o →
    (∀ (f : Nat → Bool), f (k + i) = false → (∀ j, waits ops (k + i) j = true → f j = true) → (∀ j, needs ops 9 j (k + i) = true → f j = false) → ∀ (ev : Operand → Value) (w : World), I f (slotOf ops ev) w → Base ev → knownAt ops a0 ev (k + i) o.op.operands.toList → factsOf ops V ev w o.after.toList →
      match o.guard with
      | Option.none => OpOk P o ev w (Ended ops S V I f ev w (k + i))
      | some (j, want) => ∃ b, slotOf ops ev j = .bool b ∧ (b = want → OpOk P o ev w (Ended ops S V I f ev w (k + i))) ∧ (b ≠ want → V (k + i) undef w ∧ S.contains (k + i) = false))
  | [], _, _, _, _, h => by simp at h
  | x :: l, k, 0, o, h, e => by simp at e; subst e; exact h.1
  | x :: l, k, i + 1, o, h, e => by
    have := todoM_at l (k + 1) i o h.2 (by simpa using e)
    rw [show k + (i + 1) = k + 1 + i by omega]
    exact this

structure InvM (ops : Array Oper) (V : Nat → Value → World → Prop) (a0 : Act) (I : (Nat → Bool) → (Nat → Value) → World → Prop) (listed : Array Bool) (a : Act) (w : World) : Prop where
  t : I (fun j => listed.getD j false) (slotOf ops a.eval) w
  defers : a.defers = a0.defers
  size : a.tmps.size = a0.tmps.size
  keep : ∀ (t : Nat), (∀ (i : Nat) (o : Oper), ops[i]? = some o → listed.getD i false = true → o.dst ≠ some t) → a.tmps[t]? = a0.tmps[t]?
  vals : ∀ i, i < ops.size → listed.getD i true = true → V i (slotOf ops a.eval i) w

theorem multi_any (hok : okOps ops a0.tmps.size = true) (hVT : ∀ i v w w', V i v w → Stay w w' → V i v w') (hIT : ∀ f s w w', I f s w → Stay w w' → I f s w') (hIS : ∀ f g s t w, (∀ j, S.contains j = true → f j = g j) → (∀ j, A.contains j = true → f j = true → s j = t j) → I f s w → I g t w) (hAS : ∀ j, A.contains j = true → S.contains j = true) (hAd : ∀ (i : Nat) (o : Oper), ops[i]? = some o → A.contains i = true → o.dst.isSome = true)
    (hV0 : ∀ (i : Nat) (o : Oper), ops[i]? = some o → o.dst = Option.none → ∀ v w, V i v w → V i undef w)
    (htodo : TodoM P ops S V a0 I 0 ops.toList) (hend : ∀ (listed : Array Bool) a w, (∀ i, i < ops.size → listed.getD i true = true) → listed.size = ops.size → InvM ops V a0 I listed a w → Q .normal a w) :
    ∀ (fuel : Nat) (listed : Array Bool) (a : Act) (w : World), listed.size = ops.size → (List.range ops.size).countP (fun j => !listed.getD j true) ≤ fuel → Down ops listed → InvM ops V a0 I listed a w → wpAny P .any ops Q fuel listed a w
  | 0, listed, a, w, hs, hc, hd, hinv => by
    have hall : ∀ i, i < ops.size → listed.getD i true = true := by
      intro i hi
      have h0 : (List.range ops.size).countP (fun j => !listed.getD j true) = 0 := by omega
      have := List.countP_eq_zero.1 h0 i (List.mem_range.2 hi)
      simpa using this
    refine ⟨?_, hend listed a w hall hs hinv⟩
    unfold Region.ready
    refine List.filter_eq_nil_iff.2 fun i hi => ?_
    simp [hall i (List.mem_range.1 hi)]
  | fuel + 1, listed, a, w, hs, hc, hdn, hinv => by
    refine ⟨fun hr => hend listed a w (ready_all hok hs hr) hs hinv, fun i hi => ?_⟩
    obtain ⟨o, ho, hlt, hl, haft⟩ := ready_mem' hi
    have hcnt : (List.range ops.size).countP (fun j => !(listed.setIfInBounds i true).getD j true) ≤ fuel := by
      have := count_set (n := ops.size) hlt hs hl
      omega
    have hlf : listed.getD i false = false := by rw [← getD_both (by omega)]; exact hl
    have hstep := todoM_at ops.toList 0 i o htodo (by simpa using ho)
    rw [Nat.zero_add] at hstep
    have hstep := hstep (fun j => listed.getD j false) hlf (fun j hw => by
        obtain ⟨o', ho', e, he, hb, hon⟩ := waits_edge hw
        rw [ho] at ho'; cases ho'
        have := haft e he hb
        rwa [hon] at this) (fun j hw => by
        show listed.getD j false = false
        cases hq : listed.getD j false with
        | false => rfl
        | true =>
          have := needs_listed hdn 9 j i hw hq
          rw [hlf] at this
          cases this) a.eval w hinv.t (base_of a) (known_at hdn hlf hinv.keep _) (facts_of _ fun e he hb => by
            have h1 := haft e (by simpa using he) hb
            have h2 := ok_edge hok ho (by simpa using he) hb
            exact hinv.vals e.on (by omega) (by rw [getD_both (by omega)]; exact h1))
    have next : ∀ v w', Ended ops S V I (fun j => listed.getD j false) a.eval w i v w' → wpAny P .any ops Q fuel (listed.setIfInBounds i true) (a.put o.dst v) w' := by
      intro v w' ⟨hv, ht⟩
      obtain ⟨p1, p2, p3⟩ := put_restK (v := v) (by omega) ho hinv.defers hinv.size hinv.keep
      have hflag : ∀ j, (listed.setIfInBounds i true).getD j false = (j == i || listed.getD j false) := by
        intro j
        rw [getD_set' (by omega)]
        by_cases hj : j = i <;> simp [hj]
      refine multi_any hok hVT hIT hIS hAS hAd hV0 htodo hend fuel _ _ _ (by simpa using hs) hcnt (down_set hdn hs hlt ho haft) ⟨?_, p1, p2, p3, ?_⟩
      · by_cases hS : S.contains i = true
        · rw [if_pos hS] at ht
          refine hIS _ _ _ _ _ (fun j _ => (hflag j).symm) (fun j hj hfj => ?_) ht.1
          by_cases hji : j = i
          · rw [if_pos hji, hji]
            rw [hji] at hj
            refine (slot_self hok hinv.size ho v ?_).symm
            intro h
            have := hAd i o ho hj
            rw [h] at this
            cases this
          · rw [if_neg hji]
            exact (slot_put hok hinv.size ho v hji).symm
        · rw [if_neg hS] at ht
          refine hIS _ _ _ _ _ (fun j hj => ?_) (fun j hj _ => ?_) (hIT _ _ _ _ hinv.t ht)
          · rw [hflag j]
            by_cases hji : j = i
            · rw [hji] at hj; exact absurd hj hS
            · simp [hji]
          · have hji : j ≠ i := fun h => by rw [h] at hj; exact hS (hAS i hj)
            exact (slot_put hok hinv.size ho v hji).symm
      · intro j hj hlj
        by_cases hji : j = i
        · rw [hji]
          cases hd : o.dst with
          | none =>
            have : slotOf ops (a.put Option.none v).eval i = undef := by simp [slotOf, ho, hd]
            rw [this]
            exact hV0 i o ho hd v w' hv
          | some d =>
            have := slot_self hok hinv.size ho v (by rw [hd]; intro h; cases h)
            rw [hd] at this
            rw [this]; exact hv
        · rw [slot_put hok hinv.size ho v hji]
          rw [getD_set (by omega), if_neg hji] at hlj
          have h0 := hinv.vals j hj hlj
          by_cases hS : S.contains i = true
          · rw [if_pos hS] at ht
            exact ht.2 j hji h0
          · rw [if_neg hS] at ht
            exact hVT _ _ _ _ h0 ht
    unfold wpOp
    simp only [ho]
    cases hg : o.guard with
    | none =>
      rw [hg] at hstep
      rw [if_pos (by simp [Region.wanted, hg])]
      exact .inl (wp_of_ok hstep fun v w' h _ => next v w' h)
    | some jw =>
      obtain ⟨j, want⟩ := jw
      rw [hg] at hstep
      obtain ⟨b, hb, h1, h2⟩ := hstep
      obtain ⟨o', d, ho', hd'⟩ := ok_guard hok ho hg
      have hy : yielded ops a.tmps j = some b := by
        simp only [slotOf, ho', hd', Act.eval, Array.getD_eq_getD_getElem?] at hb
        simp only [yielded, ho', hd', Option.bind_some]
        cases hx : a.tmps[d]? with
        | none => rw [hx] at hb; simp [undef] at hb
        | some x => rw [hx] at hb; simp only [Option.getD_some] at hb; subst hb; rfl
      by_cases hbw : b = want
      · rw [if_pos (by simp [Region.wanted, hg, hy, hbw])]
        exact .inl (wp_of_ok (h1 hbw) fun v w' h _ => next v w' h)
      · rw [if_neg (by simp [Region.wanted, hg, hy, hbw])]
        have h3 := h2 hbw
        exact next undef w ⟨h3.1, by rw [if_neg (by rw [h3.2]; decide)]; exact Stay.refl w⟩

end

def TrueAt (L : List (Value → World → Prop)) : List Nat → Prop
  | [] => True
  | i :: r => (vList L i = fun _ _ => True) ∧ TrueAt L r
theorem trueAt_mem {L : List (Value → World → Prop)} : ∀ {nd : List Nat}, TrueAt L nd → ∀ i ∈ nd, vList L i = fun _ _ => True
  | [], _, _, h => by simp at h
  | x :: r, h, i, hi => by
    rcases List.mem_cons.1 hi with rfl | hi
    · exact h.1
    · exact trueAt_mem h.2 i hi

/-- A REGION IN WHATEVER ORDER, with operations that turn what lies there: those of S; nd: those that leave no value -/
theorem wp_region_multi {P : Program} {id : Nat} {l : List Oper} {w0 : World} {a0 : Act} {Q : Exit → Act → World → Prop} (S A nd : List Nat) (L : List (Value → World → Prop)) (hm : P.follows .mixedOrders = true) (hok : okOps l.toArray a0.tmps.size = true)
    (hds : ((List.range l.length).all fun i => nd.contains i || ((l[i]?).bind (·.dst)).isSome) = true) (hnd : TrueAt L nd) (I : (Nat → Bool) → (Nat → Value) → World → Prop) (hI0 : ∀ s, I (fun _ => false) s w0.drew) (hIT : ∀ f s w w', I f s w → Stay w w' → I f s w')
    (hIS : ∀ f g s t w, (∀ j, S.contains j = true → f j = g j) → (∀ j, A.contains j = true → f j = true → s j = t j) → I f s w → I g t w) (hk : KeepAll L)
    (htodo : TodoM P l.toArray S (vList L) a0 I 0 l)
    (hend : ∀ w s, I (fun _ => true) s w → Rest (fun i v w => (A.contains i = true → v = s i) ∧ vList L i v w) Q w 0 l a0) (hSl : (S.all fun i => decide (i < l.length)) = true) (hAS : (A.all fun i => S.contains i && ((l[i]?).bind (·.dst)).isSome) = true) : (Code.region id l.toArray true).wp P Q a0 w0 := by
  refine wp_region_any hm ?_
  refine multi_any (V := vList L) (S := S) (a0 := a0) (I := I) (A := A) hok (vTwo_keep hk) hIT hIS ?_ ?_ ?_ (by simpa using htodo) ?_ _ _ _ _ (by simp) ?_ ?_ ⟨?_, rfl, rfl, fun _ _ => rfl, ?_⟩
  · intro j hj
    have := List.all_eq_true.1 hAS j (by simpa using hj)
    simp only [Bool.and_eq_true] at this
    exact this.1
  · intro i o ho hj
    have := List.all_eq_true.1 hAS i (by simpa using hj)
    simp only [Bool.and_eq_true] at this
    have ho' : l[i]? = some o := by simpa using ho
    simpa [ho'] using this.2
  · intro i o ho hd v w _
    have hi : i < l.length := by simpa using (Array.getElem?_eq_some_iff.1 ho).1
    have := List.all_eq_true.1 hds i (List.mem_range.2 hi)
    have ho' : l[i]? = some o := by simpa using ho
    have hc : i ∈ nd := by simpa [ho', hd] using this
    rw [trueAt_mem hnd i hc]
    trivial
  · intro listed a w hall hsz hinv
    have hv := hinv.vals
    have hI : I (fun _ => true) (slotOf l.toArray a.eval) w := hIS _ _ _ _ _ (fun j hj => by
        show listed.getD j false = true
        have hjl : j < l.length := by
          have hm : j ∈ S := by simpa using hj
          simpa using List.all_eq_true.1 hSl j hm
        rw [← getD_both (by rw [hsz]; simpa using hjl)]
        exact hall j (by simpa using hjl)) (fun _ _ _ => rfl) hinv.t
    have h := rest_ends (ev := a.eval) l 0 a0 (fun i o ho => by
      have hi : i < l.length := (List.getElem?_eq_some_iff.1 ho).1
      rw [Nat.zero_add]
      have h1 := hv i (by simpa using hi) (hall i (by simpa using hi))
      refine ⟨fun _ => ?_, ?_⟩
      · simp [slotOf, ho]
      · simpa [slotOf, ho] using h1) (hend w _ hI)
    have : ends a0 a.eval l = a := by
      have h1 := ends_defers a.eval l a0
      have h2 : (ends a0 a.eval l).tmps = a.tmps := by
        apply Array.ext_getElem?
        intro t
        rw [ends_get]
        split
        · rename_i hc
          simp [Act.eval, hinv.size, hc.1]
        · rename_i hc
          by_cases ht : t < a0.tmps.size
          · refine (hinv.keep t fun i o ho _ e => hc ⟨ht, o, ?_, e⟩).symm
            have : l[i]? = some o := by simpa using ho
            exact List.mem_of_getElem? this
          · rw [Array.getElem?_eq_none (by omega), Array.getElem?_eq_none (by rw [hinv.size]; omega)]
      cases hx : ends a0 a.eval l with
      | mk t d =>
        rw [hx] at h1 h2
        cases a with
        | mk t' d' =>
          have h3 := hinv.defers
          simp only at h1 h2 h3
          rw [h2, h1, ← h3]
    rw [this] at h
    exact h
  · exact Nat.le_trans List.countP_le_length (by simp)
  · intro i o ho hl
    rw [Array.getD_eq_getD_getElem?, Array.getElem?_replicate] at hl
    split at hl <;> cases hl
  · refine hIS (fun _ => false) _ (fun _ => undef) _ _ (fun j _ => ?_) (fun j _ h => by cases h) (hI0 (fun _ => undef))
    rw [Array.getD_eq_getD_getElem?, Array.getElem?_replicate]
    split <;> rfl
  · intro i hi hl
    rw [Array.getD_eq_getD_getElem?, Array.getElem?_replicate, if_pos hi] at hl
    cases hl

/-- what is known of one operation that was or wasn't carried out -/
theorem ended_stay {ops : Array Oper} {S : List Nat} {V : Nat → Value → World → Prop} {I : (Nat → Bool) → (Nat → Value) → World → Prop} {f : Nat → Bool} {ev : Operand → Value} {w w' : World} {i : Nat} {v : Value} (hS : S.contains i = false) (hv : V i v w') (hs : Stay w w') : Ended ops S V I f ev w i v w' :=
  ⟨hv, by rw [if_neg (by rw [hS]; decide)]; exact hs⟩
theorem ended_turn {ops : Array Oper} {S : List Nat} {V : Nat → Value → World → Prop} {I : (Nat → Bool) → (Nat → Value) → World → Prop} {f : Nat → Bool} {ev : Operand → Value} {w w' : World} {i : Nat} {v : Value} (hS : S.contains i = true) (hv : V i v w') (hI : I (fun j => j == i || f j) (fun j => if j = i then v else slotOf ops ev j) w') (hk : ∀ j v, V j v w → V j v w') : Ended ops S V I f ev w i v w' :=
  ⟨hv, by rw [if_pos hS]; exact ⟨hI, fun j _ h => hk j _ h⟩⟩
theorem free_keep {L : List (Value → World → Prop)} (h : ∀ p ∈ L, ∀ v w w', p v w → p v w') (w w' : World) (j : Nat) (v : Value) (hv : vList L j v w) : vList L j v w' := by
  unfold vList at hv ⊢
  cases hq : L[j]? with
  | none => rw [hq] at hv; exact hv
  | some P => rw [hq] at hv; exact h P (List.mem_of_getElem? hq) v w w' hv
/-- a block by its pointer -/
def bv (v : Value) (o : Obj) : SP := ⟨fun h => ∃ g, v = .pointer (some ⟨g, 0, Option.none⟩) ∧ h g = some o⟩
theorem bv_blk {v : Value} {o : Obj} {F : SP} {w : World} (h : (bv v o * F).on w) : ∃ g, v = .pointer (some ⟨g, 0, Option.none⟩) ∧ (blk g o * F).on w := by
  obtain ⟨a, b, h1, h2, h3, ⟨g, e, p⟩, q⟩ := SP.on_mul.1 h
  exact ⟨g, e, SP.on_mul.2 ⟨a, b, h1, h2, h3, p, q⟩⟩
theorem blk_bv {g : Nat} {o : Obj} {F : SP} {w : World} (h : (blk g o * F).on w) : (bv (.pointer (some ⟨g, 0, Option.none⟩)) o * F).on w := by
  obtain ⟨a, b, h1, h2, h3, p, q⟩ := SP.on_mul.1 h
  exact SP.on_mul.2 ⟨a, b, h1, h2, h3, ⟨g, rfl, p⟩, q⟩
end Multi2
/-- a store of a whole array or struct -/
theorem OpOk.store_agg {P : Program} {o : Oper} {ev : Operand → Value} {W : World} {R : Value → World → Prop} {F : SP} (ty : TypeId) (x y : Operand) (ho : o.op = .store ty x y)
    (g : Nat) (cs : Array Value) (hx : ev x = .pointer (some ⟨g, 0, Option.none⟩)) (hy : ev y = .agg cs) (t : TypeId) (old : Array Value) (H : (blk g (.cells old t (0, 0)) * F).on W) (hi : (P.info? ty).map (·.size) = some cs.size)
    (hl : old.size = cs.size) (h1 : cs.all (·.oneCell') = true)
    (h : (blk g (.cells cs t (0, 0)) * F).on (W.setRow g cs) → R undef (W.setRow g cs)) : OpOk P o ev W R := by
  have hs := run_storeCells_at (P := P) g 0 t cs.toList 0 old W (on_blk_mul H) (by simp; omega) (by
    intro u hu
    exact (Array.all_eq_true_iff_forall_mem.1 h1) u (by simpa using hu))
  have e : old.toList.take 0 ++ cs.toList ++ old.toList.drop (0 + cs.toList.length) = cs.toList := by
    rw [List.take_zero, List.nil_append, List.drop_of_length_le (by simp; omega), List.append_nil]
  simp only [Nat.add_zero, e, Array.toArray_toList] at hs
  have hsv : (storeVar ty ⟨g, 0, Option.none⟩ (.agg cs)).run P W = .ok () (W.setRow g cs) := by
    cases hq : P.info? ty with
    | none => simp [hq] at hi
    | some i =>
      have hz : i.size = cs.size := by simpa [hq] using hi
      simp [storeVar, sizeOf, typeInfo, hq, Value.cells, hz, hs]
  unfold OpOk execOp
  simp only [ho, hx, hy, Instr.storeAt, Instr.sureAddr, Sem.run_bind, Sem.run_pure, Result.andThen_ok, hsv]
  exact h (H.setRow cs)
end Go.Proofs.YtgmpmlneoiagdaaGreatDoor

/- A statement whose operations may be carried out in more than one order, one of them a store into what lay there before: as XAppK, but that operation has no value. -/
namespace Go.Proofs.YtgmpmlneoiagdaaGreatDoor
namespace AppK
open Go.RowKit
set_option linter.unusedVariables false
set_option linter.unusedSimpArgs false

section
variable {P : Program} {n : Nat} {ops : Array Oper} {V V' : Nat → Value → World → Prop} {s : Nat} {a0 : Act} {I : Bool → World → Prop} {Q : Exit → Act → World → Prop}

theorem set_any (hok : okOps ops a0.tmps.size = true) (hVT : ∀ i v w w', V i v w → Stay w w' → V i v w') (hVT' : ∀ i v w w', V' i v w → Stay w w' → V' i v w') (hIT : ∀ ph w w', I ph w → Stay w w' → I ph w')
    (os : Oper) (hos : ops[s]? = some os) (hsg : os.guard = Option.none) (hVs : ∀ v w, V' s v w) (hds : ∀ (i : Nat) (o : Oper), i ≠ s → ops[i]? = some o → o.dst.isSome = true)
    (hst : AppOk P ops V V' s a0 I os)
    (htodo : TodoA P ops V V' s a0 I 0 ops.toList) (hend : ∀ (listed : Array Bool) a w, (∀ i, i < ops.size → listed.getD i true = true) → listed.size = ops.size → InvA ops V V' s a0 I listed a w → Q .normal a w) :
    ∀ (fuel : Nat) (listed : Array Bool) (a : Act) (w : World), listed.size = ops.size → (List.range ops.size).countP (fun j => !listed.getD j true) ≤ fuel → Down ops listed → InvA ops V V' s a0 I listed a w → wpAny P .any ops Q fuel listed a w
  | 0, listed, a, w, hs, hc, hd, hinv => by
    have hall : ∀ i, i < ops.size → listed.getD i true = true := by
      intro i hi
      have h0 : (List.range ops.size).countP (fun j => !listed.getD j true) = 0 := by omega
      have := List.countP_eq_zero.1 h0 i (List.mem_range.2 hi)
      simpa using this
    refine ⟨?_, hend listed a w hall hs hinv⟩
    unfold Region.ready
    refine List.filter_eq_nil_iff.2 fun i hi => ?_
    simp [hall i (List.mem_range.1 hi)]
  | fuel + 1, listed, a, w, hs, hc, hdn, hinv => by
    refine ⟨fun hr => hend listed a w (ready_all hok hs hr) hs hinv, fun i hi => ?_⟩
    obtain ⟨o, ho, hlt, hl, haft⟩ := ready_mem' hi
    have hss : s < ops.size := (Array.getElem?_eq_some_iff.1 hos).1
    have hcnt : (List.range ops.size).countP (fun j => !(listed.setIfInBounds i true).getD j true) ≤ fuel := by
      have := count_set (n := ops.size) hlt hs hl
      omega
    by_cases his : i = s
    · rw [his] at ho hlt hl hcnt ⊢
      clear his hi
      have hoo : o = os := by rw [ho] at hos; exact Option.some.inj hos
      rw [hoo] at ho haft
      clear hoo
      have hlf : listed.getD s false = false := by rw [← getD_both (by omega)]; exact hl
      have hvals := hinv.vals
      rw [hlf] at hvals
      have hfac : factsOf ops V a.eval w os.after.toList := facts_of _ fun e he hb => by
        have h1 := haft e (by simpa using he) hb
        have h2 := ok_edge hok ho (by simpa using he) hb
        exact hvals e.on (by omega) (by rw [getD_both (by omega)]; exact h1)
      have hit := hinv.t
      rw [hlf] at hit
      have hstep := hst a.eval w hit (base_of a) (known_at hdn hlf hinv.keep _) hfac
      unfold wpOp
      simp only [ho, hsg]
      rw [if_pos (by simp [Region.wanted, hsg])]
      refine .inl (wp_of_ok hstep fun v w' h _ => ?_)
      obtain ⟨h1, hv, h2⟩ := h
      obtain ⟨p1, p2, p3⟩ := put_restK (v := v) (by omega) ho hinv.defers hinv.size hinv.keep
      refine set_any hok hVT hVT' hIT os hos hsg hVs hds hst htodo hend fuel _ _ _ (by simpa using hs) hcnt (down_set hdn hs hlt ho haft) ⟨by rw [getD_set' (by omega), if_pos rfl]; exact h1, p1, p2, p3, ?_⟩
      intro j hj hlj
      have hsl : (listed.setIfInBounds s true).getD s false = true := by rw [getD_set' (by omega), if_pos rfl]
      rw [hsl]
      by_cases hjs : j = s
      · rw [hjs]
        exact hVs _ _
      · rw [getD_set (by omega), if_neg hjs] at hlj
        rw [slot_put hok hinv.size ho v hjs]
        exact h2 j hjs (hvals j hj hlj)
    · have hset : (listed.setIfInBounds i true).getD s false = listed.getD s false := by rw [getD_set' (by omega), if_neg (fun e => his e.symm)]
      have hstep := todoA_at ops.toList 0 i o htodo (by simpa using ho)
      rw [Nat.zero_add] at hstep
      have hstep := hstep his (listed.getD s false) (fun hw => by
        obtain ⟨o', ho', e, he, hb, hon⟩ := waits_edge hw
        rw [ho] at ho'; cases ho'
        have := haft e he hb
        rwa [hon] at this) (fun hw => by
        cases hq : listed.getD s false with
        | false => rfl
        | true =>
          have := needs_listed hdn 9 s i hw hq
          rw [← getD_both (by omega), hl] at this
          cases this) a.eval w hinv.t (base_of a) (known_at hdn (by rw [← getD_both (by omega)]; exact hl) hinv.keep _) (facts_of _ fun e he hb => by
            have h1 := haft e (by simpa using he) hb
            have h2 := ok_edge hok ho (by simpa using he) hb
            exact hinv.vals e.on (by omega) (by rw [getD_both (by omega)]; exact h1))
      have next : ∀ v w', two V V' (listed.getD s false) i v w' ∧ Stay w w' → wpAny P .any ops Q fuel (listed.setIfInBounds i true) (a.put o.dst v) w' := by
        intro v w' ⟨hv, ht⟩
        obtain ⟨p1, p2, p3⟩ := put_restK (v := v) (by omega) ho hinv.defers hinv.size hinv.keep
        refine set_any hok hVT hVT' hIT os hos hsg hVs hds hst htodo hend fuel _ _ _ (by simpa using hs) hcnt (down_set hdn hs hlt ho haft) ⟨by rw [hset]; exact hIT _ _ _ hinv.t ht, p1, p2, p3, ?_⟩
        intro j hj hlj
        rw [hset]
        by_cases hji : j = i
        · rw [hji]
          obtain ⟨d, hd⟩ := Option.isSome_iff_exists.1 (hds i o his ho)
          have := slot_self hok hinv.size ho v (by rw [hd]; intro h; cases h)
          rw [this]; exact hv
        · rw [slot_put hok hinv.size ho v hji]
          rw [getD_set (by omega), if_neg hji] at hlj
          have h0 := hinv.vals j hj hlj
          cases hq : listed.getD s false with
          | false => rw [hq] at h0; exact hVT _ _ _ _ h0 ht
          | true => rw [hq] at h0; exact hVT' _ _ _ _ h0 ht
      unfold wpOp
      simp only [ho]
      cases hg : o.guard with
      | none =>
        rw [hg] at hstep
        rw [if_pos (by simp [Region.wanted, hg])]
        exact .inl (wp_of_ok hstep fun v w' h _ => next v w' h)
      | some jw =>
        obtain ⟨j, want⟩ := jw
        rw [hg] at hstep
        obtain ⟨b, hb, h1, h2⟩ := hstep
        obtain ⟨o', d, ho', hd'⟩ := ok_guard hok ho hg
        have hy : yielded ops a.tmps j = some b := by
          simp only [slotOf, ho', hd', Act.eval, Array.getD_eq_getD_getElem?] at hb
          simp only [yielded, ho', hd', Option.bind_some]
          cases hx : a.tmps[d]? with
          | none => rw [hx] at hb; simp [undef] at hb
          | some x => rw [hx] at hb; simp only [Option.getD_some] at hb; subst hb; rfl
        by_cases hbw : b = want
        · rw [if_pos (by simp [Region.wanted, hg, hy, hbw])]
          exact .inl (wp_of_ok (h1 hbw) fun v w' h _ => next v w' h)
        · rw [if_neg (by simp [Region.wanted, hg, hy, hbw])]
          exact next undef w ⟨h2 hbw, Stay.refl w⟩

end

/-- A REGION IN WHATEVER ORDER, with one operation that turns what lies there, number s -/
theorem wp_region_set {P : Program} {id : Nat} {l : List Oper} {w0 : World} {a0 : Act} {Q : Exit → Act → World → Prop} (s : Nat) (L L' : List (Value → World → Prop)) (os : Oper) (hos : l[s]? = some os) (hm : P.follows .mixedOrders = true) (hok : okOps l.toArray a0.tmps.size = true)
    (hsg : os.guard = Option.none) (hds : ((List.range l.length).all fun i => i == s || ((l[i]?).bind (·.dst)).isSome) = true) (hVs : L'[s]? = Option.none ∨ L'[s]? = some (fun _ _ => True)) (I : Bool → World → Prop) (hI0 : I false w0.drew) (hIT : ∀ ph w w', I ph w → Stay w w' → I ph w') (hk : KeepAll L) (hk' : KeepAll L')
    (hst : AppOk P l.toArray (vList L) (vList L') s a0 I os) (htodo : TodoA P l.toArray (vList L) (vList L') s a0 I 0 l)
    (hend : ∀ w, I true w → Rest (vList L') Q w 0 l a0) : (Code.region id l.toArray true).wp P Q a0 w0 := by
  refine wp_region_any hm ?_
  have hVs' : ∀ v w, vList L' s v w := fun v w => by
    unfold vList
    rcases hVs with h | h <;> rw [h] <;> trivial
  refine set_any (V := vList L) (V' := vList L') (s := s) (a0 := a0) (I := I) hok (vTwo_keep hk) (vTwo_keep hk') hIT os (by simpa using hos) hsg hVs' ?_ hst (by simpa using htodo) ?_ _ _ _ _ (by simp) ?_ ?_ ⟨by rw [show (Array.replicate l.toArray.size false).getD s false = false from by rw [Array.getD_eq_getD_getElem?, Array.getElem?_replicate]; split <;> rfl]; exact hI0, rfl, rfl, fun _ _ => rfl, ?_⟩
  · intro i o his ho
    have hi : i < l.length := by simpa using (Array.getElem?_eq_some_iff.1 ho).1
    have := List.all_eq_true.1 hds i (List.mem_range.2 hi)
    have ho' : l[i]? = some o := by simpa using ho
    simpa [his, ho'] using this
  · intro listed a w hall hsz hinv
    have hs : s < l.length := (List.getElem?_eq_some_iff.1 hos).1
    have hls : listed.getD s false = true := by rw [← getD_both (by simpa [hsz] using hs)]; exact hall s (by simpa using hs)
    have hv := hinv.vals
    rw [hls] at hv
    have h := rest_ends (ev := a.eval) l 0 a0 (fun i o ho => by
      have hi : i < l.length := (List.getElem?_eq_some_iff.1 ho).1
      rw [Nat.zero_add]
      have := hv i (by simpa using hi) (hall i (by simpa using hi))
      simpa [slotOf, ho, two] using this) (hend w (by have h9 := hinv.t; rw [hls] at h9; exact h9))
    have : ends a0 a.eval l = a := by
      have h1 := ends_defers a.eval l a0
      have h2 : (ends a0 a.eval l).tmps = a.tmps := by
        apply Array.ext_getElem?
        intro t
        rw [ends_get]
        split
        · rename_i hc
          simp [Act.eval, hinv.size, hc.1]
        · rename_i hc
          by_cases ht : t < a0.tmps.size
          · refine (hinv.keep t fun i o ho _ e => hc ⟨ht, o, ?_, e⟩).symm
            have : l[i]? = some o := by simpa using ho
            exact List.mem_of_getElem? this
          · rw [Array.getElem?_eq_none (by omega), Array.getElem?_eq_none (by rw [hinv.size]; omega)]
      cases hx : ends a0 a.eval l with
      | mk t d =>
        rw [hx] at h1 h2
        cases a with
        | mk t' d' =>
          have h3 := hinv.defers
          simp only at h1 h2 h3
          rw [h2, h1, ← h3]
    rw [this] at h
    exact h
  · exact Nat.le_trans List.countP_le_length (by simp)
  · intro i o ho hl
    rw [Array.getD_eq_getD_getElem?, Array.getElem?_replicate] at hl
    split at hl <;> cases hl
  · intro i hi hl
    rw [Array.getD_eq_getD_getElem?, Array.getElem?_replicate, if_pos hi] at hl
    cases hl
end AppK
end Go.Proofs.YtgmpmlneoiagdaaGreatDoor

/- A statement whose operations are carried out one behind the other: what is known of each, as for a drawn one. No Go function is spoken of here. -/
namespace Go.Proofs.YtgmpmlneoiagdaaGreatDoor
open Go.RowKit
set_option linter.unusedVariables false

section
variable {P : Program} {ops : Array Oper} {Q : Exit → Act → World → Prop}
end
/-- a new block: what is known of its pointer -/
def Fresh (n : Nat) (o : Obj) (v : Value) (X : World) : Prop := ∃ g, v = .pointer (some ⟨g, 0, Option.none⟩) ∧ n ≤ g ∧ X.heap[g]? = some o
theorem Fresh.keep {n : Nat} {o : Obj} : Keep (Fresh n o) := fun v w w' ⟨g, h1, h2, h3⟩ k =>
  ⟨g, h1, h2, (k.block g (Array.getElem?_eq_some_iff.1 h3).1).trans h3⟩
end Go.Proofs.YtgmpmlneoiagdaaGreatDoor

/- A part of a block as an array: loads and stores of arrays that lie in a struct, or in a package's variable. No Go function is spoken of here. -/
namespace Go.Proofs.YtgmpmlneoiagdaaGreatDoor
open Go.RowKit
set_option linter.unusedVariables false
set_option linter.unusedSimpArgs false
variable {P : Program}

theorem run_loadVar_part (w : World) (g off : Nat) (ty : TypeId) (cs : Array Value) (d : TypeDesc) (hc : ∀ j v, cs[j]? = some v → w.cell? ⟨g, off + j, Option.none⟩ = some v)
    (hu : P.underlying ty = some d) (hd : (match d with | .struct _ | .array _ _ => true | _ => false) = true) (hi : (P.info? ty).map (·.size) = some cs.size) :
    (loadVar ty ⟨g, off, Option.none⟩).run P w = .ok (.agg cs) w := by
  have hl : (loadCells ⟨g, off, Option.none⟩ cs.toList.length).run P w = .ok cs.toList.toArray w :=
    run_loadCells_list (P := P) w ⟨g, off, Option.none⟩ cs.toList (fun j v hv => by
      have hadd : (⟨g, off, Option.none⟩ : Addr).add j = ⟨g, off + j, Option.none⟩ := by unfold Addr.add; split <;> simp_all
      rw [hadd]
      exact hc j v (by simpa using hv))
  cases hq : P.info? ty with
  | none => simp [hq] at hi
  | some i =>
    have hs : i.size = cs.size := by simpa [hq] using hi
    have hagg : (isAgg ty).run P w = .ok true w := by
      unfold isAgg
      rw [Sem.run_bind, run_underlying hu w]
      cases d <;> simp_all
    simp only [Array.length_toList, Array.toArray_toList] at hl
    simp [loadVar, Sem.run_bind, hagg, sizeOf, typeInfo, hq, hs, hl]

theorem wpList_load_part {ops : Array Oper} {rest : List Oper} {o : Oper} {a : Act} {w : World} {Q : Exit → Act → World → Prop} (hgd : o.guard = Option.none) (ty : TypeId) (x : Operand) (ho : o.op = .load ty x)
    (g off : Nat) (hx : a.eval x = .pointer (some ⟨g, off, Option.none⟩)) (cs : Array Value) (d : TypeDesc) (hc : ∀ j v, cs[j]? = some v → w.cell? ⟨g, off + j, Option.none⟩ = some v)
    (hu : P.underlying ty = some d) (hd : (match d with | .struct _ | .array _ _ => true | _ => false) = true) (hi : (P.info? ty).map (·.size) = some cs.size)
    (h : wpList P ops Q rest (a.put o.dst (.agg cs)) w) : wpList P ops Q (o :: rest) a w :=
  wpList_plain hgd fun _ hK => by
    unfold Oper.wp execOp
    simp only [ho, hx, Instr.loadAt, Instr.sureAddr, Sem.run_bind, Sem.run_pure, Result.andThen_ok, run_loadVar_part w g off ty cs d hc hu hd hi]
    exact hK _ _ h

theorem OpOk.load_part {o : Oper} {ev : Operand → Value} {W : World} {R : Value → World → Prop} (ty : TypeId) (x : Operand) (ho : o.op = .load ty x)
    (g off : Nat) (hx : ev x = .pointer (some ⟨g, off, Option.none⟩)) (cs : Array Value) (d : TypeDesc) (hc : ∀ j v, cs[j]? = some v → W.cell? ⟨g, off + j, Option.none⟩ = some v)
    (hu : P.underlying ty = some d) (hd : (match d with | .struct _ | .array _ _ => true | _ => false) = true) (hi : (P.info? ty).map (·.size) = some cs.size)
    (h : R (.agg cs) W) : OpOk P o ev W R := by
  unfold OpOk execOp
  simp only [ho, hx, Instr.loadAt, Instr.sureAddr, Sem.run_bind, Sem.run_pure, Result.andThen_ok, run_loadVar_part W g off ty cs d hc hu hd hi]
  exact h

end Go.Proofs.YtgmpmlneoiagdaaGreatDoor

/- A statement whose operations may be carried out in more than one order, with guards on what was passed over. No Go function is spoken of here. -/
namespace Go.Proofs.YtgmpmlneoiagdaaGreatDoor
open Go.RowKit
set_option linter.unusedVariables false
set_option linter.unusedSimpArgs false

def TodoG (P : Program) (ops : Array Oper) (V : Nat → Value → World → Prop) (T : World → World → Prop) (a0 : Act) (w1 : World) : Nat → List Oper → Prop
  | _, [] => True
  | i, o :: rest => (∀ (ev : Operand → Value) (w : World), T w1 w → Base ev → knownOf ops a0 ev o.op.operands.toList → factsOf ops V ev w o.after.toList →
      match o.guard with
      | Option.none => OpOk P o ev w (fun v w' => V i v w' ∧ T w w')
      | some (j, want) => (∃ b, slotOf ops ev j = .bool b ∧ (b = want → OpOk P o ev w (fun v w' => V i v w' ∧ T w w')) ∧ (b ≠ want → V i undef w)) ∨ (slotOf ops ev j = undef ∧ V i undef w)) ∧ TodoG P ops V T a0 w1 (i + 1) rest
section
variable {P : Program} {n : Nat} {ops : Array Oper} {V : Nat → Value → World → Prop} {T : World → World → Prop} {a0 : Act} {w1 : World} {Q : Exit → Act → World → Prop}
theorem todoG_at : ∀ (l : List Oper) (k i : Nat) (o : Oper), TodoG P ops V T a0 w1 k l → l[i]? = some o →
    (∀ (ev : Operand → Value) (w : World), T w1 w → Base ev → knownOf ops a0 ev o.op.operands.toList → factsOf ops V ev w o.after.toList →
      match o.guard with
      | Option.none => OpOk P o ev w (fun v w' => V (k + i) v w' ∧ T w w')
      | some (j, want) => (∃ b, slotOf ops ev j = .bool b ∧ (b = want → OpOk P o ev w (fun v w' => V (k + i) v w' ∧ T w w')) ∧ (b ≠ want → V (k + i) undef w)) ∨ (slotOf ops ev j = undef ∧ V (k + i) undef w))
  | [], _, _, _, _, h => by simp at h
  | x :: l, k, 0, o, h, e => by simp at e; subst e; exact h.1
  | x :: l, k, i + 1, o, h, e => by
    have := todoG_at l (k + 1) i o h.2 (by simpa using e)
    rw [show k + (i + 1) = k + 1 + i by omega]
    exact this
theorem TodoG.from' {w2 : World} (h : ∀ w, T w1 w → T w2 w) : ∀ (l : List Oper) (i : Nat), TodoG P ops V T a0 w2 i l → TodoG P ops V T a0 w1 i l
  | [], _, _ => trivial
  | _ :: l, i, ht => ⟨fun ev w hw => ht.1 ev w (h w hw), TodoG.from' h l (i + 1) ht.2⟩

theorem freeG_any (hok : okOps ops a0.tmps.size = true) (hTr : ∀ w, T w w) (hTt : ∀ a b c, T a b → T b c → T a c) (hVT : ∀ i v w w', V i v w → T w w' → V i v w') (hV0 : ∀ (i : Nat) (o : Oper), ops[i]? = some o → o.dst = Option.none → ∀ v w, V i v w → V i undef w)
    (htodo : TodoG P ops V T a0 w1 0 ops.toList) (hend : ∀ (listed : Array Bool) a w, (∀ i, i < ops.size → listed.getD i true = true) → Inv ops V T a0 w1 listed a w → Q .normal a w) :
    ∀ (fuel : Nat) (listed : Array Bool) (a : Act) (w : World), listed.size = ops.size → (List.range ops.size).countP (fun j => !listed.getD j true) ≤ fuel → Inv ops V T a0 w1 listed a w → wpAny P .any ops Q fuel listed a w
  | 0, listed, a, w, hs, hc, hinv => by
    have hall : ∀ i, i < ops.size → listed.getD i true = true := by
      intro i hi
      have h0 : (List.range ops.size).countP (fun j => !listed.getD j true) = 0 := by omega
      have := List.countP_eq_zero.1 h0 i (List.mem_range.2 hi)
      simpa using this
    refine ⟨?_, hend listed a w hall hinv⟩
    unfold Region.ready
    refine List.filter_eq_nil_iff.2 fun i hi => ?_
    simp [hall i (List.mem_range.1 hi)]
  | fuel + 1, listed, a, w, hs, hc, hinv => by
    refine ⟨fun hr => hend listed a w (ready_all hok hs hr) hinv, fun i hi => ?_⟩
    obtain ⟨o, ho, hlt, hl, haft⟩ := ready_mem hs hi
    have hstep := todoG_at ops.toList 0 i o htodo (by simpa using ho)
    have hstep := hstep a.eval w hinv.t (base_of a) (known_of hinv.keep _) (facts_of _ fun e he hb => hinv.vals _ (by have := ok_edge hok ho (by simpa using he) hb; omega) (haft e (by simpa using he) hb (by have := ok_edge hok ho (by simpa using he) hb; omega)))
    rw [Nat.zero_add] at hstep
    have next : ∀ v w', V i v w' ∧ T w w' → wpAny P .any ops Q fuel (listed.setIfInBounds i true) (a.put o.dst v) w' := by
      intro v w' ⟨hv, ht⟩
      refine freeG_any hok hTr hTt hVT hV0 htodo hend fuel _ _ _ (by simpa using hs) ?_ (inv_put hok hTt hVT hinv ho v ht ?_)
      · have := count_set (n := ops.size) hlt hs hl
        omega
      · cases hd : o.dst with
        | none =>
          have : slotOf ops (a.put Option.none v).eval i = undef := by simp [slotOf, ho, hd]
          rw [this]
          exact hV0 i o ho hd v w' hv
        | some d =>
          have := slot_self hok hinv.size ho v (by rw [hd]; intro h; cases h)
          rw [hd] at this
          rw [this]; exact hv
    unfold wpOp
    simp only [ho]
    cases hg : o.guard with
    | none =>
      rw [hg] at hstep
      rw [if_pos (by simp [Region.wanted, hg])]
      exact .inl (wp_of_ok hstep fun v w' h _ => next v w' h)
    | some jw =>
      obtain ⟨j, want⟩ := jw
      rw [hg] at hstep
      obtain ⟨o', d, ho', hd'⟩ := ok_guard hok ho hg
      rcases hstep with ⟨b, hb, h1, h2⟩ | ⟨hb, h2⟩
      · have hy : yielded ops a.tmps j = some b := by
          simp only [slotOf, ho', hd', Act.eval, Array.getD_eq_getD_getElem?] at hb
          simp only [yielded, ho', hd', Option.bind_some]
          cases hx : a.tmps[d]? with
          | none => rw [hx] at hb; simp [undef] at hb
          | some x => rw [hx] at hb; simp only [Option.getD_some] at hb; subst hb; rfl
        by_cases hbw : b = want
        · rw [if_pos (by simp [Region.wanted, hg, hy, hbw])]
          exact .inl (wp_of_ok (h1 hbw) fun v w' h _ => next v w' h)
        · rw [if_neg (by simp [Region.wanted, hg, hy, hbw])]
          exact next undef w ⟨h2 hbw, hTr w⟩
      · have hy : yielded ops a.tmps j = Option.none := by
          simp only [slotOf, ho', hd', Act.eval, Array.getD_eq_getD_getElem?] at hb
          simp only [yielded, ho', hd', Option.bind_some]
          cases hx : a.tmps[d]? with
          | none => rfl
          | some x => rw [hx] at hb; simp only [Option.getD_some] at hb; subst hb; rfl
        rw [if_neg (by simp [Region.wanted, hg, hy])]
        exact next undef w ⟨h2, hTr w⟩

/-- A REGION IN WHATEVER ORDER -/
theorem wp_region_freeg {id : Nat} {l : List Oper} {w0 : World} (V : Nat → Value → World → Prop) (T : World → World → Prop) (hm : P.follows .mixedOrders = true) (hok : okOps l.toArray a0.tmps.size = true)
    (hTr : ∀ w, T w w) (hTt : ∀ a b c, T a b → T b c → T a c) (hVT : ∀ i v w w', V i v w → T w w' → V i v w')
    (hV0 : ∀ (i : Nat) (o : Oper), l.toArray[i]? = some o → o.dst = Option.none → ∀ v w, V i v w → V i undef w)
    (htodo : TodoG P l.toArray V T a0 w0.drew 0 l) (hend : ∀ w, T w0.drew w → Rest V Q w 0 l a0) : (Code.region id l.toArray true).wp P Q a0 w0 := by
  refine wp_region_any hm ?_
  refine freeG_any (a0 := a0) (w1 := w0.drew) hok hTr hTt hVT hV0 (by simpa using htodo) ?_ _ _ _ _ (by simp) ?_ ⟨hTr _, rfl, rfl, fun _ _ => rfl, ?_⟩
  · intro listed a w hall hinv
    have h := rest_ends (ev := a.eval) l 0 a0 (fun i o ho => by
      have hi : i < l.length := (List.getElem?_eq_some_iff.1 ho).1
      have := hinv.vals i (by simpa using hi) (hall i (by simpa using hi))
      rw [Nat.zero_add]
      simpa [slotOf, ho] using this) (hend w hinv.t)
    have : ends a0 a.eval l = a := by
      have h1 := ends_defers a.eval l a0
      have h2 : (ends a0 a.eval l).tmps = a.tmps := by
        apply Array.ext_getElem?
        intro t
        rw [ends_get]
        split
        · rename_i hc
          simp [Act.eval, hinv.size, hc.1]
        · rename_i hc
          by_cases ht : t < a0.tmps.size
          · refine (hinv.keep t fun i o ho e => hc ⟨ht, o, ?_, e⟩).symm
            have : l[i]? = some o := by simpa using ho
            exact List.mem_of_getElem? this
          · rw [Array.getElem?_eq_none (by omega), Array.getElem?_eq_none (by rw [hinv.size]; omega)]
      cases hx : ends a0 a.eval l with
      | mk t d =>
        rw [hx] at h1 h2
        cases a with
        | mk t' d' =>
          have h3 := hinv.defers
          simp only at h1 h2 h3
          rw [h2, h1, ← h3]
    rw [this] at h
    exact h
  · exact Nat.le_trans List.countP_le_length (by simp)
  · intro i hi hl
    rw [Array.getD_eq_getD_getElem?, Array.getElem?_replicate, if_pos hi] at hl
    cases hl
end

/-- A REGION IN WHATEVER ORDER, what is known of its slots being a list; nothing that exists is turned -/
theorem wp_region_vsg {P : Program} {id : Nat} {l : List Oper} {w0 : World} {a0 : Act} {Q : Exit → Act → World → Prop} (L : List (Value → World → Prop)) (hm : P.follows .mixedOrders = true) (hok : okOps l.toArray a0.tmps.size = true)
    (hds : (l.all fun o => o.dst.isSome) = true) (hk : KeepAll L) (htodo : TodoG P l.toArray (vList L) Stay a0 w0 0 l) (hend : ∀ w, Stay w0 w → Rest (vList L) Q w 0 l a0) : (Code.region id l.toArray true).wp P Q a0 w0 :=
  wp_region_freeg (vList L) Stay hm hok Stay.refl (fun _ _ _ h k => Stay.trans h k) (vList_keep hk.mem) (fun i o ho hd => by
    have := List.all_eq_true.1 hds o (by simpa using Array.mem_of_getElem? ho)
    simp [hd] at this) (TodoG.from' (fun _ h => h.undrew) l 0 htodo) (fun w h => hend w h.undrew)

end Go.Proofs.YtgmpmlneoiagdaaGreatDoor
