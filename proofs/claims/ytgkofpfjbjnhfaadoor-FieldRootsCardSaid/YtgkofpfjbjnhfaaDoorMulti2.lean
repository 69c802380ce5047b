/- A statement whose operations may be carried out in more than one order, some of them (S) such as turn what lies there: what is known of the world hangs on which of these were carried out, and on what values (of A) they left. No Go function is spoken of here. -/
import Derived.Test.YtgkofpfjbjnhfaaDoorAppK
namespace Go.Proofs.YtgkofpfjbjnhfaaDoor
namespace Multi2
open Go.RowKit AppK
set_option linter.unusedVariables false
set_option linter.unusedSimpArgs false

section
variable {P : Program} {n : Nat} {ops : Array Oper} {V : Nat → Value → World → Prop} {S A : List Nat} {a0 : Act} {I : (Nat → Bool) → (Nat → Value) → World → Prop} {Q : Exit → Act → World → Prop}

/-- how an operation ends -/
def Ended (ops : Array Oper) (S : List Nat) (V : Nat → Value → World → Prop) (I : (Nat → Bool) → (Nat → Value) → World → Prop) (f : Nat → Bool) (ev : Operand → Value) (w : World) (i : Nat) (v : Value) (w' : World) : Prop :=
  V i v w' ∧ if S.contains i = true then I (fun j => j == i || f j) (fun j => if j = i then v else slotOf ops ev j) w' ∧ ∀ j, j ≠ i → V j (slotOf ops ev j) w → V j (slotOf ops ev j) w' else Stay w w'

def TodoM (P : Program) (ops : Array Oper) (S : List Nat) (V : Nat → Value → World → Prop) (a0 : Act) (I : (Nat → Bool) → (Nat → Value) → World → Prop) : Nat → List Oper → Prop
  | _, [] => True
  | i, o :: rest => (∀ (f : Nat → Bool), f i = false → (∀ j, waits ops i j = true → f j = true) → (∀ j, needs ops 9 j i = true → f j = false) → ∀ (ev : Operand → Value) (w : World), I f (slotOf ops ev) w → Base ev → knownAt ops a0 ev i o.op.operands.toList → factsOf ops V ev w o.after.toList →
      match o.guard with
      | Option.none => OpOk P o ev w (Ended ops S V I f ev w i)
      | some (j, want) => ∃ b, slotOf ops ev j = .bool b ∧ (b = want → OpOk P o ev w (Ended ops S V I f ev w i)) ∧ (b ≠ want → V i undef w ∧ S.contains i = false)) ∧ TodoM P ops S V a0 I (i + 1) rest
theorem todoM_at : ∀ (l : List Oper) (k i : Nat) (o : Oper), TodoM P ops S V a0 I k l → l[i]? = some o →
    (∀ (f : Nat → Bool), f (k + i) = false → (∀ j, waits ops (k + i) j = true → f j = true) → (∀ j, needs ops 9 j (k + i) = true → f j = false) → ∀ (ev : Operand → Value) (w : World), I f (slotOf ops ev) w → Base ev → knownAt ops a0 ev (k + i) o.op.operands.toList → factsOf ops V ev w o.after.toList →
      match o.guard with
      | Option.none => OpOk P o ev w (Ended ops S V I f ev w (k + i))
      | some (j, want) => ∃ b, slotOf ops ev j = .bool b ∧ (b = want → OpOk P o ev w (Ended ops S V I f ev w (k + i))) ∧ (b ≠ want → V (k + i) undef w ∧ S.contains (k + i) = false))
  | [], _, _, _, _, h => by simp at h
  | x :: l, k, 0, o, h, e => by simp at e; subst e; exact h.1
  | x :: l, k, i + 1, o, h, e => by
    have := todoM_at l (k + 1) i o h.2 (by simpa using e)
    rw [show k + (i + 1) = k + 1 + i by omega]
    exact this

structure InvM (ops : Array Oper) (V : Nat → Value → World → Prop) (a0 : Act) (I : (Nat → Bool) → (Nat → Value) → World → Prop) (listed : Array Bool) (a : Act) (w : World) : Prop where
  t : I (fun j => listed.getD j false) (slotOf ops a.eval) w
  defers : a.defers = a0.defers
  size : a.tmps.size = a0.tmps.size
  keep : ∀ (t : Nat), (∀ (i : Nat) (o : Oper), ops[i]? = some o → listed.getD i false = true → o.dst ≠ some t) → a.tmps[t]? = a0.tmps[t]?
  vals : ∀ i, i < ops.size → listed.getD i true = true → V i (slotOf ops a.eval i) w

theorem multi_any (hok : okOps ops a0.tmps.size = true) (hVT : ∀ i v w w', V i v w → Stay w w' → V i v w') (hIT : ∀ f s w w', I f s w → Stay w w' → I f s w') (hIS : ∀ f g s t w, (∀ j, S.contains j = true → f j = g j) → (∀ j, A.contains j = true → f j = true → s j = t j) → I f s w → I g t w) (hAS : ∀ j, A.contains j = true → S.contains j = true) (hAd : ∀ (i : Nat) (o : Oper), ops[i]? = some o → A.contains i = true → o.dst.isSome = true)
    (hV0 : ∀ (i : Nat) (o : Oper), ops[i]? = some o → o.dst = Option.none → ∀ v w, V i v w → V i undef w)
    (htodo : TodoM P ops S V a0 I 0 ops.toList) (hend : ∀ (listed : Array Bool) a w, (∀ i, i < ops.size → listed.getD i true = true) → listed.size = ops.size → InvM ops V a0 I listed a w → Q .normal a w) :
    ∀ (fuel : Nat) (listed : Array Bool) (a : Act) (w : World), listed.size = ops.size → (List.range ops.size).countP (fun j => !listed.getD j true) ≤ fuel → Down ops listed → InvM ops V a0 I listed a w → wpAny P .any ops Q fuel listed a w
  | 0, listed, a, w, hs, hc, hd, hinv => by
    have hall : ∀ i, i < ops.size → listed.getD i true = true := by
      intro i hi
      have h0 : (List.range ops.size).countP (fun j => !listed.getD j true) = 0 := by omega
      have := List.countP_eq_zero.1 h0 i (List.mem_range.2 hi)
      simpa using this
    refine ⟨?_, hend listed a w hall hs hinv⟩
    unfold Region.ready
    refine List.filter_eq_nil_iff.2 fun i hi => ?_
    simp [hall i (List.mem_range.1 hi)]
  | fuel + 1, listed, a, w, hs, hc, hdn, hinv => by
    refine ⟨fun hr => hend listed a w (ready_all hok hs hr) hs hinv, fun i hi => ?_⟩
    obtain ⟨o, ho, hlt, hl, haft⟩ := ready_mem' hi
    have hcnt : (List.range ops.size).countP (fun j => !(listed.setIfInBounds i true).getD j true) ≤ fuel := by
      have := count_set (n := ops.size) hlt hs hl
      omega
    have hlf : listed.getD i false = false := by rw [← getD_both (by omega)]; exact hl
    have hstep := todoM_at ops.toList 0 i o htodo (by simpa using ho)
    rw [Nat.zero_add] at hstep
    have hstep := hstep (fun j => listed.getD j false) hlf (fun j hw => by
        obtain ⟨o', ho', e, he, hb, hon⟩ := waits_edge hw
        rw [ho] at ho'; cases ho'
        have := haft e he hb
        rwa [hon] at this) (fun j hw => by
        show listed.getD j false = false
        cases hq : listed.getD j false with
        | false => rfl
        | true =>
          have := needs_listed hdn 9 j i hw hq
          rw [hlf] at this
          cases this) a.eval w hinv.t (base_of a) (known_at hdn hlf hinv.keep _) (facts_of _ fun e he hb => by
            have h1 := haft e (by simpa using he) hb
            have h2 := ok_edge hok ho (by simpa using he) hb
            exact hinv.vals e.on (by omega) (by rw [getD_both (by omega)]; exact h1))
    have next : ∀ v w', Ended ops S V I (fun j => listed.getD j false) a.eval w i v w' → wpAny P .any ops Q fuel (listed.setIfInBounds i true) (a.put o.dst v) w' := by
      intro v w' ⟨hv, ht⟩
      obtain ⟨p1, p2, p3⟩ := put_restK (v := v) (by omega) ho hinv.defers hinv.size hinv.keep
      have hflag : ∀ j, (listed.setIfInBounds i true).getD j false = (j == i || listed.getD j false) := by
        intro j
        rw [getD_set' (by omega)]
        by_cases hj : j = i <;> simp [hj]
      refine multi_any hok hVT hIT hIS hAS hAd hV0 htodo hend fuel _ _ _ (by simpa using hs) hcnt (down_set hdn hs hlt ho haft) ⟨?_, p1, p2, p3, ?_⟩
      · by_cases hS : S.contains i = true
        · rw [if_pos hS] at ht
          refine hIS _ _ _ _ _ (fun j _ => (hflag j).symm) (fun j hj hfj => ?_) ht.1
          by_cases hji : j = i
          · rw [if_pos hji, hji]
            rw [hji] at hj
            refine (slot_self hok hinv.size ho v ?_).symm
            intro h
            have := hAd i o ho hj
            rw [h] at this
            cases this
          · rw [if_neg hji]
            exact (slot_put hok hinv.size ho v hji).symm
        · rw [if_neg hS] at ht
          refine hIS _ _ _ _ _ (fun j hj => ?_) (fun j hj _ => ?_) (hIT _ _ _ _ hinv.t ht)
          · rw [hflag j]
            by_cases hji : j = i
            · rw [hji] at hj; exact absurd hj hS
            · simp [hji]
          · have hji : j ≠ i := fun h => by rw [h] at hj; exact hS (hAS i hj)
            exact (slot_put hok hinv.size ho v hji).symm
      · intro j hj hlj
        by_cases hji : j = i
        · rw [hji]
          cases hd : o.dst with
          | none =>
            have : slotOf ops (a.put Option.none v).eval i = undef := by simp [slotOf, ho, hd]
            rw [this]
            exact hV0 i o ho hd v w' hv
          | some d =>
            have := slot_self hok hinv.size ho v (by rw [hd]; intro h; cases h)
            rw [hd] at this
            rw [this]; exact hv
        · rw [slot_put hok hinv.size ho v hji]
          rw [getD_set (by omega), if_neg hji] at hlj
          have h0 := hinv.vals j hj hlj
          by_cases hS : S.contains i = true
          · rw [if_pos hS] at ht
            exact ht.2 j hji h0
          · rw [if_neg hS] at ht
            exact hVT _ _ _ _ h0 ht
    unfold wpOp
    simp only [ho]
    cases hg : o.guard with
    | none =>
      rw [hg] at hstep
      rw [if_pos (by simp [Region.wanted, hg])]
      exact .inl (wp_of_ok hstep fun v w' h _ => next v w' h)
    | some jw =>
      obtain ⟨j, want⟩ := jw
      rw [hg] at hstep
      obtain ⟨b, hb, h1, h2⟩ := hstep
      obtain ⟨o', d, ho', hd'⟩ := ok_guard hok ho hg
      have hy : yielded ops a.tmps j = some b := by
        simp only [slotOf, ho', hd', Act.eval, Array.getD_eq_getD_getElem?] at hb
        simp only [yielded, ho', hd', Option.bind_some]
        cases hx : a.tmps[d]? with
        | none => rw [hx] at hb; simp [undef] at hb
        | some x => rw [hx] at hb; simp only [Option.getD_some] at hb; subst hb; rfl
      by_cases hbw : b = want
      · rw [if_pos (by simp [Region.wanted, hg, hy, hbw])]
        exact .inl (wp_of_ok (h1 hbw) fun v w' h _ => next v w' h)
      · rw [if_neg (by simp [Region.wanted, hg, hy, hbw])]
        have h3 := h2 hbw
        exact next undef w ⟨h3.1, by rw [if_neg (by rw [h3.2]; decide)]; exact Stay.refl w⟩

end

def TrueAt (L : List (Value → World → Prop)) : List Nat → Prop
  | [] => True
  | i :: r => (vList L i = fun _ _ => True) ∧ TrueAt L r
theorem trueAt_mem {L : List (Value → World → Prop)} : ∀ {nd : List Nat}, TrueAt L nd → ∀ i ∈ nd, vList L i = fun _ _ => True
  | [], _, _, h => by simp at h
  | x :: r, h, i, hi => by
    rcases List.mem_cons.1 hi with rfl | hi
    · exact h.1
    · exact trueAt_mem h.2 i hi

/-- A REGION IN WHATEVER ORDER, with operations that turn what lies there: those of S; nd: those that leave no value -/
theorem wp_region_multi {P : Program} {id : Nat} {l : List Oper} {w0 : World} {a0 : Act} {Q : Exit → Act → World → Prop} (S A nd : List Nat) (L : List (Value → World → Prop)) (hm : P.follows .mixedOrders = true) (hok : okOps l.toArray a0.tmps.size = true)
    (hds : ((List.range l.length).all fun i => nd.contains i || ((l[i]?).bind (·.dst)).isSome) = true) (hnd : TrueAt L nd) (I : (Nat → Bool) → (Nat → Value) → World → Prop) (hI0 : ∀ s, I (fun _ => false) s w0.drew) (hIT : ∀ f s w w', I f s w → Stay w w' → I f s w')
    (hIS : ∀ f g s t w, (∀ j, S.contains j = true → f j = g j) → (∀ j, A.contains j = true → f j = true → s j = t j) → I f s w → I g t w) (hk : KeepAll L)
    (htodo : TodoM P l.toArray S (vList L) a0 I 0 l)
    (hend : ∀ w s, I (fun _ => true) s w → Rest (fun i v w => (A.contains i = true → v = s i) ∧ vList L i v w) Q w 0 l a0) (hSl : (S.all fun i => decide (i < l.length)) = true) (hAS : (A.all fun i => S.contains i && ((l[i]?).bind (·.dst)).isSome) = true) : (Code.region id l.toArray true).wp P Q a0 w0 := by
  refine wp_region_any hm ?_
  refine multi_any (V := vList L) (S := S) (a0 := a0) (I := I) (A := A) hok (vTwo_keep hk) hIT hIS ?_ ?_ ?_ (by simpa using htodo) ?_ _ _ _ _ (by simp) ?_ ?_ ⟨?_, rfl, rfl, fun _ _ => rfl, ?_⟩
  · intro j hj
    have := List.all_eq_true.1 hAS j (by simpa using hj)
    simp only [Bool.and_eq_true] at this
    exact this.1
  · intro i o ho hj
    have := List.all_eq_true.1 hAS i (by simpa using hj)
    simp only [Bool.and_eq_true] at this
    have ho' : l[i]? = some o := by simpa using ho
    simpa [ho'] using this.2
  · intro i o ho hd v w _
    have hi : i < l.length := by simpa using (Array.getElem?_eq_some_iff.1 ho).1
    have := List.all_eq_true.1 hds i (List.mem_range.2 hi)
    have ho' : l[i]? = some o := by simpa using ho
    have hc : i ∈ nd := by simpa [ho', hd] using this
    rw [trueAt_mem hnd i hc]
    trivial
  · intro listed a w hall hsz hinv
    have hv := hinv.vals
    have hI : I (fun _ => true) (slotOf l.toArray a.eval) w := hIS _ _ _ _ _ (fun j hj => by
        show listed.getD j false = true
        have hjl : j < l.length := by
          have hm : j ∈ S := by simpa using hj
          simpa using List.all_eq_true.1 hSl j hm
        rw [← getD_both (by rw [hsz]; simpa using hjl)]
        exact hall j (by simpa using hjl)) (fun _ _ _ => rfl) hinv.t
    have h := rest_ends (ev := a.eval) l 0 a0 (fun i o ho => by
      have hi : i < l.length := (List.getElem?_eq_some_iff.1 ho).1
      rw [Nat.zero_add]
      have h1 := hv i (by simpa using hi) (hall i (by simpa using hi))
      refine ⟨fun _ => ?_, ?_⟩
      · simp [slotOf, ho]
      · simpa [slotOf, ho] using h1) (hend w _ hI)
    have : ends a0 a.eval l = a := by
      have h1 := ends_defers a.eval l a0
      have h2 : (ends a0 a.eval l).tmps = a.tmps := by
        apply Array.ext_getElem?
        intro t
        rw [ends_get]
        split
        · rename_i hc
          simp [Act.eval, hinv.size, hc.1]
        · rename_i hc
          by_cases ht : t < a0.tmps.size
          · refine (hinv.keep t fun i o ho _ e => hc ⟨ht, o, ?_, e⟩).symm
            have : l[i]? = some o := by simpa using ho
            exact List.mem_of_getElem? this
          · rw [Array.getElem?_eq_none (by omega), Array.getElem?_eq_none (by rw [hinv.size]; omega)]
      cases hx : ends a0 a.eval l with
      | mk t d =>
        rw [hx] at h1 h2
        cases a with
        | mk t' d' =>
          have h3 := hinv.defers
          simp only at h1 h2 h3
          rw [h2, h1, ← h3]
    rw [this] at h
    exact h
  · exact Nat.le_trans List.countP_le_length (by simp)
  · intro i o ho hl
    rw [Array.getD_eq_getD_getElem?, Array.getElem?_replicate] at hl
    split at hl <;> cases hl
  · refine hIS (fun _ => false) _ (fun _ => undef) _ _ (fun j _ => ?_) (fun j _ h => by cases h) (hI0 (fun _ => undef))
    rw [Array.getD_eq_getD_getElem?, Array.getElem?_replicate]
    split <;> rfl
  · intro i hi hl
    rw [Array.getD_eq_getD_getElem?, Array.getElem?_replicate, if_pos hi] at hl
    cases hl

/-- what is known of one operation that was or wasn't carried out -/
theorem ended_stay {ops : Array Oper} {S : List Nat} {V : Nat → Value → World → Prop} {I : (Nat → Bool) → (Nat → Value) → World → Prop} {f : Nat → Bool} {ev : Operand → Value} {w w' : World} {i : Nat} {v : Value} (hS : S.contains i = false) (hv : V i v w') (hs : Stay w w') : Ended ops S V I f ev w i v w' :=
  ⟨hv, by rw [if_neg (by rw [hS]; decide)]; exact hs⟩
theorem ended_turn {ops : Array Oper} {S : List Nat} {V : Nat → Value → World → Prop} {I : (Nat → Bool) → (Nat → Value) → World → Prop} {f : Nat → Bool} {ev : Operand → Value} {w w' : World} {i : Nat} {v : Value} (hS : S.contains i = true) (hv : V i v w') (hI : I (fun j => j == i || f j) (fun j => if j = i then v else slotOf ops ev j) w') (hk : ∀ j v, V j v w → V j v w') : Ended ops S V I f ev w i v w' :=
  ⟨hv, by rw [if_pos hS]; exact ⟨hI, fun j _ h => hk j _ h⟩⟩
theorem free_keep {L : List (Value → World → Prop)} (h : ∀ p ∈ L, ∀ v w w', p v w → p v w') (w w' : World) (j : Nat) (v : Value) (hv : vList L j v w) : vList L j v w' := by
  unfold vList at hv ⊢
  cases hq : L[j]? with
  | none => rw [hq] at hv; exact hv
  | some P => rw [hq] at hv; exact h P (List.mem_of_getElem? hq) v w w' hv
/-- a block by its pointer -/
def bv (v : Value) (o : Obj) : SP := ⟨fun h => ∃ g, v = .pointer (some ⟨g, 0, Option.none⟩) ∧ h g = some o⟩
theorem bv_blk {v : Value} {o : Obj} {F : SP} {w : World} (h : (bv v o * F).on w) : ∃ g, v = .pointer (some ⟨g, 0, Option.none⟩) ∧ (blk g o * F).on w := by
  obtain ⟨a, b, h1, h2, h3, ⟨g, e, p⟩, q⟩ := SP.on_mul.1 h
  exact ⟨g, e, SP.on_mul.2 ⟨a, b, h1, h2, h3, p, q⟩⟩
theorem blk_bv {g : Nat} {o : Obj} {F : SP} {w : World} (h : (blk g o * F).on w) : (bv (.pointer (some ⟨g, 0, Option.none⟩)) o * F).on w := by
  obtain ⟨a, b, h1, h2, h3, p, q⟩ := SP.on_mul.1 h
  exact SP.on_mul.2 ⟨a, b, h1, h2, h3, ⟨g, rfl, p⟩, q⟩
/-- a part that is there once something was done -/
def opt (b : Bool) (P : SP) : SP := if b = true then P else emp
theorem opt_true (P : SP) : opt true P = P := rfl
theorem opt_false (P : SP) : opt false P = emp := rfl
theorem on_emp_mul' {P : SP} {w : World} : (emp * P).on w ↔ P.on w := on_emp_mul
end Multi2
/-- a store of a whole array or struct -/
theorem OpOk.store_agg {P : Program} {o : Oper} {ev : Operand → Value} {W : World} {R : Value → World → Prop} {F : SP} (ty : TypeId) (x y : Operand) (ho : o.op = .store ty x y)
    (g : Nat) (cs : Array Value) (hx : ev x = .pointer (some ⟨g, 0, Option.none⟩)) (hy : ev y = .agg cs) (t : TypeId) (old : Array Value) (H : (blk g (.cells old t (0, 0)) * F).on W) (hi : (P.info? ty).map (·.size) = some cs.size)
    (hl : old.size = cs.size) (h1 : cs.all (·.oneCell') = true)
    (h : (blk g (.cells cs t (0, 0)) * F).on (W.setRow g cs) → R undef (W.setRow g cs)) : OpOk P o ev W R := by
  have hs := run_storeCells_at (P := P) g 0 t cs.toList 0 old W (on_blk_mul H) (by simp; omega) (by
    intro u hu
    exact (Array.all_eq_true_iff_forall_mem.1 h1) u (by simpa using hu))
  have e : old.toList.take 0 ++ cs.toList ++ old.toList.drop (0 + cs.toList.length) = cs.toList := by
    rw [List.take_zero, List.nil_append, List.drop_of_length_le (by simp; omega), List.append_nil]
  simp only [Nat.add_zero, e, Array.toArray_toList] at hs
  have hsv : (storeVar ty ⟨g, 0, Option.none⟩ (.agg cs)).run P W = .ok () (W.setRow g cs) := by
    cases hq : P.info? ty with
    | none => simp [hq] at hi
    | some i =>
      have hz : i.size = cs.size := by simpa [hq] using hi
      simp [storeVar, sizeOf, typeInfo, hq, Value.cells, hz, hs]
  unfold OpOk execOp
  simp only [ho, hx, hy, Instr.storeAt, Instr.sureAddr, Sem.run_bind, Sem.run_pure, Result.andThen_ok, hsv]
  exact h (H.setRow cs)
end Go.Proofs.YtgkofpfjbjnhfaaDoor
