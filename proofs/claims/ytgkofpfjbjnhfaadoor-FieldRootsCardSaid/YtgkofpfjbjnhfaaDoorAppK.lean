/- A statement whose operations may be carried out in more than one order, one of them one that turns what lies there and has a value (an append to one's own slice): what is known of the slots is one thing ahead of it, and another behind it; of the world what is kept all the time. No Go function is spoken of here. -/
import Derived.Test.YtgkofpfjbjnhfaaDoorApp
namespace Go.Proofs.YtgkofpfjbjnhfaaDoor
namespace AppK
open Go.RowKit
set_option linter.unusedVariables false
set_option linter.unusedSimpArgs false

/-- s waits for i, by way of others perhaps -/
def needs (ops : Array Oper) : Nat → Nat → Nat → Bool
  | 0, _, _ => false
  | n + 1, s, i => waits ops s i || (List.range ops.size).any fun j => waits ops s j && needs ops n j i
theorem needs_listed {ops : Array Oper} {listed : Array Bool} (hd : Down ops listed) : ∀ (n s i : Nat), needs ops n s i = true → listed.getD s false = true → listed.getD i false = true
  | 0, _, _, h, _ => by cases h
  | n + 1, s, i, h, hs => by
    have step : ∀ j, waits ops s j = true → listed.getD j false = true := fun j hw => by
      obtain ⟨o, ho, e, he, hb, hon⟩ := waits_edge hw
      have := hd s o ho hs e he hb
      rw [hon] at this
      exact this
    simp only [needs, Bool.or_eq_true, List.any_eq_true, Bool.and_eq_true] at h
    rcases h with h | ⟨j, _, h1, h2⟩
    · exact step i h
    · exact needs_listed hd n j i h2 (step j h1)
/-- all operations that lay a value into this slot wait for operation i -/
def allWait (ops : Array Oper) (x : Operand) (i : Nat) : Bool := match x with
  | .tmp t => (List.range ops.size).all fun j => match ops[j]? with
    | some o => !(o.dst == some t) || needs ops 9 j i
    | Option.none => true
  | _ => true
def knownAt (ops : Array Oper) (a0 : Act) (ev : Operand → Value) (i : Nat) : List Operand → Prop
  | [] => True
  | x :: xs => (if allWait ops x i = true then ev x = a0.eval x else True) ∧ knownAt ops a0 ev i xs
theorem known_at {ops : Array Oper} {a0 a : Act} {listed : Array Bool} (hd : Down ops listed) {i : Nat} (hl : listed.getD i false = false)
    (h : ∀ (t : Nat), (∀ (i : Nat) (o : Oper), ops[i]? = some o → listed.getD i false = true → o.dst ≠ some t) → a.tmps[t]? = a0.tmps[t]?) : ∀ xs, knownAt ops a0 a.eval i xs
  | [] => trivial
  | x :: xs => by
    refine ⟨?_, known_at hd hl h xs⟩
    split
    · rename_i hw
      cases x with
      | tmp t =>
        have : a.tmps[t]? = a0.tmps[t]? := h t (fun j o ho hj e => by
          have hm := List.all_eq_true.1 hw j (List.mem_range.2 (Array.getElem?_eq_some_iff.1 ho).1)
          rw [ho] at hm
          simp only [e, BEq.rfl, Bool.not_true, Bool.false_or] at hm
          have := needs_listed hd 9 j i hm hj
          rw [hl] at this
          cases this)
        simp [Act.eval, Array.getD_eq_getD_getElem?, this]
      | const c => rfl
      | global g => rfl
      | func f => rfl
    · trivial
theorem put_restK {ops : Array Oper} {a0 : Act} {listed : Array Bool} {i : Nat} {o : Oper} {a : Act} {v : Value} (hi : i < listed.size) (ho : ops[i]? = some o) (hd : a.defers = a0.defers) (hs : a.tmps.size = a0.tmps.size)
    (hk : ∀ (t : Nat), (∀ (i : Nat) (o : Oper), ops[i]? = some o → listed.getD i false = true → o.dst ≠ some t) → a.tmps[t]? = a0.tmps[t]?) :
    (a.put o.dst v).defers = a0.defers ∧ (a.put o.dst v).tmps.size = a0.tmps.size ∧ ∀ (t : Nat), (∀ (j : Nat) (o : Oper), ops[j]? = some o → (listed.setIfInBounds i true).getD j false = true → o.dst ≠ some t) → (a.put o.dst v).tmps[t]? = a0.tmps[t]? := by
  refine ⟨?_, ?_, ?_⟩
  · cases h : o.dst <;> simp [Act.put, hd]
  · cases h : o.dst <;> simp [Act.put, hs]
  · intro t htt
    have hold : a.tmps[t]? = a0.tmps[t]? := hk t fun j o' ho' hj => htt j o' ho' (by rw [getD_set' hi]; split <;> simp [hj])
    cases h : o.dst with
    | none => exact hold
    | some d =>
      have : d ≠ t := fun e => htt i o ho (by rw [getD_set' hi, if_pos rfl]) (by rw [h, e])
      simp only [Act.put]
      rw [Array.getElem?_setIfInBounds, if_neg this]
      exact hold

section
variable {P : Program} {n : Nat} {ops : Array Oper} {V V' : Nat → Value → World → Prop} {s : Nat} {a0 : Act} {I : Bool → World → Prop} {Q : Exit → Act → World → Prop}

/-- what is to be shown of each operation but the store -/
def TodoA (P : Program) (ops : Array Oper) (V V' : Nat → Value → World → Prop) (s : Nat) (a0 : Act) (I : Bool → World → Prop) : Nat → List Oper → Prop
  | _, [] => True
  | i, o :: rest => (i ≠ s → ∀ (ph : Bool), (waits ops i s = true → ph = true) → (needs ops 9 s i = true → ph = false) → ∀ (ev : Operand → Value) (w : World), I ph w → Base ev → knownAt ops a0 ev i o.op.operands.toList → factsOf ops (two V V' ph) ev w o.after.toList →
      match o.guard with
      | Option.none => OpOk P o ev w (fun v w' => two V V' ph i v w' ∧ Stay w w')
      | some (j, want) => ∃ b, slotOf ops ev j = .bool b ∧ (b = want → OpOk P o ev w (fun v w' => two V V' ph i v w' ∧ Stay w w')) ∧ (b ≠ want → two V V' ph i undef w)) ∧ TodoA P ops V V' s a0 I (i + 1) rest
theorem todoA_at : ∀ (l : List Oper) (k i : Nat) (o : Oper), TodoA P ops V V' s a0 I k l → l[i]? = some o →
    (k + i ≠ s → ∀ (ph : Bool), (waits ops (k + i) s = true → ph = true) → (needs ops 9 s (k + i) = true → ph = false) → ∀ (ev : Operand → Value) (w : World), I ph w → Base ev → knownAt ops a0 ev (k + i) o.op.operands.toList → factsOf ops (two V V' ph) ev w o.after.toList →
      match o.guard with
      | Option.none => OpOk P o ev w (fun v w' => two V V' ph (k + i) v w' ∧ Stay w w')
      | some (j, want) => ∃ b, slotOf ops ev j = .bool b ∧ (b = want → OpOk P o ev w (fun v w' => two V V' ph (k + i) v w' ∧ Stay w w')) ∧ (b ≠ want → two V V' ph (k + i) undef w))
  | [], _, _, _, _, h => by simp at h
  | x :: l, k, 0, o, h, e => by simp at e; subst e; exact h.1
  | x :: l, k, i + 1, o, h, e => by
    have := todoA_at l (k + 1) i o h.2 (by simpa using e)
    rw [show k + (i + 1) = k + 1 + i by omega]
    exact this

/-- what is to be shown of the store -/
def AppOk (P : Program) (ops : Array Oper) (V V' : Nat → Value → World → Prop) (s : Nat) (a0 : Act) (I : Bool → World → Prop) (o : Oper) : Prop :=
  ∀ (ev : Operand → Value) (w : World), I false w → Base ev → knownAt ops a0 ev s o.op.operands.toList → factsOf ops V ev w o.after.toList →
    OpOk P o ev w (fun v w' => I true w' ∧ V' s v w' ∧ ∀ i, i ≠ s → V i (slotOf ops ev i) w → V' i (slotOf ops ev i) w')

structure InvA (ops : Array Oper) (V V' : Nat → Value → World → Prop) (s : Nat) (a0 : Act) (I : Bool → World → Prop) (listed : Array Bool) (a : Act) (w : World) : Prop where
  t : I (listed.getD s false) w
  defers : a.defers = a0.defers
  size : a.tmps.size = a0.tmps.size
  keep : ∀ (t : Nat), (∀ (i : Nat) (o : Oper), ops[i]? = some o → listed.getD i false = true → o.dst ≠ some t) → a.tmps[t]? = a0.tmps[t]?
  vals : ∀ i, i < ops.size → listed.getD i true = true → two V V' (listed.getD s false) i (slotOf ops a.eval i) w

theorem app_any (hok : okOps ops a0.tmps.size = true) (hVT : ∀ i v w w', V i v w → Stay w w' → V i v w') (hVT' : ∀ i v w w', V' i v w → Stay w w' → V' i v w') (hIT : ∀ ph w w', I ph w → Stay w w' → I ph w')
    (os : Oper) (hos : ops[s]? = some os) (hsg : os.guard = Option.none) (hds : ∀ (i : Nat) (o : Oper), ops[i]? = some o → o.dst.isSome = true)
    (hst : AppOk P ops V V' s a0 I os)
    (htodo : TodoA P ops V V' s a0 I 0 ops.toList) (hend : ∀ (listed : Array Bool) a w, (∀ i, i < ops.size → listed.getD i true = true) → listed.size = ops.size → InvA ops V V' s a0 I listed a w → Q .normal a w) :
    ∀ (fuel : Nat) (listed : Array Bool) (a : Act) (w : World), listed.size = ops.size → (List.range ops.size).countP (fun j => !listed.getD j true) ≤ fuel → Down ops listed → InvA ops V V' s a0 I listed a w → wpAny P .any ops Q fuel listed a w
  | 0, listed, a, w, hs, hc, hd, hinv => by
    have hall : ∀ i, i < ops.size → listed.getD i true = true := by
      intro i hi
      have h0 : (List.range ops.size).countP (fun j => !listed.getD j true) = 0 := by omega
      have := List.countP_eq_zero.1 h0 i (List.mem_range.2 hi)
      simpa using this
    refine ⟨?_, hend listed a w hall hs hinv⟩
    unfold Region.ready
    refine List.filter_eq_nil_iff.2 fun i hi => ?_
    simp [hall i (List.mem_range.1 hi)]
  | fuel + 1, listed, a, w, hs, hc, hdn, hinv => by
    refine ⟨fun hr => hend listed a w (ready_all hok hs hr) hs hinv, fun i hi => ?_⟩
    obtain ⟨o, ho, hlt, hl, haft⟩ := ready_mem' hi
    have hss : s < ops.size := (Array.getElem?_eq_some_iff.1 hos).1
    have hcnt : (List.range ops.size).countP (fun j => !(listed.setIfInBounds i true).getD j true) ≤ fuel := by
      have := count_set (n := ops.size) hlt hs hl
      omega
    by_cases his : i = s
    · rw [his] at ho hlt hl hcnt ⊢
      clear his hi
      have hoo : o = os := by rw [ho] at hos; exact Option.some.inj hos
      rw [hoo] at ho haft
      clear hoo
      have hlf : listed.getD s false = false := by rw [← getD_both (by omega)]; exact hl
      have hvals := hinv.vals
      rw [hlf] at hvals
      have hfac : factsOf ops V a.eval w os.after.toList := facts_of _ fun e he hb => by
        have h1 := haft e (by simpa using he) hb
        have h2 := ok_edge hok ho (by simpa using he) hb
        exact hvals e.on (by omega) (by rw [getD_both (by omega)]; exact h1)
      have hit := hinv.t
      rw [hlf] at hit
      have hstep := hst a.eval w hit (base_of a) (known_at hdn hlf hinv.keep _) hfac
      unfold wpOp
      simp only [ho, hsg]
      rw [if_pos (by simp [Region.wanted, hsg])]
      refine .inl (wp_of_ok hstep fun v w' h _ => ?_)
      obtain ⟨h1, hv, h2⟩ := h
      obtain ⟨p1, p2, p3⟩ := put_restK (v := v) (by omega) ho hinv.defers hinv.size hinv.keep
      refine app_any hok hVT hVT' hIT os hos hsg hds hst htodo hend fuel _ _ _ (by simpa using hs) hcnt (down_set hdn hs hlt ho haft) ⟨by rw [getD_set' (by omega), if_pos rfl]; exact h1, p1, p2, p3, ?_⟩
      intro j hj hlj
      have hsl : (listed.setIfInBounds s true).getD s false = true := by rw [getD_set' (by omega), if_pos rfl]
      rw [hsl]
      by_cases hjs : j = s
      · rw [hjs]
        obtain ⟨d, hd⟩ := Option.isSome_iff_exists.1 (hds s os ho)
        have := slot_self hok hinv.size ho v (by rw [hd]; intro h; cases h)
        rw [this]; exact hv
      · rw [getD_set (by omega), if_neg hjs] at hlj
        rw [slot_put hok hinv.size ho v hjs]
        exact h2 j hjs (hvals j hj hlj)
    · have hset : (listed.setIfInBounds i true).getD s false = listed.getD s false := by rw [getD_set' (by omega), if_neg (fun e => his e.symm)]
      have hstep := todoA_at ops.toList 0 i o htodo (by simpa using ho)
      rw [Nat.zero_add] at hstep
      have hstep := hstep his (listed.getD s false) (fun hw => by
        obtain ⟨o', ho', e, he, hb, hon⟩ := waits_edge hw
        rw [ho] at ho'; cases ho'
        have := haft e he hb
        rwa [hon] at this) (fun hw => by
        cases hq : listed.getD s false with
        | false => rfl
        | true =>
          have := needs_listed hdn 9 s i hw hq
          rw [← getD_both (by omega), hl] at this
          cases this) a.eval w hinv.t (base_of a) (known_at hdn (by rw [← getD_both (by omega)]; exact hl) hinv.keep _) (facts_of _ fun e he hb => by
            have h1 := haft e (by simpa using he) hb
            have h2 := ok_edge hok ho (by simpa using he) hb
            exact hinv.vals e.on (by omega) (by rw [getD_both (by omega)]; exact h1))
      have next : ∀ v w', two V V' (listed.getD s false) i v w' ∧ Stay w w' → wpAny P .any ops Q fuel (listed.setIfInBounds i true) (a.put o.dst v) w' := by
        intro v w' ⟨hv, ht⟩
        obtain ⟨p1, p2, p3⟩ := put_restK (v := v) (by omega) ho hinv.defers hinv.size hinv.keep
        refine app_any hok hVT hVT' hIT os hos hsg hds hst htodo hend fuel _ _ _ (by simpa using hs) hcnt (down_set hdn hs hlt ho haft) ⟨by rw [hset]; exact hIT _ _ _ hinv.t ht, p1, p2, p3, ?_⟩
        intro j hj hlj
        rw [hset]
        by_cases hji : j = i
        · rw [hji]
          obtain ⟨d, hd⟩ := Option.isSome_iff_exists.1 (hds i o ho)
          have := slot_self hok hinv.size ho v (by rw [hd]; intro h; cases h)
          rw [this]; exact hv
        · rw [slot_put hok hinv.size ho v hji]
          rw [getD_set (by omega), if_neg hji] at hlj
          have h0 := hinv.vals j hj hlj
          cases hq : listed.getD s false with
          | false => rw [hq] at h0; exact hVT _ _ _ _ h0 ht
          | true => rw [hq] at h0; exact hVT' _ _ _ _ h0 ht
      unfold wpOp
      simp only [ho]
      cases hg : o.guard with
      | none =>
        rw [hg] at hstep
        rw [if_pos (by simp [Region.wanted, hg])]
        exact .inl (wp_of_ok hstep fun v w' h _ => next v w' h)
      | some jw =>
        obtain ⟨j, want⟩ := jw
        rw [hg] at hstep
        obtain ⟨b, hb, h1, h2⟩ := hstep
        obtain ⟨o', d, ho', hd'⟩ := ok_guard hok ho hg
        have hy : yielded ops a.tmps j = some b := by
          simp only [slotOf, ho', hd', Act.eval, Array.getD_eq_getD_getElem?] at hb
          simp only [yielded, ho', hd', Option.bind_some]
          cases hx : a.tmps[d]? with
          | none => rw [hx] at hb; simp [undef] at hb
          | some x => rw [hx] at hb; simp only [Option.getD_some] at hb; subst hb; rfl
        by_cases hbw : b = want
        · rw [if_pos (by simp [Region.wanted, hg, hy, hbw])]
          exact .inl (wp_of_ok (h1 hbw) fun v w' h _ => next v w' h)
        · rw [if_neg (by simp [Region.wanted, hg, hy, hbw])]
          exact next undef w ⟨h2 hbw, Stay.refl w⟩

end

/-- A REGION IN WHATEVER ORDER, with one operation that turns what lies there, number s -/
theorem wp_region_app {P : Program} {id : Nat} {l : List Oper} {w0 : World} {a0 : Act} {Q : Exit → Act → World → Prop} (s : Nat) (L L' : List (Value → World → Prop)) (os : Oper) (hos : l[s]? = some os) (hm : P.follows .mixedOrders = true) (hok : okOps l.toArray a0.tmps.size = true)
    (hsg : os.guard = Option.none) (hds : ((List.range l.length).all fun i => ((l[i]?).bind (·.dst)).isSome) = true) (I : Bool → World → Prop) (hI0 : I false w0.drew) (hIT : ∀ ph w w', I ph w → Stay w w' → I ph w') (hk : KeepAll L) (hk' : KeepAll L')
    (hst : AppOk P l.toArray (vList L) (vList L') s a0 I os) (htodo : TodoA P l.toArray (vList L) (vList L') s a0 I 0 l)
    (hend : ∀ w, I true w → Rest (vList L') Q w 0 l a0) : (Code.region id l.toArray true).wp P Q a0 w0 := by
  refine wp_region_any hm ?_
  refine app_any (V := vList L) (V' := vList L') (s := s) (a0 := a0) (I := I) hok (vTwo_keep hk) (vTwo_keep hk') hIT os (by simpa using hos) hsg ?_ hst (by simpa using htodo) ?_ _ _ _ _ (by simp) ?_ ?_ ⟨by rw [show (Array.replicate l.toArray.size false).getD s false = false from by rw [Array.getD_eq_getD_getElem?, Array.getElem?_replicate]; split <;> rfl]; exact hI0, rfl, rfl, fun _ _ => rfl, ?_⟩
  · intro i o ho
    have hi : i < l.length := by simpa using (Array.getElem?_eq_some_iff.1 ho).1
    have := List.all_eq_true.1 hds i (List.mem_range.2 hi)
    have ho' : l[i]? = some o := by simpa using ho
    simpa [ho'] using this
  · intro listed a w hall hsz hinv
    have hs : s < l.length := (List.getElem?_eq_some_iff.1 hos).1
    have hls : listed.getD s false = true := by rw [← getD_both (by simpa [hsz] using hs)]; exact hall s (by simpa using hs)
    have hv := hinv.vals
    rw [hls] at hv
    have h := rest_ends (ev := a.eval) l 0 a0 (fun i o ho => by
      have hi : i < l.length := (List.getElem?_eq_some_iff.1 ho).1
      rw [Nat.zero_add]
      have := hv i (by simpa using hi) (hall i (by simpa using hi))
      simpa [slotOf, ho, two] using this) (hend w (by have h9 := hinv.t; rw [hls] at h9; exact h9))
    have : ends a0 a.eval l = a := by
      have h1 := ends_defers a.eval l a0
      have h2 : (ends a0 a.eval l).tmps = a.tmps := by
        apply Array.ext_getElem?
        intro t
        rw [ends_get]
        split
        · rename_i hc
          simp [Act.eval, hinv.size, hc.1]
        · rename_i hc
          by_cases ht : t < a0.tmps.size
          · refine (hinv.keep t fun i o ho _ e => hc ⟨ht, o, ?_, e⟩).symm
            have : l[i]? = some o := by simpa using ho
            exact List.mem_of_getElem? this
          · rw [Array.getElem?_eq_none (by omega), Array.getElem?_eq_none (by rw [hinv.size]; omega)]
      cases hx : ends a0 a.eval l with
      | mk t d =>
        rw [hx] at h1 h2
        cases a with
        | mk t' d' =>
          have h3 := hinv.defers
          simp only at h1 h2 h3
          rw [h2, h1, ← h3]
    rw [this] at h
    exact h
  · exact Nat.le_trans List.countP_le_length (by simp)
  · intro i o ho hl
    rw [Array.getD_eq_getD_getElem?, Array.getElem?_replicate] at hl
    split at hl <;> cases hl
  · intro i hi hl
    rw [Array.getD_eq_getD_getElem?, Array.getElem?_replicate, if_pos hi] at hl
    cases hl
end AppK
end Go.Proofs.YtgkofpfjbjnhfaaDoor
