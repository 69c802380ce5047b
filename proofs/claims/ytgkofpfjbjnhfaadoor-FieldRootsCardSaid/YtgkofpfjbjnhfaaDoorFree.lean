/- A statement whose operations may be carried out in more than one order: each operation by what it needs and what it gives, in whatever world comes. No Go function is spoken of here. -/
import Derived.Test.YtgkofpfjbjnhfaaDoorSep
import Derived.Orders
namespace Go.Proofs.YtgkofpfjbjnhfaaDoor
open Go.RowKit
set_option linter.unusedVariables false

/-- an operation, its operands being known: it yields a value, or calls what returns one -/
def OpOk (P : Program) (o : Oper) (ev : Operand → Value) (w : World) (R : Value → World → Prop) : Prop :=
  match (execOp ev o).run P w with
  | .ok (.value v) w' => R v w'
  | .ok .skip w' => R undef w'
  | .ok (.enter f args) w' => Calls P f args w' fun e w'' => ∃ v, e = .returned v ∧ R v w''
  | _ => False

/-- what the operation with this number has left -/
def slotOf (ops : Array Oper) (ev : Operand → Value) (i : Nat) : Value := match ops[i]? with
  | some o => (match o.dst with | some d => ev (.tmp d) | Option.none => undef)
  | Option.none => undef
def isDst (ops : Array Oper) : Operand → Bool
  | .tmp t => ops.toList.any (fun o => o.dst == some t)
  | _ => false
/-- what is known of those that it waits for -/
def factsOf (ops : Array Oper) (V : Nat → Value → World → Prop) (ev : Operand → Value) (w : World) : List Edge → Prop
  | [] => True
  | e :: es => (if Region.binds .any e then V e.on (slotOf ops ev e.on) w else True) ∧ factsOf ops V ev w es
/-- what is known of the other slots that it reads -/
def knownOf (ops : Array Oper) (a0 : Act) (ev : Operand → Value) : List Operand → Prop
  | [] => True
  | x :: xs => (if isDst ops x then True else ev x = a0.eval x) ∧ knownOf ops a0 ev xs
/-- what is to be shown of each operation -/
def Base (ev : Operand → Value) : Prop := (∀ c, ev (.const c) = c) ∧ (∀ f, ev (.func f) = .func (.func f) #[] #[]) ∧ ∀ g, ev (.global g) = .pointer (some ⟨g, 0, Option.none⟩)
theorem base_of (a : Act) : Base a.eval := ⟨fun _ => rfl, fun _ => rfl, fun _ => rfl⟩
def Todo (P : Program) (ops : Array Oper) (V : Nat → Value → World → Prop) (T : World → World → Prop) (a0 : Act) (w1 : World) : Nat → List Oper → Prop
  | _, [] => True
  | i, o :: rest => (∀ (ev : Operand → Value) (w : World), T w1 w → Base ev → knownOf ops a0 ev o.op.operands.toList → factsOf ops V ev w o.after.toList →
      match o.guard with
      | Option.none => OpOk P o ev w (fun v w' => V i v w' ∧ T w w')
      | some (j, want) => ∃ b, slotOf ops ev j = .bool b ∧ (b = want → OpOk P o ev w (fun v w' => V i v w' ∧ T w w')) ∧ (b ≠ want → V i undef w)) ∧ Todo P ops V T a0 w1 (i + 1) rest
/-- what is to be shown behind them all -/
def Rest (V : Nat → Value → World → Prop) (Q : Exit → Act → World → Prop) (w : World) : Nat → List Oper → Act → Prop
  | _, [], a => Q .normal a w
  | i, o :: rest, a => ∀ v, V i v w → Rest V Q w (i + 1) rest (a.put o.dst v)

def okOps (ops : Array Oper) (n : Nat) : Bool := (List.range ops.size).all fun i => match ops[i]? with
  | some o => o.after.all (fun e => !Region.binds .any e || decide (e.on < i)) &&
      (match o.dst with | some d => decide (d < n) && (List.range i).all (fun j => (ops[j]?.bind (·.dst)) != some d) | Option.none => true) &&
      (match o.guard with | some (j, _) => o.after.any (fun e => Region.binds .any e && e.on == j) && ((ops[j]?).bind (·.dst)).isSome | Option.none => true)
  | Option.none => true

section
variable {P : Program} {n : Nat} {ops : Array Oper} {V : Nat → Value → World → Prop} {T : World → World → Prop} {a0 : Act} {w1 : World} {Q : Exit → Act → World → Prop}

theorem ok_edge (h : okOps ops n = true) {i : Nat} {o : Oper} (ho : ops[i]? = some o) {e : Edge} (he : e ∈ o.after) (hb : Region.binds .any e = true) : e.on < i := by
  have hi : i < ops.size := (Array.getElem?_eq_some_iff.1 ho).1
  have := List.all_eq_true.1 h i (List.mem_range.2 hi)
  simp only [ho, Bool.and_eq_true] at this
  have h1 := Array.all_eq_true_iff_forall_mem.1 this.1.1 e he
  simpa [hb] using h1
theorem ok_size (h : okOps ops n = true) {i : Nat} {o : Oper} (ho : ops[i]? = some o) {d : Nat} (hd : o.dst = some d) : d < n := by
  have hi : i < ops.size := (Array.getElem?_eq_some_iff.1 ho).1
  have := List.all_eq_true.1 h i (List.mem_range.2 hi)
  simp only [ho, hd, Bool.and_eq_true, decide_eq_true_eq] at this
  exact this.1.2.1
theorem ok_apart (h : okOps ops n = true) {i j : Nat} {o o' : Oper} (ho : ops[i]? = some o) (ho' : ops[j]? = some o') {d : Nat} (hd : o.dst = some d) (hd' : o'.dst = some d) : i = j := by
  have key : ∀ {i j : Nat} {o o' : Oper}, ops[i]? = some o → ops[j]? = some o' → o.dst = some d → o'.dst = some d → j < i → False := by
    intro i j o o' ho ho' hd hd' hlt
    have hi : i < ops.size := (Array.getElem?_eq_some_iff.1 ho).1
    have := List.all_eq_true.1 h i (List.mem_range.2 hi)
    simp only [ho, hd, Bool.and_eq_true] at this
    have h1 := List.all_eq_true.1 this.1.2.2 j (List.mem_range.2 hlt)
    simp [ho', hd'] at h1
  rcases Nat.lt_trichotomy i j with hlt | he | hlt
  · exact (key ho' ho hd' hd hlt).elim
  · exact he
  · exact (key ho ho' hd hd' hlt).elim
theorem ok_guard (h : okOps ops n = true) {i : Nat} {o : Oper} (ho : ops[i]? = some o) {j : Nat} {want : Bool} (hg : o.guard = some (j, want)) : ∃ o' d, ops[j]? = some o' ∧ o'.dst = some d := by
  have hi : i < ops.size := (Array.getElem?_eq_some_iff.1 ho).1
  have := List.all_eq_true.1 h i (List.mem_range.2 hi)
  simp only [ho, hg, Bool.and_eq_true] at this
  have h1 := this.2.2
  cases hj : ops[j]? with
  | none => simp [hj] at h1
  | some o' =>
    simp only [hj, Option.bind_some] at h1
    exact ⟨o', _, rfl, Option.eq_some_of_isSome h1⟩

structure Inv (ops : Array Oper) (V : Nat → Value → World → Prop) (T : World → World → Prop) (a0 : Act) (w1 : World) (listed : Array Bool) (a : Act) (w : World) : Prop where
  t : T w1 w
  defers : a.defers = a0.defers
  size : a.tmps.size = a0.tmps.size
  keep : ∀ (t : Nat), (∀ (i : Nat) (o : Oper), ops[i]? = some o → o.dst ≠ some t) → a.tmps[t]? = a0.tmps[t]?
  vals : ∀ i, i < ops.size → listed.getD i true = true → V i (slotOf ops a.eval i) w

theorem known_of {a : Act} (h : ∀ (t : Nat), (∀ (i : Nat) (o : Oper), ops[i]? = some o → o.dst ≠ some t) → a.tmps[t]? = a0.tmps[t]?) : ∀ xs, knownOf ops a0 a.eval xs
  | [] => trivial
  | x :: xs => by
    refine ⟨?_, known_of h xs⟩
    split
    · trivial
    · rename_i hd
      cases x with
      | tmp t =>
        simp only [isDst, Bool.not_eq_true] at hd
        have : a.tmps[t]? = a0.tmps[t]? := h t (fun i o ho e => by
          have hm : o ∈ ops.toList := by simpa using Array.mem_of_getElem? ho
          have := List.any_eq_false.1 hd o hm
          simp [e] at this)
        simp [Act.eval, Array.getD_eq_getD_getElem?, this]
      | const c => rfl
      | global g => rfl
      | func f => rfl
theorem facts_of {a : Act} {w : World} : ∀ es : List Edge, (∀ e ∈ es, Region.binds .any e = true → V e.on (slotOf ops a.eval e.on) w) → factsOf ops V a.eval w es
  | [], _ => trivial
  | e :: es, h => by
    refine ⟨?_, facts_of es (fun e he => h e (List.mem_cons_of_mem _ he))⟩
    split
    · exact h e List.mem_cons_self (by assumption)
    · trivial
theorem todo_at : ∀ (l : List Oper) (k i : Nat) (o : Oper), Todo P ops V T a0 w1 k l → l[i]? = some o →
    (∀ (ev : Operand → Value) (w : World), T w1 w → Base ev → knownOf ops a0 ev o.op.operands.toList → factsOf ops V ev w o.after.toList →
      match o.guard with
      | Option.none => OpOk P o ev w (fun v w' => V (k + i) v w' ∧ T w w')
      | some (j, want) => ∃ b, slotOf ops ev j = .bool b ∧ (b = want → OpOk P o ev w (fun v w' => V (k + i) v w' ∧ T w w')) ∧ (b ≠ want → V (k + i) undef w))
  | [], _, _, _, _, h => by simp at h
  | x :: l, k, 0, o, h, e => by simp at e; subst e; exact h.1
  | x :: l, k, i + 1, o, h, e => by
    have := todo_at l (k + 1) i o h.2 (by simpa using e)
    rw [show k + (i + 1) = k + 1 + i by omega]
    exact this

theorem slot_put (hok : okOps ops n = true) {a : Act} (hs : a.tmps.size = n) {i j : Nat} {o : Oper} (ho : ops[i]? = some o) (v : Value) (hj : j ≠ i) : slotOf ops (a.put o.dst v).eval j = slotOf ops a.eval j := by
  unfold slotOf
  cases hoj : ops[j]? with
  | none => rfl
  | some o' =>
    simp only []
    cases hd' : o'.dst with
    | none => rfl
    | some d' =>
      simp only []
      cases hd : o.dst with
      | none => rfl
      | some d =>
        have : d ≠ d' := fun e => hj (ok_apart hok hoj ho hd' (by rw [hd, e]))
        simp [Act.put, Act.eval, this]
theorem slot_self (hok : okOps ops n = true) {a : Act} (hs : a.tmps.size = n) {i : Nat} {o : Oper} (ho : ops[i]? = some o) (v : Value) (hv : o.dst = Option.none → v = undef) : slotOf ops (a.put o.dst v).eval i = v := by
  unfold slotOf
  simp only [ho]
  cases hd : o.dst with
  | none => exact (hv hd).symm
  | some d =>
    have := ok_size hok ho hd
    simp [Act.put, Act.eval, hs, this]

theorem inv_put (hok : okOps ops a0.tmps.size = true) (hTt : ∀ a b c, T a b → T b c → T a c) (hVT : ∀ i v w w', V i v w → T w w' → V i v w') {listed : Array Bool} {a : Act} {w w' : World} (h : Inv ops V T a0 w1 listed a w)
    {i : Nat} {o : Oper} (ho : ops[i]? = some o) (v : Value) (ht : T w w') (hv : V i (slotOf ops (a.put o.dst v).eval i) w') : Inv ops V T a0 w1 (listed.setIfInBounds i true) (a.put o.dst v) w' := by
  refine ⟨hTt _ _ _ h.t ht, ?_, ?_, ?_, ?_⟩
  · cases hd : o.dst <;> simp [Act.put, h.defers]
  · cases hd : o.dst <;> simp [Act.put, h.size]
  · intro t htt
    cases hd : o.dst with
    | none => exact h.keep t htt
    | some d =>
      have : d ≠ t := fun e => htt i o ho (by rw [hd, e])
      simp only [Act.put]
      rw [Array.getElem?_setIfInBounds, if_neg this]
      exact h.keep t htt
  · intro j hj hl
    by_cases hji : j = i
    · subst hji; exact hv
    · rw [slot_put hok h.size ho v hji]
      refine hVT _ _ _ _ (h.vals j hj ?_) ht
      rw [Array.getD_eq_getD_getElem?, Array.getElem?_setIfInBounds, if_neg (Ne.symm hji)] at hl
      rw [Array.getD_eq_getD_getElem?]
      exact hl

theorem countP_lt {p q : Nat → Bool} : ∀ (l : List Nat) (i : Nat), i ∈ l → (∀ x, q x = true → p x = true) → p i = true → q i = false → l.countP q < l.countP p
  | [], _, h, _, _, _ => by simp at h
  | x :: l, i, h, hqp, hp, hq => by
    have hle : l.countP q ≤ l.countP p := List.countP_mono_left (fun x _ => hqp x)
    rw [List.countP_cons, List.countP_cons]
    by_cases hx : x = i
    · subst hx; simp [hp, hq]; omega
    · have hm : i ∈ l := by simpa [Ne.symm hx] using h
      have := countP_lt l i hm hqp hp hq
      by_cases hqx : q x = true
      · simp [hqx, hqp x hqx]; omega
      · simp [hqx]; split <;> omega
theorem getD_set {listed : Array Bool} {i j : Nat} (hi : i < listed.size) : (listed.setIfInBounds i true).getD j true = (if j = i then true else listed.getD j true) := by
  rw [Array.getD_eq_getD_getElem?, Array.getD_eq_getD_getElem?, Array.getElem?_setIfInBounds]
  by_cases h : i = j
  · rw [if_pos h, if_pos hi, if_pos h.symm]; rfl
  · rw [if_neg h, if_neg (Ne.symm h)]
theorem count_set {listed : Array Bool} {i : Nat} (hi : i < n) (hn : listed.size = n) (hl : listed.getD i true = false) :
    (List.range n).countP (fun j => !(listed.setIfInBounds i true).getD j true) < (List.range n).countP (fun j => !listed.getD j true) := by
  refine countP_lt _ i (List.mem_range.2 hi) ?_ (by simpa using hl) (by rw [getD_set (by omega)]; simp)
  intro x hx
  rw [getD_set (by omega)] at hx
  split at hx
  · simp at hx
  · exact hx

theorem ready_all (hok : okOps ops n = true) {listed : Array Bool} (hs : listed.size = ops.size) (hr : Region.ready .any ops listed = []) : ∀ i, i < ops.size → listed.getD i true = true := by
  intro i
  induction i using Nat.strongRecOn with
  | ind i ih =>
    intro hi
    cases hl : listed.getD i true with
    | true => rfl
    | false =>
      have hm : i ∈ Region.ready .any ops listed := by
        refine List.mem_filter.2 ⟨List.mem_range.2 hi, ?_⟩
        rw [hl]
        have ho : ops[i]? = some ops[i] := Array.getElem?_eq_getElem hi
        simp only [Bool.not_false, Bool.true_and, ho, Option.map_some, Option.getD_some]
        refine Array.all_eq_true_iff_forall_mem.2 fun e he => ?_
        cases hb : Region.binds .any e with
        | false => simp
        | true =>
          have hlt := ok_edge hok ho he hb
          have h2 := ih e.on hlt (by omega)
          simp only [Bool.not_true, Bool.false_or]
          rw [Array.getD_eq_getD_getElem?, Array.getElem?_eq_getElem (by omega)] at h2 ⊢
          exact h2
      rw [hr] at hm; simp at hm
theorem ready_mem {listed : Array Bool} (hs : listed.size = ops.size) {i : Nat} (hi : i ∈ Region.ready .any ops listed) :
    ∃ o, ops[i]? = some o ∧ i < ops.size ∧ listed.getD i true = false ∧ ∀ e ∈ o.after, Region.binds .any e = true → e.on < ops.size → listed.getD e.on true = true := by
  obtain ⟨h1, h2⟩ := List.mem_filter.1 hi
  have hlt := List.mem_range.1 h1
  have ho : ops[i]? = some ops[i] := Array.getElem?_eq_getElem hlt
  simp only [Bool.and_eq_true, ho, Option.map_some, Option.getD_some] at h2
  refine ⟨_, ho, hlt, by simpa using h2.1, fun e he hb hon => ?_⟩
  have := Array.all_eq_true_iff_forall_mem.1 h2.2 e he
  simp only [hb, Bool.not_true, Bool.false_or] at this
  rw [Array.getD_eq_getD_getElem?, Array.getElem?_eq_getElem (by omega)] at this ⊢
  exact this

theorem wp_of_ok {o : Oper} {a : Act} {w : World} {R : Value → World → Prop} {K : Act → World → Prop} (h : OpOk P o a.eval w R) (hK : ∀ v w', R v w' → (o.dst = Option.none → True) → K (a.put o.dst v) w') : o.wp P a w K Q := by
  unfold OpOk at h
  unfold Oper.wp
  generalize (execOp a.eval o).run P w = r at *
  cases r with
  | ok x w' =>
    cases x with
    | value v => exact hK _ _ h (fun _ => trivial)
    | skip => exact hK _ _ h (fun _ => trivial)
    | enter f args =>
      simp only [Oper.upon]
      refine h.mono ?_
      rintro e w'' ⟨v, rfl, hr⟩
      exact hK _ _ hr (fun _ => trivial)
    | _ => exact h.elim
  | halt x w' => exact h.elim

theorem free_any (hok : okOps ops a0.tmps.size = true) (hTr : ∀ w, T w w) (hTt : ∀ a b c, T a b → T b c → T a c) (hVT : ∀ i v w w', V i v w → T w w' → V i v w') (hV0 : ∀ (i : Nat) (o : Oper), ops[i]? = some o → o.dst = Option.none → ∀ v w, V i v w → V i undef w)
    (htodo : Todo P ops V T a0 w1 0 ops.toList) (hend : ∀ (listed : Array Bool) a w, (∀ i, i < ops.size → listed.getD i true = true) → Inv ops V T a0 w1 listed a w → Q .normal a w) :
    ∀ (fuel : Nat) (listed : Array Bool) (a : Act) (w : World), listed.size = ops.size → (List.range ops.size).countP (fun j => !listed.getD j true) ≤ fuel → Inv ops V T a0 w1 listed a w → wpAny P .any ops Q fuel listed a w
  | 0, listed, a, w, hs, hc, hinv => by
    have hall : ∀ i, i < ops.size → listed.getD i true = true := by
      intro i hi
      have h0 : (List.range ops.size).countP (fun j => !listed.getD j true) = 0 := by omega
      have := List.countP_eq_zero.1 h0 i (List.mem_range.2 hi)
      simpa using this
    refine ⟨?_, hend listed a w hall hinv⟩
    unfold Region.ready
    refine List.filter_eq_nil_iff.2 fun i hi => ?_
    simp [hall i (List.mem_range.1 hi)]
  | fuel + 1, listed, a, w, hs, hc, hinv => by
    refine ⟨fun hr => hend listed a w (ready_all hok hs hr) hinv, fun i hi => ?_⟩
    obtain ⟨o, ho, hlt, hl, haft⟩ := ready_mem hs hi
    have hstep := todo_at ops.toList 0 i o htodo (by simpa using ho)
    have hstep := hstep a.eval w hinv.t (base_of a) (known_of hinv.keep _) (facts_of _ fun e he hb => hinv.vals _ (by have := ok_edge hok ho (by simpa using he) hb; omega) (haft e (by simpa using he) hb (by have := ok_edge hok ho (by simpa using he) hb; omega)))
    rw [Nat.zero_add] at hstep
    have next : ∀ v w', V i v w' ∧ T w w' → wpAny P .any ops Q fuel (listed.setIfInBounds i true) (a.put o.dst v) w' := by
      intro v w' ⟨hv, ht⟩
      refine free_any hok hTr hTt hVT hV0 htodo hend fuel _ _ _ (by simpa using hs) ?_ (inv_put hok hTt hVT hinv ho v ht ?_)
      · have := count_set (n := ops.size) hlt hs hl
        omega
      · cases hd : o.dst with
        | none =>
          have : slotOf ops (a.put Option.none v).eval i = undef := by simp [slotOf, ho, hd]
          rw [this]
          exact hV0 i o ho hd v w' hv
        | some d =>
          have := slot_self hok hinv.size ho v (by rw [hd]; intro h; cases h)
          rw [hd] at this
          rw [this]; exact hv
    unfold wpOp
    simp only [ho]
    cases hg : o.guard with
    | none =>
      rw [hg] at hstep
      rw [if_pos (by simp [Region.wanted, hg])]
      exact .inl (wp_of_ok hstep fun v w' h _ => next v w' h)
    | some jw =>
      obtain ⟨j, want⟩ := jw
      rw [hg] at hstep
      obtain ⟨b, hb, h1, h2⟩ := hstep
      obtain ⟨o', d, ho', hd'⟩ := ok_guard hok ho hg
      have hy : yielded ops a.tmps j = some b := by
        simp only [slotOf, ho', hd', Act.eval, Array.getD_eq_getD_getElem?] at hb
        simp only [yielded, ho', hd', Option.bind_some]
        cases hx : a.tmps[d]? with
        | none => rw [hx] at hb; simp [undef] at hb
        | some x => rw [hx] at hb; simp only [Option.getD_some] at hb; subst hb; rfl
      by_cases hbw : b = want
      · rw [if_pos (by simp [Region.wanted, hg, hy, hbw])]
        exact .inl (wp_of_ok (h1 hbw) fun v w' h _ => next v w' h)
      · rw [if_neg (by simp [Region.wanted, hg, hy, hbw])]
        exact next undef w ⟨h2 hbw, hTr w⟩

/-- the slots as they are in the end -/
def ends (a : Act) (ev : Operand → Value) : List Oper → Act
  | [] => a
  | o :: l => ends (match o.dst with | some d => a.put (some d) (ev (.tmp d)) | Option.none => a.put Option.none undef) ev l
theorem ends_get (ev : Operand → Value) : ∀ (l : List Oper) (a : Act) (t : Nat), (ends a ev l).tmps[t]? = if t < a.tmps.size ∧ (∃ o ∈ l, o.dst = some t) then some (ev (.tmp t)) else a.tmps[t]?
  | [], a, t => by simp [ends]
  | o :: l, a, t => by
    rw [ends, ends_get ev l]
    cases hd : o.dst with
    | none =>
      by_cases hc : t < a.tmps.size ∧ ∃ o, o ∈ l ∧ o.dst = some t <;> simp [Act.put, hd, hc]
    | some d =>
      by_cases hdt : d = t
      · subst hdt
        by_cases hs : d < a.tmps.size <;> simp [Act.put, hd, hs]
      · simp [Act.put, hd, hdt]
theorem ends_defers (ev : Operand → Value) : ∀ (l : List Oper) (a : Act), (ends a ev l).defers = a.defers
  | [], a => rfl
  | o :: l, a => by rw [ends, ends_defers ev l]; cases o.dst <;> rfl
theorem ends_size (ev : Operand → Value) : ∀ (l : List Oper) (a : Act), (ends a ev l).tmps.size = a.tmps.size
  | [], a => rfl
  | o :: l, a => by rw [ends, ends_size ev l]; cases o.dst <;> simp [Act.put]
theorem rest_ends {w : World} {ev : Operand → Value} : ∀ (l : List Oper) (k : Nat) (a : Act), (∀ i o, l[i]? = some o → V (k + i) (match o.dst with | some d => ev (.tmp d) | Option.none => undef) w) → Rest V Q w k l a → Q .normal (ends a ev l) w
  | [], _, _, _, h => h
  | o :: l, k, a, hv, h => by
    have h0 := hv 0 o rfl
    have h1 := h _ h0
    have h2 := rest_ends l (k + 1) _ (fun i o' ho' => by
      have := hv (i + 1) o' (by simpa using ho')
      rw [show k + 1 + i = k + (i + 1) by omega]
      exact this) h1
    rw [ends]
    cases hd : o.dst with
    | none => rw [hd] at h2; exact h2
    | some d => rw [hd] at h2; exact h2

/-- A REGION IN WHATEVER ORDER -/
theorem wp_region_free {id : Nat} {l : List Oper} {w0 : World} (V : Nat → Value → World → Prop) (T : World → World → Prop) (hm : P.follows .mixedOrders = true) (hok : okOps l.toArray a0.tmps.size = true)
    (hTr : ∀ w, T w w) (hTt : ∀ a b c, T a b → T b c → T a c) (hVT : ∀ i v w w', V i v w → T w w' → V i v w')
    (hV0 : ∀ (i : Nat) (o : Oper), l.toArray[i]? = some o → o.dst = Option.none → ∀ v w, V i v w → V i undef w)
    (htodo : Todo P l.toArray V T a0 w0.drew 0 l) (hend : ∀ w, T w0.drew w → Rest V Q w 0 l a0) : (Code.region id l.toArray true).wp P Q a0 w0 := by
  refine wp_region_any hm ?_
  refine free_any (a0 := a0) (w1 := w0.drew) hok hTr hTt hVT hV0 (by simpa using htodo) ?_ _ _ _ _ (by simp) ?_ ⟨hTr _, rfl, rfl, fun _ _ => rfl, ?_⟩
  · intro listed a w hall hinv
    have h := rest_ends (ev := a.eval) l 0 a0 (fun i o ho => by
      have hi : i < l.length := (List.getElem?_eq_some_iff.1 ho).1
      have := hinv.vals i (by simpa using hi) (hall i (by simpa using hi))
      rw [Nat.zero_add]
      simpa [slotOf, ho] using this) (hend w hinv.t)
    have : ends a0 a.eval l = a := by
      have h1 := ends_defers a.eval l a0
      have h2 : (ends a0 a.eval l).tmps = a.tmps := by
        apply Array.ext_getElem?
        intro t
        rw [ends_get]
        split
        · rename_i hc
          simp [Act.eval, hinv.size, hc.1]
        · rename_i hc
          by_cases ht : t < a0.tmps.size
          · refine (hinv.keep t fun i o ho e => hc ⟨ht, o, ?_, e⟩).symm
            have : l[i]? = some o := by simpa using ho
            exact List.mem_of_getElem? this
          · rw [Array.getElem?_eq_none (by omega), Array.getElem?_eq_none (by rw [hinv.size]; omega)]
      cases hx : ends a0 a.eval l with
      | mk t d =>
        rw [hx] at h1 h2
        cases a with
        | mk t' d' =>
          have h3 := hinv.defers
          simp only at h1 h2 h3
          rw [h2, h1, ← h3]
    rw [this] at h
    exact h
  · exact Nat.le_trans List.countP_le_length (by simp)
  · intro i hi hl
    rw [Array.getD_eq_getD_getElem?, Array.getElem?_replicate, if_pos hi] at hl
    cases hl
end

abbrev isV (x : Value) : Value → World → Prop := fun v _ => v = x
/-- what is known, from a list -/
def vList (l : List (Value → World → Prop)) (i : Nat) : Value → World → Prop := (l[i]?).getD (fun _ _ => True)
/-- what existed stays -/
abbrev Stay (w w' : World) : Prop := Below w.heap.size w w'
theorem Stay.refl (w : World) : Stay w w := Below.refl _ _
theorem Stay.trans {a b c : World} (h : Stay a b) (k : Stay b c) : Stay a c := Below.trans h (Below.mono k h.size)
def Keep (p : Value → World → Prop) : Prop := ∀ v w w', p v w → Stay w w' → p v w'
theorem Keep.isV (x : Value) : Keep (isV x) := fun _ _ _ h _ => h
theorem vList_keep {l : List (Value → World → Prop)} (h : ∀ p ∈ l, Keep p) : ∀ i v w w', vList l i v w → Stay w w' → vList l i v w' := by
  intro i v w w' hv hs
  unfold vList at *
  cases hx : l[i]? with
  | none => trivial
  | some p =>
    rw [hx] at hv
    exact h p (List.mem_of_getElem? hx) v w w' hv hs

def KeepAll : List (Value → World → Prop) → Prop
  | [] => True
  | p :: l => Keep p ∧ KeepAll l
theorem KeepAll.mem : ∀ {l : List (Value → World → Prop)}, KeepAll l → ∀ p ∈ l, Keep p
  | [], _, _, h => by simp at h
  | p :: l, h, q, hq => by
    rcases List.mem_cons.1 hq with rfl | hq
    · exact h.1
    · exact h.2.mem q hq
theorem Rest.done {V : Nat → Value → World → Prop} {Q : Exit → Act → World → Prop} {w : World} {i : Nat} {a : Act} (h : Q .normal a w) : Rest V Q w i [] a := h
theorem Todo.from' {P : Program} {ops : Array Oper} {V : Nat → Value → World → Prop} {T : World → World → Prop} {a0 : Act} {w1 w2 : World} (h : ∀ w, T w1 w → T w2 w) : ∀ (l : List Oper) (i : Nat), Todo P ops V T a0 w2 i l → Todo P ops V T a0 w1 i l
  | [], _, _ => trivial
  | _ :: l, i, ht => ⟨fun ev w hw => ht.1 ev w (h w hw), Todo.from' h l (i + 1) ht.2⟩
theorem Stay.undrew {w w' : World} (h : Stay w.drew w') : Stay w w' := ⟨h.os, h.tape, h.output, h.size, h.block⟩
/-- A REGION IN WHATEVER ORDER, what is known of its slots being a list; nothing that exists is turned -/
theorem wp_region_vs {P : Program} {id : Nat} {l : List Oper} {w0 : World} {a0 : Act} {Q : Exit → Act → World → Prop} (L : List (Value → World → Prop)) (hm : P.follows .mixedOrders = true) (hok : okOps l.toArray a0.tmps.size = true)
    (hds : (l.all fun o => o.dst.isSome) = true) (hk : KeepAll L) (htodo : Todo P l.toArray (vList L) Stay a0 w0 0 l) (hend : ∀ w, Stay w0 w → Rest (vList L) Q w 0 l a0) : (Code.region id l.toArray true).wp P Q a0 w0 :=
  wp_region_free (vList L) Stay hm hok Stay.refl (fun _ _ _ h k => Stay.trans h k) (vList_keep hk.mem) (fun i o ho hd => by
    have := List.all_eq_true.1 hds o (by simpa using Array.mem_of_getElem? ho)
    simp [hd] at this) (Todo.from' (fun _ h => h.undrew) l 0 htodo) (fun w h => hend w h.undrew)

section
variable {P : Program} {o : Oper} {ev : Operand → Value} {W : World} {R : Value → World → Prop}
theorem OpOk.run {v : Value} {W' : World} (h : (execOp ev o).run P W = .ok (.value v) W') (hr : R v W') : OpOk P o ev W R := by unfold OpOk; rw [h]; exact hr
theorem OpOk.move {x : Operand} {v : Value} (ho : o.op = .move x) (hx : ev x = v) (h : R v W) : OpOk P o ev W R := OpOk.run (v := v) (W' := W) (by simp [execOp, ho, hx]) h
theorem OpOk.assign {x : Operand} {v : Value} (ho : o.op = .assign x) (hx : ev x = v) (h : R v W) : OpOk P o ev W R := OpOk.run (v := v) (W' := W) (by simp [execOp, ho, hx]) h
theorem OpOk.pick {c x y : Operand} {b : Bool} (ho : o.op = .pick c x y) (hc : ev c = .bool b) (h : R (if b then ev x else ev y) W) : OpOk P o ev W R := OpOk.run (v := if b then ev x else ev y) (W' := W) (by cases b <;> simp [execOp, ho, hc, asBool]) h
theorem OpOk.convert {s d : TypeId} {x : Operand} {v vx : Value} {W' : World} (ho : o.op = .convert s d x) (hx : ev x = vx) (hrun : (Go.convert s d vx).run P W = .ok v W') (h : R v W') : OpOk P o ev W R := OpOk.run (v := v) (W' := W') (by simp [execOp, ho, hx, hrun]) h
theorem OpOk.enters {f : FuncId} {args : Array Value} {W' : World} (h : (execOp ev o).run P W = .ok (.enter f args) W') (hc : Calls P f args W' fun e w'' => ∃ v, e = .returned v ∧ R v w'') : OpOk P o ev W R := by unfold OpOk; rw [h]; exact hc
end
end Go.Proofs.YtgkofpfjbjnhfaaDoor
