/- A statement whose operations may be carried out in more than one order, but for those at its end, that come one behind the other. No Go function is spoken of here. -/
import Derived.Test.YtgkofpfjbjnhfaaDoorFree
import Derived.Tactics
namespace Go.Proofs.YtgkofpfjbjnhfaaDoor
open Go.RowKit
set_option linter.unusedVariables false

def waits (ops : Array Oper) (j i : Nat) : Bool := match ops[j]? with
  | some o => o.after.any (fun e => Region.binds .any e && e.on == i)
  | Option.none => false
/-- those from number k on follow one another, and all others -/
def okSeq (ops : Array Oper) (k : Nat) : Bool :=
  ((List.range k).all fun i => (List.range (k + 1)).any fun j => decide (i < j) && waits ops j i) &&
  (List.range ops.size).all fun t => decide (t ≤ k) || waits ops t (t - 1)

def Down (ops : Array Oper) (listed : Array Bool) : Prop :=
  ∀ (i : Nat) (o : Oper), ops[i]? = some o → listed.getD i false = true → ∀ e ∈ o.after, Region.binds .any e = true → listed.getD e.on false = true

section
variable {P : Program} {n : Nat} {ops : Array Oper} {V : Nat → Value → World → Prop} {T : World → World → Prop} {a0 : Act} {w1 : World} {Q : Exit → Act → World → Prop}

theorem waits_edge {j i : Nat} (h : waits ops j i = true) : ∃ o, ops[j]? = some o ∧ ∃ e ∈ o.after, Region.binds .any e = true ∧ e.on = i := by
  unfold waits at h
  cases ho : ops[j]? with
  | none => simp [ho] at h
  | some o =>
    rw [ho] at h
    simp only [Array.any_eq_true', Bool.and_eq_true, beq_iff_eq] at h
    obtain ⟨e, he, hb, hi⟩ := h
    exact ⟨o, rfl, e, he, hb, hi⟩

theorem seq_all {k : Nat} (hq : okSeq ops k = true) {listed : Array Bool} (hd : Down ops listed) : ∀ (t : Nat), k ≤ t → t < ops.size → ∀ (o : Oper), ops[t]? = some o →
    (∀ e ∈ o.after, Region.binds .any e = true → listed.getD e.on false = true) → ∀ i, i < t → listed.getD i false = true := by
  simp only [okSeq, Bool.and_eq_true] at hq
  obtain ⟨hq1, hq2⟩ := hq
  intro t
  induction t with
  | zero => intro _ _ _ _ _ i hi; omega
  | succ t ih =>
    intro hk ht o ho hr
    rcases Nat.lt_or_ge k (t + 1) with hlt | hge
    · have h1 := List.all_eq_true.1 hq2 (t + 1) (List.mem_range.2 ht)
      have h2 : waits ops (t + 1) t = true := by
        simp only [Bool.or_eq_true, decide_eq_true_eq] at h1
        rcases h1 with h1 | h1
        · omega
        · simpa using h1
      obtain ⟨o', ho', e, he, hb, hon⟩ := waits_edge h2
      rw [ho] at ho'; cases ho'
      have hlt' : listed.getD t false = true := by have := hr e he hb; rwa [hon] at this
      intro i hi
      by_cases hit : i = t
      · rw [hit]; exact hlt'
      · have hts : t < ops.size := by omega
        have hot : ops[t]? = some ops[t] := Array.getElem?_eq_getElem hts
        exact ih (by omega) hts _ hot (hd t _ hot hlt') i (by omega)
    · have hkt : k = t + 1 := by omega
      have key : ∀ d i, i + d = k → i < k → listed.getD i false = true := by
        intro d
        induction d using Nat.strongRecOn with
        | ind d ihd =>
          intro i hid hik
          have h1 := List.all_eq_true.1 hq1 i (List.mem_range.2 hik)
          simp only [List.any_eq_true, Bool.and_eq_true, decide_eq_true_eq, List.mem_range] at h1
          obtain ⟨j, hj, hij, hw⟩ := h1
          obtain ⟨o', ho', e, he, hb, hon⟩ := waits_edge hw
          by_cases hjk : j = k
          · rw [hjk, hkt, ho] at ho'; cases ho'
            have := hr e he hb
            rwa [hon] at this
          · have hl := ihd (k - j) (by omega) j (by omega) (by omega)
            have := hd j o' ho' hl e he hb
            rwa [hon] at this
      intro i hi
      exact key (k - i) i (by omega) (by omega)

theorem ready_mem' {listed : Array Bool} {i : Nat} (hi : i ∈ Region.ready .any ops listed) :
    ∃ o, ops[i]? = some o ∧ i < ops.size ∧ listed.getD i true = false ∧ ∀ e ∈ o.after, Region.binds .any e = true → listed.getD e.on false = true := by
  obtain ⟨h1, h2⟩ := List.mem_filter.1 hi
  have hlt := List.mem_range.1 h1
  have ho : ops[i]? = some ops[i] := Array.getElem?_eq_getElem hlt
  simp only [Bool.and_eq_true, ho, Option.map_some, Option.getD_some] at h2
  refine ⟨_, ho, hlt, by simpa using h2.1, fun e he hb => ?_⟩
  have := Array.all_eq_true_iff_forall_mem.1 h2.2 e he
  simpa [hb] using this
theorem getD_set' {listed : Array Bool} {i j : Nat} (hi : i < listed.size) : (listed.setIfInBounds i true).getD j false = (if j = i then true else listed.getD j false) := by
  rw [Array.getD_eq_getD_getElem?, Array.getD_eq_getD_getElem?, Array.getElem?_setIfInBounds]
  by_cases h : i = j
  · rw [if_pos h, if_pos hi, if_pos h.symm]; rfl
  · rw [if_neg h, if_neg (Ne.symm h)]
theorem down_set {listed : Array Bool} (hd : Down ops listed) (hs : listed.size = ops.size) {i : Nat} (hi : i < ops.size) {o : Oper} (ho : ops[i]? = some o) (hr : ∀ e ∈ o.after, Region.binds .any e = true → listed.getD e.on false = true) : Down ops (listed.setIfInBounds i true) := by
  intro j o' ho' hl e he hb
  rw [getD_set' (by omega)] at hl ⊢
  split
  · rfl
  · by_cases hji : j = i
    · subst hji; rw [ho] at ho'; cases ho'; exact hr e he hb
    · rw [if_neg hji] at hl; exact hd j o' ho' hl e he hb
theorem getD_both {listed : Array Bool} {i : Nat} (h : i < listed.size) : listed.getD i true = listed.getD i false := by
  rw [Array.getD_eq_getD_getElem?, Array.getD_eq_getD_getElem?, Array.getElem?_eq_getElem h]; rfl

/-- what is to be shown of each operation ahead of the end -/
def TodoT (P : Program) (pre ops : Array Oper) (V : Nat → Value → World → Prop) (T : World → World → Prop) (a0 : Act) (w1 : World) : Nat → List Oper → Prop
  | _, [] => True
  | i, o :: rest => (∀ (ev : Operand → Value) (w : World), T w1 w → Base ev → knownOf pre a0 ev o.op.operands.toList → factsOf ops V ev w o.after.toList →
      match o.guard with
      | Option.none => OpOk P o ev w (fun v w' => V i v w' ∧ T w w')
      | some (j, want) => ∃ b, slotOf ops ev j = .bool b ∧ (b = want → OpOk P o ev w (fun v w' => V i v w' ∧ T w w')) ∧ (b ≠ want → V i undef w)) ∧ TodoT P pre ops V T a0 w1 (i + 1) rest
theorem todoT_at {pre : Array Oper} : ∀ (l : List Oper) (k i : Nat) (o : Oper), TodoT P pre ops V T a0 w1 k l → l[i]? = some o →
    (∀ (ev : Operand → Value) (w : World), T w1 w → Base ev → knownOf pre a0 ev o.op.operands.toList → factsOf ops V ev w o.after.toList →
      match o.guard with
      | Option.none => OpOk P o ev w (fun v w' => V (k + i) v w' ∧ T w w')
      | some (j, want) => ∃ b, slotOf ops ev j = .bool b ∧ (b = want → OpOk P o ev w (fun v w' => V (k + i) v w' ∧ T w w')) ∧ (b ≠ want → V (k + i) undef w))
  | [], _, _, _, _, h => by simp at h
  | x :: l, k, 0, o, h, e => by simp at e; subst e; exact h.1
  | x :: l, k, i + 1, o, h, e => by
    have := todoT_at l (k + 1) i o h.2 (by simpa using e)
    rw [show k + (i + 1) = k + 1 + i by omega]
    exact this
theorem TodoT.from' {pre : Array Oper} {w2 : World} (h : ∀ w, T w1 w → T w2 w) : ∀ (l : List Oper) (i : Nat), TodoT P pre ops V T a0 w2 i l → TodoT P pre ops V T a0 w1 i l
  | [], _, _ => trivial
  | _ :: l, i, ht => ⟨fun ev w hw => ht.1 ev w (h w hw), TodoT.from' h l (i + 1) ht.2⟩
/-- the end, one behind the other -/
theorem seq_run {N : Nat} (hok : okOps ops N = true) {k : Nat} (hq : okSeq ops k = true) : ∀ (fuel t : Nat) (listed : Array Bool) (a : Act) (w : World), listed.size = ops.size → Down ops listed → k ≤ t → t ≤ ops.size → ops.size - t ≤ fuel →
    (∀ i, i < t → listed.getD i true = true) → (∀ i, t ≤ i → i < ops.size → listed.getD i true = false) → wpList P ops Q (ops.toList.drop t) a w → wpAny P .any ops Q fuel listed a w := by
  have hnone : ∀ (t : Nat) (listed : Array Bool), ops.size ≤ t → (∀ i, i < t → listed.getD i true = true) → Region.ready .any ops listed = [] := by
    intro t listed ht hl
    unfold Region.ready
    refine List.filter_eq_nil_iff.2 fun i hi => ?_
    simp [hl i (by have := List.mem_range.1 hi; omega)]
  intro fuel
  induction fuel with
  | zero =>
    intro t listed a w hs hd hk ht hf hl hu hw
    have ht2 : t = ops.size := by omega
    subst ht2
    rw [List.drop_of_length_le (by simp)] at hw
    exact ⟨hnone _ _ (Nat.le_refl _) hl, hw⟩
  | succ fuel ih =>
    intro t listed a w hs hd hk ht hf hl hu hw
    by_cases ht2 : t = ops.size
    · subst ht2
      rw [List.drop_of_length_le (by simp)] at hw
      refine ⟨fun _ => hw, fun i hi => ?_⟩
      rw [hnone _ _ (Nat.le_refl _) hl] at hi
      simp at hi
    · have htl : t < ops.size := by omega
      have hot : ops[t]? = some ops[t] := Array.getElem?_eq_getElem htl
      have hmem : t ∈ Region.ready .any ops listed := by
        refine List.mem_filter.2 ⟨List.mem_range.2 htl, ?_⟩
        rw [hu t (Nat.le_refl _) htl]
        simp only [Bool.not_false, Bool.true_and, hot, Option.map_some, Option.getD_some]
        refine Array.all_eq_true_iff_forall_mem.2 fun e he => ?_
        cases hb : Region.binds .any e with
        | false => simp
        | true =>
          have hlt := ok_edge hok hot he hb
          have h2 := hl e.on (by omega)
          rw [getD_both (by omega)] at h2
          simp [h2]
      refine ⟨fun hr => by rw [hr] at hmem; simp at hmem, fun i hi => ?_⟩
      obtain ⟨o, ho, hlt, hli, haft⟩ := ready_mem' hi
      have hit : i = t := by
        rcases Nat.lt_trichotomy i t with h | h | h
        · rw [hl i h] at hli; cases hli
        · exact h
        · have := seq_all hq hd i (by omega) hlt o ho haft t h
          rw [← getD_both (by omega), hu t (Nat.le_refl _) htl] at this
          cases this
      subst hit
      have hdrop : ops.toList.drop i = ops[i] :: ops.toList.drop (i + 1) := by
        rw [List.drop_eq_getElem_cons (by simpa using htl)]; simp
      rw [hdrop] at hw
      have next : ∀ a w, wpList P ops Q (ops.toList.drop (i + 1)) a w → wpAny P .any ops Q fuel (listed.setIfInBounds i true) a w := by
        intro a w h
        refine ih (i + 1) _ a w (by simpa using hs) (down_set hd hs hlt ho haft) (by omega) (by omega) (by omega) ?_ ?_ h
        · intro j hj
          rw [getD_set (by omega)]
          split
          · rfl
          · exact hl j (by omega)
        · intro j hj hj2
          rw [getD_set (by omega), if_neg (by omega)]
          exact hu j (by omega) hj2
      have hoe : ops[i] = o := by rw [hot] at ho; exact Option.some.inj ho
      rw [hoe] at hw
      unfold wpList at hw
      unfold wpOp
      simp only [ho]
      split at hw
      · rename_i hwt
        rw [if_pos hwt]
        rcases hw with hw | hw
        · exact .inl (Oper.wp_mono next hw)
        · exact .inr hw
      · rename_i hwt
        rw [if_neg hwt]
        exact next _ _ hw

/-- the slots of the end are as they were -/
def KeepEnd (ops : Array Oper) (k : Nat) (a0 a : Act) : Prop := ∀ (j : Nat) (o : Oper) (t : Nat), k ≤ j → ops[j]? = some o → o.dst = some t → a.tmps[t]? = a0.tmps[t]?
theorem tail_any (hok : okOps ops a0.tmps.size = true) {k : Nat} (hq : okSeq ops k = true) (hkn : k < ops.size) (hTr : ∀ w, T w w) (hTt : ∀ a b c, T a b → T b c → T a c) (hVT : ∀ i v w w', V i v w → T w w' → V i v w')
    (hV0 : ∀ (i : Nat) (o : Oper), i < k → ops[i]? = some o → o.dst = Option.none → ∀ v w, V i v w → V i undef w)
    (htodo : TodoT P (ops.toList.take k).toArray ops V T a0 w1 0 (ops.toList.take k)) (hend : ∀ (listed : Array Bool) a w, (∀ i, i < k → listed.getD i true = true) → Inv ops V T a0 w1 listed a w → KeepEnd ops k a0 a → wpList P ops Q (ops.toList.drop k) a w) :
    ∀ (fuel : Nat) (listed : Array Bool) (a : Act) (w : World), listed.size = ops.size → (List.range ops.size).countP (fun j => !listed.getD j true) ≤ fuel → Down ops listed → (∀ i, k ≤ i → i < ops.size → listed.getD i true = false) → Inv ops V T a0 w1 listed a w → KeepEnd ops k a0 a → wpAny P .any ops Q fuel listed a w
  | 0, listed, a, w, hs, hc, hd, hu, hinv, hke => by
    have h0 : (List.range ops.size).countP (fun j => !listed.getD j true) = 0 := by omega
    have := List.countP_eq_zero.1 h0 k (List.mem_range.2 hkn)
    simp [hu k (Nat.le_refl _) hkn] at this
  | fuel + 1, listed, a, w, hs, hc, hd, hu, hinv, hke => by
    have hke2 : ∀ i (o : Oper), i < k → ops[i]? = some o → ∀ v, KeepEnd ops k a0 (a.put o.dst v) := by
      intro i o hik ho v j o' t hj ho' ht
      have h1 := hke j o' t hj ho' ht
      cases hdd : o.dst with
      | none => exact h1
      | some d =>
        have : d ≠ t := fun e => by have := ok_apart hok ho ho' hdd (e ▸ ht); omega
        simp only [Act.put]
        rw [Array.getElem?_setIfInBounds, if_neg this]
        exact h1
    refine ⟨fun hr => ?_, fun i hi => ?_⟩
    · have := ready_all hok hs hr k hkn
      rw [hu k (Nat.le_refl _) hkn] at this
      cases this
    obtain ⟨o, ho, hlt, hl, haft⟩ := ready_mem' hi
    by_cases hik : i < k
    · have hstep := todoT_at (ops.toList.take k) 0 i o htodo (by rw [List.getElem?_take, if_pos hik]; simpa using ho)
      have hkeep : ∀ (t : Nat), (∀ (i : Nat) (o : Oper), (ops.toList.take k).toArray[i]? = some o → o.dst ≠ some t) → a.tmps[t]? = a0.tmps[t]? := by
        intro t htt
        by_cases hex : ∃ (j : Nat) (o : Oper), k ≤ j ∧ ops[j]? = some o ∧ o.dst = some t
        · obtain ⟨j, o', hj, ho', hdt⟩ := hex
          exact hke j o' t hj ho' hdt
        · refine hinv.keep t fun j o' ho' e => ?_
          by_cases hjk : j < k
          · refine htt j o' ?_ e
            simp only [List.getElem?_toArray, List.getElem?_take, if_pos hjk]
            simpa using ho'
          · exact hex ⟨j, o', by omega, ho', e⟩
      have hstep := hstep a.eval w hinv.t (base_of a) (known_of hkeep _) (facts_of _ fun e he hb => hinv.vals _ (by have := ok_edge hok ho (by simpa using he) hb; omega) (by
        have h1 := haft e (by simpa using he) hb
        have h2 := ok_edge hok ho (by simpa using he) hb
        rw [getD_both (by omega)]; exact h1))
      rw [Nat.zero_add] at hstep
      have next : ∀ v w', V i v w' ∧ T w w' → wpAny P .any ops Q fuel (listed.setIfInBounds i true) (a.put o.dst v) w' := by
        intro v w' ⟨hv, ht⟩
        refine tail_any hok hq hkn hTr hTt hVT hV0 htodo hend fuel _ _ _ (by simpa using hs) ?_ (down_set hd hs hlt ho haft) ?_ (inv_put hok hTt hVT hinv ho v ht ?_) ?_
        · have := count_set (n := ops.size) hlt hs hl
          omega
        · intro j hj hj2
          rw [getD_set (by omega), if_neg (by omega)]
          exact hu j hj hj2
        · cases hdd : o.dst with
          | none =>
            have : slotOf ops (a.put Option.none v).eval i = undef := by simp [slotOf, ho, hdd]
            rw [this]
            exact hV0 i o hik ho hdd v w' hv
          | some d =>
            have := slot_self hok hinv.size ho v (by rw [hdd]; intro h; cases h)
            rw [hdd] at this
            rw [this]; exact hv
        · exact hke2 i o hik ho v
      unfold wpOp
      simp only [ho]
      cases hg : o.guard with
      | none =>
        rw [hg] at hstep
        rw [if_pos (by simp [Region.wanted, hg])]
        exact .inl (wp_of_ok hstep fun v w' h _ => next v w' h)
      | some jw =>
        obtain ⟨j, want⟩ := jw
        rw [hg] at hstep
        obtain ⟨b, hb, h1, h2⟩ := hstep
        obtain ⟨o', d, ho', hd'⟩ := ok_guard hok ho hg
        have hy : yielded ops a.tmps j = some b := by
          simp only [slotOf, ho', hd', Act.eval, Array.getD_eq_getD_getElem?] at hb
          simp only [yielded, ho', hd', Option.bind_some]
          cases hx : a.tmps[d]? with
          | none => rw [hx] at hb; simp [undef] at hb
          | some x => rw [hx] at hb; simp only [Option.getD_some] at hb; subst hb; rfl
        by_cases hbw : b = want
        · rw [if_pos (by simp [Region.wanted, hg, hy, hbw])]
          exact .inl (wp_of_ok (h1 hbw) fun v w' h _ => next v w' h)
        · rw [if_neg (by simp [Region.wanted, hg, hy, hbw])]
          exact next undef w ⟨h2 hbw, hTr w⟩
    · have hall := seq_all hq hd i (by omega) hlt o ho haft
      have hik2 : i = k := by
        rcases Nat.lt_or_ge k i with h | h
        · have := hall k h
          rw [← getD_both (by omega), hu k (Nat.le_refl _) hkn] at this
          cases this
        · omega
      subst hik2
      have hall2 : ∀ j, j < i → listed.getD j true = true := fun j hj => by rw [getD_both (by omega)]; exact hall j hj
      have hw := seq_run hok hq (fuel + 1) i listed a w hs hd (Nat.le_refl _) (by omega) ?_ hall2 hu (hend listed a w hall2 hinv hke)
      · exact hw.2 i hi
      · have : ops.size - i ≤ (List.range ops.size).countP (fun j => !listed.getD j true) := by
          have h1 : (List.range' i (ops.size - i)).countP (fun j => !listed.getD j true) = ops.size - i := by
            rw [List.countP_eq_length.2]
            · simp
            · intro j hj
              rw [List.mem_range'_1] at hj
              simp [hu j hj.1 (by omega)]
          rw [← h1]
          have e : List.range ops.size = List.range' 0 i ++ List.range' i (ops.size - i) := by
            rw [List.range_eq_range', show List.range' i (ops.size - i) = List.range' (0 + 1 * i) (ops.size - i) by simp, List.range'_append]; congr 1; omega
          rw [e, List.countP_append]
          omega
        omega
end

/-- A REGION IN WHATEVER ORDER, whose operations from number k on come one behind the other -/
theorem wp_region_tail {P : Program} {id : Nat} {ops : List Oper} {w0 : World} {a0 : Act} {Q : Exit → Act → World → Prop} (k : Nat) (L : List (Value → World → Prop)) {l1 l2 : List Oper} (h1 : ops.take k = l1) (h2 : ops.drop k = l2) (hm : P.follows .mixedOrders = true) (hok : okOps ops.toArray a0.tmps.size = true)
    (hq : okSeq ops.toArray k = true) (hkn : k < ops.length) (hds : (l1.all fun o => o.dst.isSome) = true) (hk : KeepAll L) (htodo : TodoT P l1.toArray ops.toArray (vList L) Stay a0 w0 0 l1)
    (hend : ∀ w, Stay w0 w → Rest (vList L) (fun _ a w => wpList P ops.toArray Q l2 a w) w 0 l1 a0) : (Code.region id ops.toArray true).wp P Q a0 w0 := by
  subst h1 h2
  refine wp_region_any hm ?_
  refine tail_any (V := vList L) (T := Stay) (a0 := a0) (w1 := w0.drew) (k := k) hok hq (by simpa using hkn) Stay.refl (fun _ _ _ h k => Stay.trans h k) (vList_keep hk.mem) (fun i o hi ho hd => by
    have hm : o ∈ ops.take k := by
      have : (ops.take k)[i]? = some o := by rw [List.getElem?_take, if_pos hi]; simpa using ho
      exact List.mem_of_getElem? this
    have := List.all_eq_true.1 hds o hm
    simp [hd] at this) (by simpa using TodoT.from' (fun _ h => h.undrew) _ 0 htodo) ?_ _ _ _ _ (by simp) ?_ ?_ ?_ ⟨Stay.refl _, rfl, rfl, fun _ _ => rfl, ?_⟩ (fun _ _ _ _ _ _ => rfl)
  · intro listed a w hall hinv hke
    have h := rest_ends (ev := a.eval) (ops.take k) 0 a0 (fun i o ho => by
      have hi : i < (ops.take k).length := (List.getElem?_eq_some_iff.1 ho).1
      simp only [List.length_take] at hi
      have := hinv.vals i (by simp; omega) (hall i (by omega))
      rw [Nat.zero_add]
      rw [List.getElem?_take, if_pos (by omega)] at ho
      simpa [slotOf, ho] using this) (hend w hinv.t.undrew)
    have : ends a0 a.eval (ops.take k) = a := by
      have h1 := ends_defers a.eval (ops.take k) a0
      have h2 : (ends a0 a.eval (ops.take k)).tmps = a.tmps := by
        apply Array.ext_getElem?
        intro t
        rw [ends_get]
        split
        · rename_i hc
          simp [Act.eval, hinv.size, hc.1]
        · rename_i hc
          by_cases ht : t < a0.tmps.size
          · by_cases hex : ∃ (j : Nat) (o : Oper), k ≤ j ∧ ops.toArray[j]? = some o ∧ o.dst = some t
            · obtain ⟨j, o, hj, ho, hdt⟩ := hex
              exact (hke j o t hj ho hdt).symm
            · refine (hinv.keep t fun i o ho e => ?_).symm
              by_cases hik : i < k
              · refine hc ⟨ht, o, ?_, e⟩
                have : (ops.take k)[i]? = some o := by rw [List.getElem?_take, if_pos hik]; simpa using ho
                exact List.mem_of_getElem? this
              · exact hex ⟨i, o, by omega, ho, e⟩
          · rw [Array.getElem?_eq_none (by omega), Array.getElem?_eq_none (by rw [hinv.size]; omega)]
      cases hx : ends a0 a.eval (ops.take k) with
      | mk t d =>
        rw [hx] at h1 h2
        cases a with
        | mk t' d' =>
          have h3 := hinv.defers
          simp only at h1 h2 h3
          rw [h2, h1, ← h3]
    rw [this] at h
    simpa using h
  · exact Nat.le_trans List.countP_le_length (by simp)
  · intro i o ho hl
    rw [Array.getD_eq_getD_getElem?, Array.getElem?_replicate] at hl
    split at hl <;> cases hl
  · intro i _ hi
    rw [Array.getD_eq_getD_getElem?, Array.getElem?_replicate, if_pos hi]; rfl
  · intro i hi hl
    rw [Array.getD_eq_getD_getElem?, Array.getElem?_replicate, if_pos hi] at hl
    cases hl
end Go.Proofs.YtgkofpfjbjnhfaaDoor
