/- A statement whose operations may be carried out in more than one order, one of them a store into what lay there before: as XAppK, but that operation has no value. -/
import Derived.Test.YtgkofpfjbjnhfaaDoorAppK
namespace Go.Proofs.YtgkofpfjbjnhfaaDoor
namespace AppK
open Go.RowKit
set_option linter.unusedVariables false
set_option linter.unusedSimpArgs false

section
variable {P : Program} {n : Nat} {ops : Array Oper} {V V' : Nat → Value → World → Prop} {s : Nat} {a0 : Act} {I : Bool → World → Prop} {Q : Exit → Act → World → Prop}

theorem set_any (hok : okOps ops a0.tmps.size = true) (hVT : ∀ i v w w', V i v w → Stay w w' → V i v w') (hVT' : ∀ i v w w', V' i v w → Stay w w' → V' i v w') (hIT : ∀ ph w w', I ph w → Stay w w' → I ph w')
    (os : Oper) (hos : ops[s]? = some os) (hsg : os.guard = Option.none) (hVs : ∀ v w, V' s v w) (hds : ∀ (i : Nat) (o : Oper), i ≠ s → ops[i]? = some o → o.dst.isSome = true)
    (hst : AppOk P ops V V' s a0 I os)
    (htodo : TodoA P ops V V' s a0 I 0 ops.toList) (hend : ∀ (listed : Array Bool) a w, (∀ i, i < ops.size → listed.getD i true = true) → listed.size = ops.size → InvA ops V V' s a0 I listed a w → Q .normal a w) :
    ∀ (fuel : Nat) (listed : Array Bool) (a : Act) (w : World), listed.size = ops.size → (List.range ops.size).countP (fun j => !listed.getD j true) ≤ fuel → Down ops listed → InvA ops V V' s a0 I listed a w → wpAny P .any ops Q fuel listed a w
  | 0, listed, a, w, hs, hc, hd, hinv => by
    have hall : ∀ i, i < ops.size → listed.getD i true = true := by
      intro i hi
      have h0 : (List.range ops.size).countP (fun j => !listed.getD j true) = 0 := by omega
      have := List.countP_eq_zero.1 h0 i (List.mem_range.2 hi)
      simpa using this
    refine ⟨?_, hend listed a w hall hs hinv⟩
    unfold Region.ready
    refine List.filter_eq_nil_iff.2 fun i hi => ?_
    simp [hall i (List.mem_range.1 hi)]
  | fuel + 1, listed, a, w, hs, hc, hdn, hinv => by
    refine ⟨fun hr => hend listed a w (ready_all hok hs hr) hs hinv, fun i hi => ?_⟩
    obtain ⟨o, ho, hlt, hl, haft⟩ := ready_mem' hi
    have hss : s < ops.size := (Array.getElem?_eq_some_iff.1 hos).1
    have hcnt : (List.range ops.size).countP (fun j => !(listed.setIfInBounds i true).getD j true) ≤ fuel := by
      have := count_set (n := ops.size) hlt hs hl
      omega
    by_cases his : i = s
    · rw [his] at ho hlt hl hcnt ⊢
      clear his hi
      have hoo : o = os := by rw [ho] at hos; exact Option.some.inj hos
      rw [hoo] at ho haft
      clear hoo
      have hlf : listed.getD s false = false := by rw [← getD_both (by omega)]; exact hl
      have hvals := hinv.vals
      rw [hlf] at hvals
      have hfac : factsOf ops V a.eval w os.after.toList := facts_of _ fun e he hb => by
        have h1 := haft e (by simpa using he) hb
        have h2 := ok_edge hok ho (by simpa using he) hb
        exact hvals e.on (by omega) (by rw [getD_both (by omega)]; exact h1)
      have hit := hinv.t
      rw [hlf] at hit
      have hstep := hst a.eval w hit (base_of a) (known_at hdn hlf hinv.keep _) hfac
      unfold wpOp
      simp only [ho, hsg]
      rw [if_pos (by simp [Region.wanted, hsg])]
      refine .inl (wp_of_ok hstep fun v w' h _ => ?_)
      obtain ⟨h1, hv, h2⟩ := h
      obtain ⟨p1, p2, p3⟩ := put_restK (v := v) (by omega) ho hinv.defers hinv.size hinv.keep
      refine set_any hok hVT hVT' hIT os hos hsg hVs hds hst htodo hend fuel _ _ _ (by simpa using hs) hcnt (down_set hdn hs hlt ho haft) ⟨by rw [getD_set' (by omega), if_pos rfl]; exact h1, p1, p2, p3, ?_⟩
      intro j hj hlj
      have hsl : (listed.setIfInBounds s true).getD s false = true := by rw [getD_set' (by omega), if_pos rfl]
      rw [hsl]
      by_cases hjs : j = s
      · rw [hjs]
        exact hVs _ _
      · rw [getD_set (by omega), if_neg hjs] at hlj
        rw [slot_put hok hinv.size ho v hjs]
        exact h2 j hjs (hvals j hj hlj)
    · have hset : (listed.setIfInBounds i true).getD s false = listed.getD s false := by rw [getD_set' (by omega), if_neg (fun e => his e.symm)]
      have hstep := todoA_at ops.toList 0 i o htodo (by simpa using ho)
      rw [Nat.zero_add] at hstep
      have hstep := hstep his (listed.getD s false) (fun hw => by
        obtain ⟨o', ho', e, he, hb, hon⟩ := waits_edge hw
        rw [ho] at ho'; cases ho'
        have := haft e he hb
        rwa [hon] at this) (fun hw => by
        cases hq : listed.getD s false with
        | false => rfl
        | true =>
          have := needs_listed hdn 9 s i hw hq
          rw [← getD_both (by omega), hl] at this
          cases this) a.eval w hinv.t (base_of a) (known_at hdn (by rw [← getD_both (by omega)]; exact hl) hinv.keep _) (facts_of _ fun e he hb => by
            have h1 := haft e (by simpa using he) hb
            have h2 := ok_edge hok ho (by simpa using he) hb
            exact hinv.vals e.on (by omega) (by rw [getD_both (by omega)]; exact h1))
      have next : ∀ v w', two V V' (listed.getD s false) i v w' ∧ Stay w w' → wpAny P .any ops Q fuel (listed.setIfInBounds i true) (a.put o.dst v) w' := by
        intro v w' ⟨hv, ht⟩
        obtain ⟨p1, p2, p3⟩ := put_restK (v := v) (by omega) ho hinv.defers hinv.size hinv.keep
        refine set_any hok hVT hVT' hIT os hos hsg hVs hds hst htodo hend fuel _ _ _ (by simpa using hs) hcnt (down_set hdn hs hlt ho haft) ⟨by rw [hset]; exact hIT _ _ _ hinv.t ht, p1, p2, p3, ?_⟩
        intro j hj hlj
        rw [hset]
        by_cases hji : j = i
        · rw [hji]
          obtain ⟨d, hd⟩ := Option.isSome_iff_exists.1 (hds i o his ho)
          have := slot_self hok hinv.size ho v (by rw [hd]; intro h; cases h)
          rw [this]; exact hv
        · rw [slot_put hok hinv.size ho v hji]
          rw [getD_set (by omega), if_neg hji] at hlj
          have h0 := hinv.vals j hj hlj
          cases hq : listed.getD s false with
          | false => rw [hq] at h0; exact hVT _ _ _ _ h0 ht
          | true => rw [hq] at h0; exact hVT' _ _ _ _ h0 ht
      unfold wpOp
      simp only [ho]
      cases hg : o.guard with
      | none =>
        rw [hg] at hstep
        rw [if_pos (by simp [Region.wanted, hg])]
        exact .inl (wp_of_ok hstep fun v w' h _ => next v w' h)
      | some jw =>
        obtain ⟨j, want⟩ := jw
        rw [hg] at hstep
        obtain ⟨b, hb, h1, h2⟩ := hstep
        obtain ⟨o', d, ho', hd'⟩ := ok_guard hok ho hg
        have hy : yielded ops a.tmps j = some b := by
          simp only [slotOf, ho', hd', Act.eval, Array.getD_eq_getD_getElem?] at hb
          simp only [yielded, ho', hd', Option.bind_some]
          cases hx : a.tmps[d]? with
          | none => rw [hx] at hb; simp [undef] at hb
          | some x => rw [hx] at hb; simp only [Option.getD_some] at hb; subst hb; rfl
        by_cases hbw : b = want
        · rw [if_pos (by simp [Region.wanted, hg, hy, hbw])]
          exact .inl (wp_of_ok (h1 hbw) fun v w' h _ => next v w' h)
        · rw [if_neg (by simp [Region.wanted, hg, hy, hbw])]
          exact next undef w ⟨h2 hbw, Stay.refl w⟩

end

/-- A REGION IN WHATEVER ORDER, with one operation that turns what lies there, number s -/
theorem wp_region_set {P : Program} {id : Nat} {l : List Oper} {w0 : World} {a0 : Act} {Q : Exit → Act → World → Prop} (s : Nat) (L L' : List (Value → World → Prop)) (os : Oper) (hos : l[s]? = some os) (hm : P.follows .mixedOrders = true) (hok : okOps l.toArray a0.tmps.size = true)
    (hsg : os.guard = Option.none) (hds : ((List.range l.length).all fun i => i == s || ((l[i]?).bind (·.dst)).isSome) = true) (hVs : L'[s]? = Option.none ∨ L'[s]? = some (fun _ _ => True)) (I : Bool → World → Prop) (hI0 : I false w0.drew) (hIT : ∀ ph w w', I ph w → Stay w w' → I ph w') (hk : KeepAll L) (hk' : KeepAll L')
    (hst : AppOk P l.toArray (vList L) (vList L') s a0 I os) (htodo : TodoA P l.toArray (vList L) (vList L') s a0 I 0 l)
    (hend : ∀ w, I true w → Rest (vList L') Q w 0 l a0) : (Code.region id l.toArray true).wp P Q a0 w0 := by
  refine wp_region_any hm ?_
  have hVs' : ∀ v w, vList L' s v w := fun v w => by
    unfold vList
    rcases hVs with h | h <;> rw [h] <;> trivial
  refine set_any (V := vList L) (V' := vList L') (s := s) (a0 := a0) (I := I) hok (vTwo_keep hk) (vTwo_keep hk') hIT os (by simpa using hos) hsg hVs' ?_ hst (by simpa using htodo) ?_ _ _ _ _ (by simp) ?_ ?_ ⟨by rw [show (Array.replicate l.toArray.size false).getD s false = false from by rw [Array.getD_eq_getD_getElem?, Array.getElem?_replicate]; split <;> rfl]; exact hI0, rfl, rfl, fun _ _ => rfl, ?_⟩
  · intro i o his ho
    have hi : i < l.length := by simpa using (Array.getElem?_eq_some_iff.1 ho).1
    have := List.all_eq_true.1 hds i (List.mem_range.2 hi)
    have ho' : l[i]? = some o := by simpa using ho
    simpa [his, ho'] using this
  · intro listed a w hall hsz hinv
    have hs : s < l.length := (List.getElem?_eq_some_iff.1 hos).1
    have hls : listed.getD s false = true := by rw [← getD_both (by simpa [hsz] using hs)]; exact hall s (by simpa using hs)
    have hv := hinv.vals
    rw [hls] at hv
    have h := rest_ends (ev := a.eval) l 0 a0 (fun i o ho => by
      have hi : i < l.length := (List.getElem?_eq_some_iff.1 ho).1
      rw [Nat.zero_add]
      have := hv i (by simpa using hi) (hall i (by simpa using hi))
      simpa [slotOf, ho, two] using this) (hend w (by have h9 := hinv.t; rw [hls] at h9; exact h9))
    have : ends a0 a.eval l = a := by
      have h1 := ends_defers a.eval l a0
      have h2 : (ends a0 a.eval l).tmps = a.tmps := by
        apply Array.ext_getElem?
        intro t
        rw [ends_get]
        split
        · rename_i hc
          simp [Act.eval, hinv.size, hc.1]
        · rename_i hc
          by_cases ht : t < a0.tmps.size
          · refine (hinv.keep t fun i o ho _ e => hc ⟨ht, o, ?_, e⟩).symm
            have : l[i]? = some o := by simpa using ho
            exact List.mem_of_getElem? this
          · rw [Array.getElem?_eq_none (by omega), Array.getElem?_eq_none (by rw [hinv.size]; omega)]
      cases hx : ends a0 a.eval l with
      | mk t d =>
        rw [hx] at h1 h2
        cases a with
        | mk t' d' =>
          have h3 := hinv.defers
          simp only at h1 h2 h3
          rw [h2, h1, ← h3]
    rw [this] at h
    exact h
  · exact Nat.le_trans List.countP_le_length (by simp)
  · intro i o ho hl
    rw [Array.getD_eq_getD_getElem?, Array.getElem?_replicate] at hl
    split at hl <;> cases hl
  · intro i hi hl
    rw [Array.getD_eq_getD_getElem?, Array.getElem?_replicate, if_pos hi] at hl
    cases hl
end AppK
end Go.Proofs.YtgkofpfjbjnhfaaDoor
