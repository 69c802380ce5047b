/- append to a row that has no room, and that nobody else has: a new row, and all that was is as it was. No Go function is spoken of here. -/
import Derived.Test.YtgkofpfjbjnhfaaDoorOwn
import Derived.Test.YtgkofpfjbjnhfaaDoorTail
import Derived.Deep.QuietTactic
namespace Go.Proofs.YtgkofpfjbjnhfaaDoor
open Go.RowKit
set_option linter.unusedVariables false
variable {P : Program}

theorem run_append_fresh {F : SP} {w : World} (t ty e : TypeId) (ht : P.underlying t = some (.slice e)) (hi : (P.info? e).map (fun i => (i.zero, i.size, i.bytes)) = some (some (.int .u8 0), 1, 1))
    (a0 : Option Addr) (h0 : (own e 1 (.slice a0 0 0) 0 [] * F).on w) (vx : Value) (m : List UInt8) (hm : IsBytes w vx m) (hb : m.length ≤ 140737488355328) :
    ∃ v' w', (Builtin.append_ #[t, t] ty #[.slice a0 0 0, vx]).run P w = .ok v' w' ∧ (own e 1 v' m.length (vbs m) * F).on w' ∧ Below w.heap.size w w' := by
  obtain ⟨i, hq, hz, hsize, hby⟩ := info_some hi
  obtain ⟨ad, c, rfl, hc1, hc2, hl, hn⟩ := hm
  cases ad with
  | none =>
    have hc0 := hn rfl
    subst hc0
    have hm0 : m = [] := by cases m with | nil => rfl | cons _ _ => simp at hc1
    subst hm0
    have hrow : w.ownsRow 0 e 1 (.slice a0 0 0) 0 [] := by
      obtain ⟨hx, hv⟩ := own_cases h0
      refine ⟨hx, ?_⟩
      rcases hv with hv | ⟨g, cap, cur, e1, e2, e3, e4, e5, e6⟩
      · exact .inl hv
      · exact .inr ⟨g, cap, cur, e1, Nat.zero_le _, on_blk_mul e6, e2, e3, e4, e5⟩
    exact ⟨_, w, run_append_owned_none (P := P) (w := w) 0 t ty e i 1 ht hq _ 0 [] hrow, by simpa using h0, Below.refl _ _⟩
  | some ad =>
    have hnews' : ∀ j u, (vbs m)[j]? = some u → w.cell? (ad.add j) = some u := by
      intro j u hu
      obtain ⟨b, off, e1, e2⟩ := hl j u hu
      cases e1
      have : (⟨b, off, Option.none⟩ : Addr).add j = ⟨b, off + j, Option.none⟩ := by unfold Addr.add; split <;> simp_all
      rw [this]; exact e2
    obtain ⟨hx, hv⟩ := own_cases h0
    rcases hv with ⟨hv, _⟩ | ⟨g, cap, cur, hv, e2, e3, e4, e5, e6⟩
    · simp only [Value.slice.injEq] at hv
      obtain ⟨rfl, _, _⟩ := hv
      obtain ⟨v', w', r1, r2, r3, _⟩ := run_append_own (P := P) w w.heap.size t ty e i (.int .u8 0) 1 1 ht hq hz hsize hby rfl (by decide) _ 0 [] ⟨rfl, .inl ⟨rfl, rfl⟩⟩ ad m.length c (vbs m) (by simp) hnews' (vbs_one m) (by unfold maxLen; omega) (by omega) (Nat.le_refl _)
      have hbel : Below w.heap.size w w' := ⟨r3.os, r3.tape, r3.output, r3.size, fun k hk => r3.block k hk (by simp [Value.ownBlock])⟩
      refine ⟨v', w', r1, ?_, hbel⟩
      obtain ⟨y, hy, q⟩ := h0.right
      have hy' : y.sub (hpOf w') := fun k o ho => by
        have hk := hy k o ho
        exact (hbel.block k (Array.getElem?_eq_some_iff.1 hk).1).trans hk
      have e0 : 0 + m.length = m.length := by omega
      rw [e0, List.nil_append] at r2
      rcases r2.2 with ⟨rfl, hn⟩ | ⟨g, cap, cur, rfl, hb, hg, c1, c2, c3, c4⟩
      · exact SP.on_mul.2 ⟨fun _ => Option.none, y, fun _ => .inl rfl, fun _ _ h => (nomatch h), hy', ⟨r2.1, .inl ⟨rfl, hn⟩⟩, q⟩
      · refine SP.on_mul.2 ⟨fun k => if k = g then some (.cells cur e (0, 0)) else Option.none, y, ?_, ?_, hy', ⟨r2.1, .inr ⟨g, cap, cur, rfl, c1, c2, c3, c4, by simp⟩⟩, q⟩
        · intro k
          by_cases hk : k = g
          · right
            cases hyk : y k with
            | none => rfl
            | some o => have := (Array.getElem?_eq_some_iff.1 (hy k o hyk)).1; omega
          · left; simp [hk]
        · intro k o ho
          by_cases hk : k = g
          · subst hk; simp at ho; subst ho; exact hg
          · simp [hk] at ho
    · simp only [Value.slice.injEq] at hv
      obtain ⟨rfl, _, rfl⟩ := hv
      by_cases hm0 : m.length = 0
      · have hm1 : m = [] := List.length_eq_zero_iff.1 hm0
        subst hm1
        have hr := run_append_room (P := P) w t ty e i ht hq g 0 0 cur (on_blk_mul e6) ad 0 c [] (by simp) (fun j u hu => by simp at hu) (fun u hu => by simp at hu) (Nat.le_refl _) (by simp)
        have hcur : cur = #[] := by apply Array.eq_empty_of_size_eq_zero; simpa using e4
        subst hcur
        refine ⟨_, _, hr, ?_, ⟨rfl, rfl, rfl, by simp, fun k hk => ?_⟩⟩
        · simpa using own_of_blk (n := 0) (cap := 0) (xs := []) (size := 1) (e6.setRow _) rfl (Nat.le_refl _) (Nat.zero_le _) (by simp) (by simp)
        · by_cases hkg : k = g
          · subst hkg
            rw [setRow_heap_same _ _ _ _ _ _ (on_blk_mul e6), on_blk_mul e6]
            simp
          · exact setRow_other w g k _ hkg
      · have hr := run_append_grow (P := P) w t ty e i (.int .u8 0) ht hq hz ⟨g, 0, Option.none⟩ 0 0 [] (by simp) (fun j u hu => by simp at hu) ad m.length c (vbs m) (by rw [hsize]; simp) hnews' (by omega) (by omega) (growslice_fits (by omega) (by rw [hby]; omega))
        have hge := grownCap_ge w (0 + m.length) 0 e
        have hle := grownCap_le_maxLen w (0 + m.length) 0 e (by unfold maxLen; omega)
        refine ⟨_, _, hr, ?_, (Below.refl _ _).drew.alloc (by simp) _⟩
        have e0 : 0 + m.length = m.length := by omega
        rw [e0] at hge hle ⊢
        refine own_of_blk (SP.on.alloc (w := w.drew) e6.right.drew _) (by simp) hge hle ?_ ?_
        · simp only [Array.size_append, List.size_toArray, size_zeroCells, Value.cells]
          simp
          omega
        · simp only [Array.toList_append]
          simp

theorem OpOk.append {o : Oper} {ev : Operand → Value} {W W' : World} {R : Value → World → Prop} {x y : Operand} {t : TypeId} {vs vx v' : Value} (ho : o.op = .call { callee := .builtin .append, args := #[x, y], argTypes := #[t, t] })
    (hs : ev x = vs) (hx : ev y = vx) (hr : (Builtin.append_ #[t, t] o.type #[vs, vx]).run P W = .ok v' W') (h : R v' W') : OpOk P o ev W R :=
  OpOk.run (v := v') (W' := W') (by simp only [execOp, ho, resolve, invoke, builtin, Sem.run_bind, Sem.run_pure, Result.andThen_ok, List.map_toArray, List.map_cons, List.map_nil, hs, hx, hr]) h
/-- two results: a row in memory, and a slot -/
theorem results_cell_row_tmp {fn : Func} {p u : Tmp} {ty : TypeId} (h : fn.results = #[.cell p ty, .tmp u]) (tmps : Array Value) (w : World) (g : Nat) (t : TypeId) (cs : Array Value) (fr : Nat × Nat) (d : TypeDesc)
    (hp : tmps.getD p undef = .pointer (some ⟨g, 0, Option.none⟩)) (hg : w.heap[g]? = some (.cells cs t fr))
    (hu : P.underlying ty = some d) (hd : (match d with | .struct _ | .array _ _ => true | _ => false) = true) (hi : (P.info? ty).map (·.size) = some cs.size) (x : Value) (hx : tmps.getD u undef = x) :
    (results fn tmps).run P w = .ok (.tuple #[.agg cs, x]) w := by
  have hp' : tmps[p]?.getD undef = .pointer (some ⟨g, 0, Option.none⟩) := by simpa using hp
  have hx' : tmps[u]?.getD undef = x := by simpa using hx
  simp [results, h, hp', hx', asAddr, run_loadVar_row w g t ty cs fr d hg hu hd hi]
theorem SP.on.drewN {Q : SP} {w : World} (h : Q.on w) (n : Nat) : Q.on (w.drewN n) := SP.on_of_heap h rfl
theorem Str.drewN {a b : World} (h : Str a b) (n : Nat) : Str a (b.drewN n) := ⟨h.os, h.tape, h.output, h.size⟩
theorem Below.drewN' {B : Nat} {a b : World} (h : Below B a b) (n : Nat) : Below B a (b.drewN n) := ⟨h.os, h.tape, h.output, h.size, h.block⟩
end Go.Proofs.YtgkofpfjbjnhfaaDoor
