/- Slices that a call has made itself: what append, and a store, do. No Go function is spoken of here. -/
import Derived.Test.YtgkofpfjbjnhfaaDoorBytes
import Derived.Laws.AppendOwnNone
namespace Go.Proofs.YtgkofpfjbjnhfaaDoor
open Go.RowKit
set_option linter.unusedVariables false
variable {P : Program}

/-- a row of n elements of a type e, of so many cells each -/
def own (e : TypeId) (size : Nat) (v : Value) (n : Nat) (xs : List Value) : SP := ⟨fun h => xs.length = n * size ∧ ((v = .slice Option.none 0 0 ∧ n = 0) ∨
  ∃ g cap cur, v = .slice (some ⟨g, 0, Option.none⟩) n cap ∧ n ≤ cap ∧ cap ≤ maxLen ∧ cur.size = cap * size ∧ cur.toList.take (n * size) = xs ∧ h g = some (.cells cur e (0, 0)))⟩

theorem own_nil {F : SP} {w : World} (e : TypeId) (size : Nat) (h : F.on w) : (own e size (.slice Option.none 0 0) 0 [] * F).on w := by
  obtain ⟨x, hs, q⟩ := h
  exact SP.on_mul.2 ⟨fun _ => Option.none, x, fun _ => .inl rfl, fun _ _ h => (nomatch h), hs, ⟨by simp, .inl ⟨rfl, rfl⟩⟩, q⟩

theorem own_of_blk {F : SP} {w : World} {e : TypeId} {size g n cap : Nat} {cur : Array Value} {xs : List Value} (h : (blk g (.cells cur e (0, 0)) * F).on w)
    (h1 : xs.length = n * size) (h2 : n ≤ cap) (h3 : cap ≤ maxLen) (h4 : cur.size = cap * size) (h5 : cur.toList.take (n * size) = xs) :
    (own e size (.slice (some ⟨g, 0, Option.none⟩) n cap) n xs * F).on w := by
  obtain ⟨a, b, k1, k2, k3, p, q⟩ := SP.on_mul.1 h
  exact SP.on_mul.2 ⟨a, b, k1, k2, k3, ⟨h1, .inr ⟨g, cap, cur, rfl, h2, h3, h4, h5, p⟩⟩, q⟩

/-- a row that was just made -/
theorem own_new {F : SP} {w : World} (e : TypeId) (size n : Nat) (xs : List Value) (h : F.on w) (h1 : xs.length = n * size) (h3 : n ≤ maxLen) :
    (own e size (.slice (some ⟨w.heap.size, 0, Option.none⟩) n n) n xs * F).on (w.alloc (.cells xs.toArray e)) :=
  own_of_blk (h.alloc _) h1 (Nat.le_refl _) h3 (by simp [h1]) (by rw [← h1]; simp)

theorem own_cases {F : SP} {w : World} {e : TypeId} {size n : Nat} {v : Value} {xs : List Value} (h : (own e size v n xs * F).on w) :
    xs.length = n * size ∧ ((v = .slice Option.none 0 0 ∧ n = 0) ∨ ∃ g cap cur, v = .slice (some ⟨g, 0, Option.none⟩) n cap ∧ n ≤ cap ∧ cap ≤ maxLen ∧ cur.size = cap * size ∧ cur.toList.take (n * size) = xs ∧ (blk g (.cells cur e (0, 0)) * F).on w) := by
  obtain ⟨a, b, h1, h2, h3, p, q⟩ := SP.on_mul.1 h
  refine ⟨p.1, ?_⟩
  rcases p.2 with p | ⟨g, cap, cur, e1, e2, e3, e4, e5, e6⟩
  · exact .inl p
  · exact .inr ⟨g, cap, cur, e1, e2, e3, e4, e5, SP.on_mul.2 ⟨a, b, h1, h2, h3, e6, q⟩⟩

/-- what it is as a value -/
theorem own_value {F : SP} {w : World} {e : TypeId} {size n : Nat} {v : Value} {xs : List Value} (h : (own e size v n xs * F).on w) : ∃ a c, v = .slice a n c ∧ n ≤ c ∧ c ≤ maxLen ∧ Lay w a xs ∧ (a = Option.none → c = 0) := by
  obtain ⟨hx, h⟩ := own_cases h
  rcases h with ⟨rfl, rfl⟩ | ⟨g, cap, cur, rfl, e2, e3, e4, e5, e6⟩
  · refine ⟨_, _, rfl, Nat.le_refl _, Nat.zero_le _, ?_, fun _ => rfl⟩
    simp at hx; subst hx; exact Lay.nil _ _
  · refine ⟨_, _, rfl, e2, e3, ?_, fun h => (nomatch h)⟩
    intro i u hu
    refine ⟨_, _, rfl, ?_⟩
    rw [Nat.zero_add, cell_of_row _ _ _ _ _ _ (on_blk_mul e6)]
    rw [← e5, List.getElem?_take] at hu
    split at hu
    · simpa using hu
    · cases hu

theorem own_bytes {F : SP} {w : World} {e : TypeId} {n : Nat} {v : Value} {l : List UInt8} (h : (own e 1 v n (vbs l) * F).on w) : IsBytes w v l := by
  have hn : n = l.length := by have := (own_cases h).1; simp at this; omega
  subst hn
  obtain ⟨a, c, h1, h2, h3, h4, h5⟩ := own_value h
  exact ⟨a, c, h1, h2, h3, h4, h5⟩

theorem run_append_sp {F : SP} {w : World} (t ty e : TypeId) (i : TypeInfo) (z : Value) (size bytes : Nat) (ht : P.underlying t = some (.slice e)) (hi : P.info? e = some i) (hz : i.zero = some z)
    (hsize : i.size = size) (hby : i.bytes = bytes) (hzs : z.cells.size = size) (hsz : 0 < size)
    (v : Value) (n : Nat) (xs : List Value) (hown : (own e size v n xs * F).on w)
    (a : Option Addr) (m c : Nat) (news : List Value) (hac : a = Option.none → c = 0) (hl : news.length = m * size) (hnews : Lay w a news) (h1 : ∀ u ∈ news, u.oneCell' = true)
    (h63 : n + m ≤ maxLen) (hbytes : (n + m) * bytes ≤ 140737488355328) :
    ∃ v' w', (Builtin.append_ #[t, t] ty #[v, .slice a m c]).run P w = .ok v' w' ∧ (own e size v' (n + m) (xs ++ news) * F).on w' ∧ Str w w' := by
  obtain ⟨hx, hv⟩ := own_cases hown
  have hrow : w.ownsRow 0 e size v n xs := by
    refine ⟨hx, ?_⟩
    rcases hv with hv | ⟨g, cap, cur, e1, e2, e3, e4, e5, e6⟩
    · exact .inl hv
    · exact .inr ⟨g, cap, cur, e1, Nat.zero_le _, on_blk_mul e6, e2, e3, e4, e5⟩
  have hlenx : (xs ++ news).length = (n + m) * size := by rw [List.length_append, hx, hl, Nat.add_mul]
  cases a with
  | none =>
    have hm : m = 0 := by
      rcases Nat.eq_zero_or_pos m with h | h
      · exact h
      · have hp : 0 < news.length := by rw [hl]; exact Nat.mul_pos h hsz
        obtain ⟨b, off, e, _⟩ := hnews 0 news[0] (List.getElem?_eq_getElem hp)
        cases e
    subst hm
    obtain rfl : c = 0 := hac rfl
    have hn : news = [] := by cases news with | nil => rfl | cons _ _ => simp at hl
    subst hn
    refine ⟨v, w, run_append_owned_none (P := P) (w := w) 0 t ty e i size ht hi v n xs hrow, ?_, Str.refl _⟩
    simpa using hown
  | some ad =>
    have hnews' : ∀ j u, news[j]? = some u → w.cell? (ad.add j) = some u := by
      intro j u hu
      obtain ⟨b, off, e1, e2⟩ := hnews j u hu
      cases e1
      have : (⟨b, off, Option.none⟩ : Addr).add j = ⟨b, off + j, Option.none⟩ := by unfold Addr.add; split <;> simp_all
      rw [this]; exact e2
    rcases hv with ⟨rfl, rfl⟩ | ⟨g, cap, cur, rfl, e2, e3, e4, e5, e6⟩
    · obtain ⟨v', w', r1, r2, r3, _⟩ := run_append_own (P := P) w w.heap.size t ty e i z size bytes ht hi hz hsize hby hzs hsz _ 0 xs ⟨hx, .inl ⟨rfl, rfl⟩⟩ ad m c news hl hnews' h1 h63 hbytes (Nat.le_refl _)
      refine ⟨v', w', r1, ?_, ⟨r3.os, r3.tape, r3.output, r3.size⟩⟩
      obtain ⟨y, hy, q⟩ := hown.right
      have hy' : y.sub (hpOf w') := fun k o ho => by
        have hk := hy k o ho
        exact (r3.block k (Array.getElem?_eq_some_iff.1 hk).1 (by simp [Value.ownBlock])).trans hk
      rcases r2.2 with ⟨rfl, hn⟩ | ⟨g, cap, cur, rfl, hb, hg, c1, c2, c3, c4⟩
      · exact SP.on_mul.2 ⟨fun _ => Option.none, y, fun _ => .inl rfl, fun _ _ h => (nomatch h), hy', ⟨r2.1, .inl ⟨rfl, hn⟩⟩, q⟩
      · refine SP.on_mul.2 ⟨fun k => if k = g then some (.cells cur e (0, 0)) else Option.none, y, ?_, ?_, hy', ⟨r2.1, .inr ⟨g, cap, cur, rfl, c1, c2, c3, c4, by simp⟩⟩, q⟩
        · intro k
          by_cases hk : k = g
          · right
            cases hyk : y k with
            | none => rfl
            | some o => have := (Array.getElem?_eq_some_iff.1 (hy k o hyk)).1; omega
          · left; simp [hk]
        · intro k o ho
          by_cases hk : k = g
          · subst hk; simp at ho; subst ho; exact hg
          · simp [hk] at ho
    · subst hsize
      subst hby
      by_cases hroom : n + m ≤ cap
      · have hfit : n * i.size + news.length ≤ cur.size := by rw [hl, e4, ← Nat.add_mul]; exact Nat.mul_le_mul_right _ hroom
        have hr := run_append_room (P := P) w t ty e i ht hi g n cap cur (on_blk_mul e6) ad m c news hl hnews' h1 hroom hfit
        refine ⟨_, _, hr, own_of_blk (e6.setRow _) hlenx hroom e3 ?_ ?_, (Str.refl _).setRow _ _⟩
        · simp only [List.size_toArray, List.length_append, List.length_take, List.length_drop, Array.length_toList]
          omega
        · rw [e5, ← hlenx]
          exact List.take_left
      · have hsmall : n + m ≤ 9223372036854775807 := by simp only [maxLen] at h63; omega
        have holds : ∀ j u, xs[j]? = some u → w.cell? ((⟨g, 0, Option.none⟩ : Addr).add j) = some u := hrow.cells (g := g) rfl
        have hr := run_append_grow (P := P) w t ty e i z ht hi hz ⟨g, 0, Option.none⟩ n cap xs hx holds ad m c news hl hnews' (by omega) (by omega) (growslice_fits (by omega) hbytes)
        have hge := grownCap_ge w (n + m) cap e
        have hle := grownCap_le_maxLen w (n + m) cap e h63
        refine ⟨_, _, hr, own_of_blk (SP.on.alloc (w := w.drew) e6.right.drew _) hlenx hge hle ?_ ?_, ((Str.refl _).drew).alloc _⟩
        · simp only [Array.size_append, List.size_toArray, size_zeroCells, hzs]
          rw [show xs.length + news.length = (n + m) * i.size by simpa using hlenx, ← Nat.add_mul]
          congr 1
          omega
        · simp only [Array.toList_append]
          rw [← hlenx]
          exact List.take_left

theorem wpList_append_sp {F : SP} {w : World} {ops : Array Oper} {rest : List Oper} {o : Oper} {a : Act} {Q : Exit → Act → World → Prop} (hgd : o.guard = Option.none) (s x : Operand) (t : TypeId)
    (ho : o.op = .call { callee := .builtin .append, args := #[s, x], argTypes := #[t, t] })
    (e : TypeId) (i : TypeInfo) (z : Value) (size bytes : Nat) (ht : P.underlying t = some (.slice e)) (hi : P.info? e = some i) (hz : i.zero = some z)
    (hsize : i.size = size) (hby : i.bytes = bytes) (hzs : z.cells.size = size) (hsz : 0 < size)
    (v : Value) (n : Nat) (xs : List Value) (hs : a.eval s = v) (hown : (own e size v n xs * F).on w)
    (ad : Option Addr) (m c : Nat) (news : List Value) (hx : a.eval x = .slice ad m c) (hac : ad = Option.none → c = 0) (hl : news.length = m * size) (hnews : Lay w ad news) (h1 : ∀ u ∈ news, u.oneCell' = true)
    (h63 : n + m ≤ maxLen) (hbytes : (n + m) * bytes ≤ 140737488355328)
    (h : ∀ v' w', (own e size v' (n + m) (xs ++ news) * F).on w' → Str w w' → wpList P ops Q rest (a.put o.dst v') w') : wpList P ops Q (o :: rest) a w :=
  wpList_plain hgd fun _ hK => by
    obtain ⟨v', w', hr, h2, h3⟩ := run_append_sp (P := P) t o.type e i z size bytes ht hi hz hsize hby hzs hsz v n xs hown ad m c news hac hl hnews h1 h63 hbytes
    unfold Oper.wp execOp
    simp only [ho, resolve, invoke, builtin, Sem.run_bind, Sem.run_pure, Result.andThen_ok, List.map_toArray, List.map_cons, List.map_nil, hs, hx, hr]
    exact hK _ _ (h v' w' h2 h3)

theorem vbs_one (l : List UInt8) : ∀ u ∈ vbs l, u.oneCell' = true := by
  intro u hu
  simp at hu
  obtain ⟨x, _, rfl⟩ := hu
  rfl

/-- append of bytes to bytes of one's own: the value, as bytes behind it -/
theorem wpList_append_bytes {F : SP} {w : World} {ops : Array Oper} {rest : List Oper} {o : Oper} {a : Act} {Q : Exit → Act → World → Prop} (hgd : o.guard = Option.none) (s x : Operand) (t : TypeId)
    (ho : o.op = .call { callee := .builtin .append, args := #[s, x], argTypes := #[t, t] })
    (e : TypeId) (ht : P.underlying t = some (.slice e)) (hi : (P.info? e).map (fun i => (i.zero, i.size, i.bytes)) = some (some (.int .u8 0), 1, 1))
    (v : Value) (l m : List UInt8) (hs : a.eval s = v) (hown : (own e 1 v l.length (vbs l) * F).on w)
    (vx : Value) (hx : a.eval x = vx) (hm : IsBytes w vx m) (hb : l.length + m.length ≤ 140737488355328)
    (h : ∀ v' w', (own e 1 v' (l ++ m).length (vbs (l ++ m)) * F).on w' → Str w w' → wpList P ops Q rest (a.put o.dst v') w') : wpList P ops Q (o :: rest) a w := by
  obtain ⟨ad, c, rfl, _, _, hl, hc⟩ := hm
  cases hq : P.info? e with
  | none => simp [hq] at hi
  | some i =>
    simp [hq] at hi
    refine wpList_append_sp hgd s x t ho e i (.int .u8 0) 1 1 ht hq hi.1 hi.2.1 hi.2.2 rfl (by decide) v l.length (vbs l) hs hown ad m.length c (vbs m) hx hc (by simp) hl (vbs_one m) (by unfold maxLen; omega) (by omega) ?_
    intro v' w' h2 h3
    refine h v' w' ?_ h3
    have e1 : vbs (l ++ m) = vbs l ++ vbs m := by simp
    rw [e1, List.length_append]
    exact h2

/-- a store into a row of one's own, of elements of one cell -/
theorem own_store {F : SP} {w : World} {e : TypeId} {g n cap j : Nat} {xs : List Value} (h : (own e 1 (.slice (some ⟨g, 0, Option.none⟩) n cap) n xs * F).on w) (hj : j < n) (u : Value) :
    (own e 1 (.slice (some ⟨g, 0, Option.none⟩) n cap) n (xs.set j u) * F).on (w.setCell ⟨g, j, Option.none⟩ u) := by
  obtain ⟨hx, hv⟩ := own_cases h
  rcases hv with ⟨hv, _⟩ | ⟨g', cap', cur, hv, e2, e3, e4, e5, e6⟩
  · cases hv
  · cases hv
    refine own_of_blk (e6.setCell u) (by simpa using hx) e2 e3 (by simpa using e4) ?_
    rw [Array.toList_setIfInBounds, ← e5, List.take_set]
theorem own_free {F : SP} {w : World} {e : TypeId} {g n cap : Nat} {xs : List Value} (h : (own e 1 (.slice (some ⟨g, 0, Option.none⟩) n cap) n xs * F).on w) (j : Nat) : w.frozen? ⟨g, j, Option.none⟩ = false := by
  obtain ⟨hx, hv⟩ := own_cases h
  rcases hv with ⟨hv, _⟩ | ⟨g', cap', cur, hv, e2, e3, e4, e5, e6⟩
  · cases hv
  · cases hv
    exact frozen_of_row _ _ _ _ _ (on_blk_mul e6)
theorem own_cell {F : SP} {w : World} {e : TypeId} {g n cap : Nat} {xs : List Value} (h : (own e 1 (.slice (some ⟨g, 0, Option.none⟩) n cap) n xs * F).on w) (j : Nat) (v : Value) (hj : xs[j]? = some v) : w.cell? ⟨g, j, Option.none⟩ = some v := by
  obtain ⟨a, c, hv, _, _, hl, _⟩ := own_value h
  cases hv
  have := Lay.cell hl j hj
  rwa [Nat.zero_add] at this
/-- a row with elements stands in a block -/
theorem own_block {F : SP} {w : World} {e : TypeId} {size n : Nat} {v : Value} {xs : List Value} (h : (own e size v n xs * F).on w) (hn : 0 < n) : ∃ g cap, v = .slice (some ⟨g, 0, Option.none⟩) n cap ∧ n ≤ cap ∧ cap ≤ maxLen := by
  obtain ⟨hx, hv⟩ := own_cases h
  rcases hv with ⟨_, rfl⟩ | ⟨g', cap', cur, hv, e2, e3, _⟩
  · omega
  · exact ⟨g', cap', hv, e2, e3⟩
theorem vbs_set (l : List UInt8) (j : Nat) (x : UInt8) : (vbs l).set j (vb x) = vbs (l.set j x) := by simp [vbs, List.map_set]

/-- a number modulo another one, as Go takes it from an int by way of uint -/
theorem uint_mod (x y : Int) (h1 : 1 ≤ y) (h2 : y ≤ 4611686018427387904) : ∃ i : Nat, wrap64 ((IntKind.u64.wrap x).tmod y) = (i : Int) ∧ (i : Int) < y := by
  have h0 : 0 ≤ IntKind.u64.wrap x := by rw [IntKind.wrap_u64]; omega
  rw [Int.tmod_eq_emod_of_nonneg h0]
  have a1 := Int.emod_nonneg (IntKind.u64.wrap x) (show y ≠ 0 by omega)
  have a2 := Int.emod_lt_of_pos (IntKind.u64.wrap x) (show 0 < y by omega)
  obtain ⟨i, hi⟩ := Int.eq_ofNat_of_zero_le a1
  refine ⟨i, ?_, by omega⟩
  rw [hi]
  exact IntWalk.wrap64_in _ ⟨by omega, by omega⟩
theorem info_some {P : Program} {t : TypeId} {z : Option Value} {n b : Nat} (h : (P.info? t).map (fun i => (i.zero, i.size, i.bytes)) = some (z, n, b)) : ∃ i, P.info? t = some i ∧ i.zero = z ∧ i.size = n ∧ i.bytes = b := by
  cases hq : P.info? t with
  | none => simp [hq] at h
  | some i => simp [hq] at h; exact ⟨i, rfl, h.1, h.2.1, h.2.2⟩
theorem on_all_to2 {Q R F : SP} {w w' : World} (h : (Q * (R * all w)).on w') (hF : F.on w) : (Q * (R * F)).on w' := by
  rw [← SP.mul_assoc] at h ⊢
  exact on_all_to h hF
end Go.Proofs.YtgkofpfjbjnhfaaDoor
