/- LAID TOGETHER: DeslipSame, DeslipParts, DeslipPart, DeslipPart2, DeslipEvents, DeslipEvents2, DeslipRest. -/
import Derived.Deep.QuietTactic
import Derived.BigQuiet
import Derived.Test.YtjmgnfpcieofkaaDeslipRef
import Derived.Deep.OwnRows
/- Two lists of events that are the same. -/
namespace Go.Proofs.Ytjmgnfpcieofkaa
open Go.ChangeShapes Go.WideShapes Go.ChangeAt Go.RowKit
set_option linter.unusedVariables false

theorem Evs.lay {F : SP} {w : World} {v : Value} {L : List (Value × Ev)} (h : (Evs v L * F).on w) : ∃ a c, v = .slice a L.length c ∧ L.length ≤ c ∧ c ≤ maxLen ∧ Lay w a (evCells L) ∧ ∀ (i : Nat) (u : Value) (e : Ev), L[i]? = some (u, e) → IsBytes w u e.frame := by
  unfold Evs at h
  rw [SP.mul_assoc] at h
  obtain ⟨a, c, h1, h2, h3, h4, _⟩ := own_value h
  exact ⟨a, c, h1, h2, h3, h4, fun i u e he => stars_get L i u e h.right he⟩

end Go.Proofs.Ytjmgnfpcieofkaa

/- Parts of the document's answer for deslip. -/
namespace Go.Proofs.Ytjmgnfpcieofkaa
open Go.ChangeShapes Go.WideShapes Go.ChangeAt Go.RowKit
set_option linter.unusedVariables false

theorem bytes_all {w w' : World} {v : Value} {l : List UInt8} (h : IsBytes w v l) (ha : (all w).on w') : IsBytes w' v l := by
  have hsz : w.heap.size ≤ w'.heap.size := by
    obtain ⟨x, hx, hy⟩ := ha
    by_cases h0 : w.heap.size = 0
    · omega
    · have h1 := hy (w.heap.size - 1) (by omega)
      have h2 : x (w.heap.size - 1) = some (w.heap[w.heap.size - 1]'(by omega)) := by rw [h1]; simp
      have h3 := hx _ _ h2
      have h4 := (Array.getElem?_eq_some_iff.1 h3).1
      omega
  have hs : Str w { w with heap := w'.heap } := ⟨rfl, rfl, rfl, hsz⟩
  have h2 : IsBytes { w with heap := w'.heap } v l := h.below (all_below (w' := { w with heap := w'.heap }) (SP.on_of_heap ha rfl) hs)
  exact h2

set_option maxRecDepth 100000 in
set_option maxHeartbeats 4000000 in
theorem parts_any (v : Value) (b : List UInt8) (w : World) (h : IsBytes w v b) (hlen : b.length ≤ 1000000) :
    Calls Try.prog 79 #[v] w fun e w' => ∃ out, e = .returned out ∧ PartsAt w out (partsF b) w' ∧ Str w w' := by
  have H := hide h
  obtain ⟨a, c, rfl, hc, hm, _, _⟩ := h
  obtain ⟨ie, hie, hz, hsz, hby⟩ := info_some infoB
  have hue := Try.underlying145
  have Hie := hide hie
  have Hz := hide hz
  have Hsz := hide hsz
  have Hby := hide hby
  clear hie hz hsz hby
  unfold maxLen at hm
  go_enter Try.func79, Try.ntmps79
  go_wp2_with fail
  go_loopw [3, 4, 5] (fun o f i wr => ∃ (from' k : Nat) (ps : List (List UInt8)), k ≤ b.length ∧ from' ≤ k ∧ f = .int .i64 from' ∧ i = .int .i64 k ∧ (∀ j, from' ≤ j → j < k → b.getD j 0 ≠ 192) ∧ ps ++ partsF (b.drop from') = partsF b ∧ ps.length ≤ k ∧ PartsAt w o ps wr ∧ Str w wr) (fun _ _ i _ => b.length - (intOf i).toNat)
  case atStart => exact ⟨0, 0, [], by omega, by omega, rfl, rfl, fun j h1 h2 => by omega, by simp, by simp, PartsAt.nil w, Str.refl _⟩
  case round =>
    obtain ⟨from', k, ps, hk, hfk, rfl, rfl, hno, hps, hpl, hpa, hstr⟩ := hrel
    obtain ⟨vals, ho, hvl, hv1, hvp⟩ := hpa
    by_cases hkl : k < b.length
    · obtain ⟨bv, offv, rfl⟩ : ∃ bv offv, a = some ⟨bv, offv, Option.none⟩ := by
        obtain ⟨_, _, e, _, _, h3, _⟩ := H.out
        simp only [Value.slice.injEq] at e
        obtain ⟨rfl, _, rfl⟩ := e
        exact Lay.isAddr h3 k (by simpa using hkl)
      have cb : wr.cell? ⟨bv, offv + k, Option.none⟩ = some (vb (b.getD k 0)) := by
        obtain ⟨_, _, e, _, _, h3, _⟩ := bytes_all H.out ho.right
        simp only [Value.slice.injEq] at e
        obtain ⟨rfl, _, rfl⟩ := e
        have := Lay.cell h3 k (vbs_get b k hkl)
        rw [this, List.getD_eq_getElem?_getD, List.getElem?_eq_getElem hkl]
        rfl
      by_cases h192 : b.getD k 0 = 192
      · have hpst := parts_step hkl hfk hno h192
        rw [h192] at cb
        have Hps := hide (show (ps ++ [(b.drop from').take (k + 1 - from')]) ++ partsF (b.drop (k + 1)) = partsF b by rw [← hps, hpst]; simp)
        have Hx := hide (sub_bytes H.out from' (k + 1 - from') (by omega))
        have Ho := hide ho
        have Hvl := hide hvl
        have Hv1 := hide hv1
        have Hvp := hide hvp
        have Hstr := hide hstr
        clear ho hvl hv1 hvp hps hpst hno hstr h192
        have e1 : ((k : Int) + 1 - (from' : Int)) = ((k + 1 - from' : Nat) : Int) := by omega
        go_wp2_with (at_builtin; refine wpList_append_sp (F := all w) rfl _ _ 145 rfl 33 ie _ 1 24 hue Hie.out Hz.out Hsz.out Hby.out rfl (by decide) _ ps.length vals rfl (Ho.out.alloc' _) (some ⟨wr.heap.size, 0, Option.none⟩) 1 1 [.slice (some ⟨bv, offv + from', Option.none⟩) (k + 1 - from') (c - from')] rfl (by simp) rfl (Lay.new _ _ _) (by intro u hu; simp at hu; rw [hu]; rfl) (by unfold maxLen; omega) (by omega) ?_; intro v2 w2 ho2 hs2)
        exact ⟨⟨k + 1, k + 1, _, by omega, by omega, by simp, by simp, fun j h1 h2 => by omega, Hps.out, by simp; omega, PartsAt.push Hvl.out Hv1.out Hvp.out Hx.out ho2, (Hstr.out.alloc _).trans hs2⟩, by simp [intOf]; omega⟩
      · have Ho := hide ho
        have Hstr := hide hstr
        have Hpa := hide (show PartsAt w _ ps wr from ⟨vals, ho, hvl, hv1, hvp⟩)
        have Hno := hide (show ∀ j, from' ≤ j → j < k + 1 → b.getD j 0 ≠ 192 from fun j h1 h2 => by
          by_cases h3 : j < k
          · exact hno j h1 h3
          · rw [show j = k by omega]; exact h192)
        have e0 := bne_u8 h192
        rw [show (((192 : UInt8).toNat : Nat) : Int) = 192 from rfl] at e0
        have Hps := hide hps
        clear ho hvl hv1 hvp hps hno hstr h192
        generalize b.getD k 0 = cc at cb e0
        go_wp2_with fail
        exact ⟨⟨from', k + 1, ps, by omega, by omega, rfl, by simp, Hno.out, Hps.out, by omega, Hpa.out, Hstr.out⟩, by simp [intOf]; omega⟩
    · have hkb : k = b.length := by omega
      subst hkb
      rw [parts_last hno] at hps
      have Hps := hide hps
      have Ho := hide ho
      have Hvl := hide hvl
      have Hv1 := hide hv1
      have Hvp := hide hvp
      have Hstr := hide hstr
      clear ho hvl hv1 hvp hps hno hstr
      cases a with
      | none =>
        obtain ⟨_, _, e, _, _, _, hn⟩ := H.out
        simp only [Value.slice.injEq] at e
        obtain ⟨rfl, _, rfl⟩ := e
        have hc0 := hn rfl
        subst hc0
        have hb0 : b.length = 0 := by omega
        have hf0 : from' = 0 := by omega
        subst hf0
        have Hx : Hid (IsBytes w (.slice Option.none 0 0) (b.drop 0)) := hide (by
          have : b = [] := List.length_eq_zero_iff.1 hb0
          rw [this]; exact IsBytes.nil w)
        clear hn
        go_wp2_with (at_builtin; refine wpList_append_sp (F := all w) rfl _ _ 145 rfl 33 ie _ 1 24 hue Hie.out Hz.out Hsz.out Hby.out rfl (by decide) _ ps.length vals rfl (Ho.out.alloc' _) (some ⟨wr.heap.size, 0, Option.none⟩) 1 1 [.slice Option.none 0 0] rfl (by simp) rfl (Lay.new _ _ _) (by intro u hu; simp at hu; rw [hu]; rfl) (by unfold maxLen; omega) (by omega) ?_; intro v2 w2 ho2 hs2)
        go_wp2_with fail
        go_ret
        exact ⟨_, rfl, by rw [← Hps.out]; exact PartsAt.push Hvl.out Hv1.out Hvp.out Hx.out ho2, (Hstr.out.alloc _).trans hs2⟩
      | some ad =>
        by_cases hb0 : b.length = 0
        · have hf0 : from' = 0 := by omega
          subst hf0
          have Hx : Hid (IsBytes w (.slice (some ad) 0 c) (b.drop 0)) := hide (by
            have : b = [] := List.length_eq_zero_iff.1 hb0
            rw [this]; exact ⟨_, _, rfl, Nat.zero_le _, by unfold maxLen; omega, Lay.nil _ _, by simp⟩)
          go_wp2_with (at_builtin; refine wpList_append_sp (F := all w) rfl _ _ 145 rfl 33 ie _ 1 24 hue Hie.out Hz.out Hsz.out Hby.out rfl (by decide) _ ps.length vals rfl (Ho.out.alloc' _) (some ⟨wr.heap.size, 0, Option.none⟩) 1 1 [.slice (some ad) 0 c] rfl (by simp) rfl (Lay.new _ _ _) (by intro u hu; simp at hu; rw [hu]; rfl) (by unfold maxLen; omega) (by omega) ?_; intro v2 w2 ho2 hs2)
          go_wp2_with fail
          go_ret
          exact ⟨_, rfl, by rw [← Hps.out]; exact PartsAt.push Hvl.out Hv1.out Hvp.out Hx.out ho2, (Hstr.out.alloc _).trans hs2⟩
        obtain ⟨bv, offv, hp⟩ : ∃ bv offv, ad = ⟨bv, offv, Option.none⟩ := by
          obtain ⟨_, _, e, _, _, h3, _⟩ := H.out
          simp only [Value.slice.injEq] at e
          obtain ⟨he, _, _⟩ := e
          obtain ⟨x, y, hxy⟩ := Lay.isAddr h3 0 (by simp; omega)
          rw [← he] at hxy
          exact ⟨x, y, Option.some.inj hxy⟩
        subst hp
        by_cases hfc : from' = c
        · have hbc : b.length = c := by omega
          have Hx : Hid (IsBytes w (.slice (some ⟨bv, offv, Option.none⟩) 0 0) (b.drop from')) := hide (by
            rw [List.drop_eq_nil_of_le (by omega)]
            exact ⟨_, _, rfl, Nat.zero_le _, Nat.zero_le _, Lay.nil _ _, by simp⟩)
          subst hfc
          go_wp2_with (at_builtin; refine wpList_append_sp (F := all w) rfl _ _ 145 rfl 33 ie _ 1 24 hue Hie.out Hz.out Hsz.out Hby.out rfl (by decide) _ ps.length vals rfl (Ho.out.alloc' _) (some ⟨wr.heap.size, 0, Option.none⟩) 1 1 [.slice (some ⟨bv, offv, Option.none⟩) 0 0] rfl (by simp) rfl (Lay.new _ _ _) (by intro u hu; simp at hu; rw [hu]; rfl) (by unfold maxLen; omega) (by omega) ?_; intro v2 w2 ho2 hs2)
          go_wp2_with fail
          go_ret
          exact ⟨_, rfl, by rw [← Hps.out]; exact PartsAt.push Hvl.out Hv1.out Hvp.out Hx.out ho2, (Hstr.out.alloc _).trans hs2⟩
        · have hfc2 : from' < c := by omega
          have Hx : Hid (IsBytes w (.slice (some ⟨bv, offv + from', Option.none⟩) (b.length - from') (c - from')) (b.drop from')) := hide (by
            have := sub_bytes H.out from' (b.length - from') (by omega)
            rw [List.take_of_length_le (by simp)] at this
            exact this)
          clear hfc
          go_wp2_with (at_builtin; refine wpList_append_sp (F := all w) rfl _ _ 145 rfl 33 ie _ 1 24 hue Hie.out Hz.out Hsz.out Hby.out rfl (by decide) _ ps.length vals rfl (Ho.out.alloc' _) (some ⟨wr.heap.size, 0, Option.none⟩) 1 1 [.slice (some ⟨bv, offv + from', Option.none⟩) (b.length - from') (c - from')] rfl (by simp) rfl (Lay.new _ _ _) (by intro u hu; simp at hu; rw [hu]; rfl) (by unfold maxLen; omega) (by omega) ?_; intro v2 w2 ho2 hs2)
          go_wp2_with fail
          go_ret
          exact ⟨_, rfl, by rw [← Hps.out]; exact PartsAt.push Hvl.out Hv1.out Hvp.out Hx.out ho2, (Hstr.out.alloc _).trans hs2⟩
end Go.Proofs.Ytjmgnfpcieofkaa

/- Rows of events that are made empty and then written, one by one. -/
namespace Go.Proofs.Ytjmgnfpcieofkaa
open Go.ChangeShapes Go.WideShapes Go.ChangeAt Go.RowKit
set_option linter.unusedVariables false

def zeros (n : Nat) : List (Value × Ev) := List.replicate n (.slice Option.none 0 0, zev)
def zcell : Array Value := #[.int .i64 0, .slice Option.none 0 0, .int .i64 0]
theorem zeros_cell : ∀ n j, j < n * 3 → (evCells (zeros n))[j]? = some (zcell[j % 3]!) := by
  intro n
  induction n with
  | zero => intro j h; omega
  | succ n ih =>
    intro j h
    have e : evCells (zeros (n + 1)) = [.int .i64 0, .slice Option.none 0 0, .int .i64 0] ++ evCells (zeros n) := rfl
    rw [e]
    by_cases hj : j < 3
    · rw [List.getElem?_append_left (by simpa using hj)]
      rcases (show j = 0 ∨ j = 1 ∨ j = 2 by omega) with rfl | rfl | rfl <;> rfl
    · rw [List.getElem?_append_right (by simp; omega)]
      have := ih (j - 3) (by omega)
      rw [show (j - 3) % 3 = j % 3 by omega] at this
      exact this
theorem zeros_made (n : Nat) : madeCells zcell (n * 3) = (evCells (zeros n)).toArray := by
  apply Array.ext
  · rw [size_madeCells, List.size_toArray, evCells_length]; simp [zeros]
  · intro j h1 h2
    rw [size_madeCells] at h1
    have := zeros_cell n j h1
    rw [List.getElem?_eq_getElem (by simpa using h2)] at this
    simp only [Option.some.injEq] at this
    show _ = (evCells (zeros n))[j]
    rw [this]
    simp only [madeCells, Array.getElem_map, Array.getElem_range]
    rfl
theorem stars_zeros {F : SP} {w : World} (h : F.on w) : ∀ n, (stars (zeros n) * F).on w
  | 0 => on_emp_mul.2 h
  | n + 1 => by
    show ((ownD (.slice Option.none 0 0) [] * stars (zeros n)) * F).on w
    rw [SP.mul_assoc]
    exact ownD_nil (stars_zeros h n)
theorem Evs.make (w : World) (n : Nat) (hn : n ≤ 1000000) : (Evs (.slice (some ⟨w.heap.size, 0, Option.none⟩) n n) (zeros n) * all w).on (w.alloc (.cells (madeCells zcell (n * 3)) 144)) := by
  unfold Evs
  rw [zeros_made, SP.mul_assoc]
  have e : (zeros n).length = n := by simp [zeros]
  rw [e]
  exact own_new 144 3 n (evCells (zeros n)) (stars_zeros (on_all w) n) (by rw [evCells_length, e]) (by unfold maxLen; omega)

theorem own_storeS {F : SP} {w : World} {e : TypeId} {size g n cap j : Nat} {xs : List Value} (h : (own e size (.slice (some ⟨g, 0, Option.none⟩) n cap) n xs * F).on w) (hj : j < n * size) (u : Value) :
    (own e size (.slice (some ⟨g, 0, Option.none⟩) n cap) n (xs.set j u) * F).on (w.setCell ⟨g, j, Option.none⟩ u) := by
  obtain ⟨hx, hv⟩ := own_cases h
  rcases hv with ⟨hv, _⟩ | ⟨g', cap', cur, hv, e2, e3, e4, e5, e6⟩
  · cases hv
  · simp only [Value.slice.injEq, Option.some.injEq, Addr.mk.injEq] at hv
    obtain ⟨⟨rfl, _⟩, _, rfl⟩ := hv
    have h2 := e6.setCell (i := j) u
    refine own_of_blk h2 (by simpa using hx) e2 e3 (by simpa using e4) ?_
    rw [← e5]
    simp [List.take_set]
theorem evCells_set : ∀ (L : List (Value × Ev)) (i : Nat) (x : Value) (ev : Ev), i < L.length → evCells (L.set i (x, ev)) = (((evCells L).set (i * 3) (.int .i64 (ev.kind : Int))).set (i * 3 + 1) x).set (i * 3 + 2) (.int .i64 (ev.err : Int))
  | [], i, x, ev, h => by simp at h
  | y :: t, 0, x, ev, h => rfl
  | y :: t, i + 1, x, ev, h => by
    have := evCells_set t i x ev (by simpa using h)
    rw [List.set_cons_succ]
    show [_, _, _] ++ evCells (t.set i (x, ev)) = (((([_, _, _] : List Value) ++ evCells t).set ((i + 1) * 3) _).set ((i + 1) * 3 + 1) _).set ((i + 1) * 3 + 2) _
    rw [this, show (i + 1) * 3 = i * 3 + 3 by omega, show i * 3 + 3 + 1 = (i * 3 + 1) + 3 by omega, show i * 3 + 3 + 2 = (i * 3 + 2) + 3 by omega]
    rfl
theorem stars_set {F : SP} {w : World} (x : Value) (ev : Ev) : ∀ (L : List (Value × Ev)) (i : Nat), i < L.length → ∀ {G : SP}, (stars L * (ownD x ev.frame * G)).on w → (stars (L.set i (x, ev)) * G).on w
  | [], i, h, G, _ => by simp at h
  | y :: t, 0, h, G, k => by
    have k2 : ((ownD y.1 y.2.frame * stars t) * (ownD x ev.frame * G)).on w := k
    rw [SP.mul_assoc] at k2
    have k3 := k2.right
    rw [SP.mul_left_comm] at k3
    show ((ownD x ev.frame * stars t) * G).on w
    rw [SP.mul_assoc]
    exact k3
  | y :: t, i + 1, h, G, k => by
    have k2 : ((ownD y.1 y.2.frame * stars t) * (ownD x ev.frame * G)).on w := k
    have e : ((ownD y.1 y.2.frame * stars t) * (ownD x ev.frame * G)) = (stars t * (ownD x ev.frame * (ownD y.1 y.2.frame * G))) := by ac_rfl
    rw [e] at k2
    have k3 := stars_set (F := F) x ev t i (by simpa using h) k2
    show ((ownD y.1 y.2.frame * stars (t.set i (x, ev))) * G).on w
    rw [SP.mul_assoc, SP.mul_left_comm]
    exact k3
/-- an event is written -/
theorem Evs.set {g cap : Nat} {L : List (Value × Ev)} {i : Nat} {x : Value} {ev : Ev} {G : SP} {w : World} (hi : i < L.length) (h : (Evs (.slice (some ⟨g, 0, Option.none⟩) L.length cap) L * (ownD x ev.frame * G)).on w) :
    (Evs (.slice (some ⟨g, 0, Option.none⟩) L.length cap) (L.set i (x, ev)) * G).on (((w.setCell ⟨g, i * 3, Option.none⟩ (.int .i64 (ev.kind : Int))).setCell ⟨g, i * 3 + 1, Option.none⟩ x).setCell ⟨g, i * 3 + 2, Option.none⟩ (.int .i64 (ev.err : Int))) := by
  unfold Evs at h ⊢
  rw [SP.mul_assoc] at h ⊢
  rw [List.length_set, evCells_set L i x ev hi]
  have h1 := own_storeS h (j := i * 3) (by omega) (.int .i64 (ev.kind : Int))
  have h2 := own_storeS h1 (j := i * 3 + 1) (by omega) x
  have h3 := own_storeS h2 (j := i * 3 + 2) (by omega) (.int .i64 (ev.err : Int))
  generalize (((evCells L).set (i * 3) (.int .i64 (ev.kind : Int))).set (i * 3 + 1) x).set (i * 3 + 2) (.int .i64 (ev.err : Int)) = cs at *
  rw [SP.mul_left_comm (own 144 3 _ _ cs), SP.mul_left_comm (own 144 3 _ _ cs)] at h3
  rw [SP.mul_left_comm]
  exact stars_set (F := emp) x ev L i hi h3
end Go.Proofs.Ytjmgnfpcieofkaa

/- What each byte of a part brings: the document's answer, walked. -/
namespace Go.Proofs.Ytjmgnfpcieofkaa
open Go.ChangeShapes Go.WideShapes Go.ChangeAt Go.RowKit
set_option linter.unusedVariables false

theorem map_set {L : List (Value × Ev)} {pre : List Ev} {k n : Nat} (hL : L.map Prod.snd = pre ++ List.replicate (n - k) zev) (hp : pre.length = k) (hk : k < n) (x : Value) (ev : Ev) :
    (L.set k (x, ev)).map Prod.snd = pre ++ ev :: List.replicate (n - (k + 1)) zev := by
  rw [List.map_set, hL, List.set_append, if_neg (by omega), hp, Nat.sub_self, show n - k = (n - (k + 1)) + 1 by omega, List.replicate_succ, List.set_cons_zero]
theorem Evs.cells {g cap n : Nat} {L : List (Value × Ev)} {F : SP} {w : World} (hn : L.length = n) (h : (Evs (.slice (some ⟨g, 0, Option.none⟩) n cap) L * F).on w) (i : Nat) (hi : i < n) :
    ∃ x y z, w.cell? ⟨g, i * 3, Option.none⟩ = some x ∧ w.cell? ⟨g, i * 3 + 1, Option.none⟩ = some y ∧ w.cell? ⟨g, i * 3 + 2, Option.none⟩ = some z := by
  unfold Evs at h
  rw [SP.mul_assoc, hn] at h
  have he := evCells_length L
  exact ⟨_, _, _, own_lay h (i * 3) _ (List.getElem?_eq_getElem (by omega)), own_lay h (i * 3 + 1) _ (List.getElem?_eq_getElem (by omega)), own_lay h (i * 3 + 2) _ (List.getElem?_eq_getElem (by omega))⟩
theorem Evs.frz {g cap n : Nat} {L : List (Value × Ev)} {F : SP} {w : World} (hn : L.length = n) (h : (Evs (.slice (some ⟨g, 0, Option.none⟩) n cap) L * F).on w) (j : Nat) : w.frozen? ⟨g, j, Option.none⟩ = false := by
  unfold Evs at h
  rw [SP.mul_assoc, hn] at h
  obtain ⟨hx, hv⟩ := own_cases h
  rcases hv with ⟨hv, _⟩ | ⟨g', cap', cur, hv, e2, e3, e4, e5, e6⟩
  · cases hv
  · cases hv
    exact frozen_of_row _ _ _ _ _ (on_blk_mul e6)
theorem rep_step {L : List (Value × Ev)} {pre : List Ev} {k n : Nat} (hL : L.map Prod.snd = pre ++ List.replicate (n - k) zev) (hk : k < n) : L.map Prod.snd = (pre ++ [zev]) ++ List.replicate (n - (k + 1)) zev := by
  rw [hL, show n - k = (n - (k + 1)) + 1 by omega, List.replicate_succ]; simp
theorem drop_at {b : List UInt8} {k : Nat} (hk : k < b.length) : b.drop k = b.getD k 0 :: b.drop (k + 1) := by
  rw [List.drop_eq_getElem_cons hk, List.getD_eq_getElem?_getD, List.getElem?_eq_getElem hk]; rfl
theorem Evs.err {g n : Nat} {L : List (Value × Ev)} {i er : Nat} {T : SP} {w w0 : World} (hn : L.length = n) (hi : i < n) (h : (Evs (.slice (some ⟨g, 0, Option.none⟩) n n) L * (T * all w0)).on w) :
    (Evs (.slice (some ⟨g, 0, Option.none⟩) n n) (L.set i (.slice Option.none 0 0, ⟨2, [], er⟩)) * all w0).on (((w.setCell ⟨g, i * 3, Option.none⟩ (.int .i64 2)).setCell ⟨g, i * 3 + 1, Option.none⟩ (.slice Option.none 0 0)).setCell ⟨g, i * 3 + 2, Option.none⟩ (.int .i64 (er : Int))) := by
  subst hn
  have h1 : (Evs (.slice (some ⟨g, 0, Option.none⟩) L.length L.length) L * all w0).on w := by
    rw [SP.mul_left_comm] at h; exact h.right
  have h2 := ownD_nil h1
  rw [SP.mul_left_comm] at h2
  exact Evs.set (ev := ⟨2, [], er⟩) hi h2
theorem grow {X P T A : SP} {w : World} (h : (X * (P * (T * A))).on w) : (P * (X * A)).on w := by
  have e : (X * (P * (T * A))) = (T * (P * (X * A))) := by ac_rfl
  rw [e] at h
  exact h.right
def PartRel (w : World) (b : List UInt8) (m g : Nat) (tv i : Value) (wr : World) : Prop :=
  ∃ (k f : Nat) (text : List UInt8) (L : List (Value × Ev)) (pre : List Ev), k ≤ b.length ∧ i = .int .i64 k ∧ b.length - k < f ∧ text.length ≤ m ∧ L.length = b.length ∧ pre.length = k ∧ L.map Prod.snd = pre ++ List.replicate (b.length - k) zev ∧
    pre ++ partF m f text (b.drop k) = partF m (b.length + 1) [] b ∧ (Evs (.slice (some ⟨g, 0, Option.none⟩) b.length b.length) L * (ownD tv text * all w)).on wr ∧ Str w wr

set_option maxRecDepth 100000 in
set_option maxHeartbeats 8000000 in
theorem part_any (v : Value) (b : List UInt8) (m : Nat) (hm : m ≤ 65536) (w : World) (h : IsBytes w v b) (hlen : b.length ≤ 1000000) :
    Calls Try.prog 108 #[v, .int .i64 m] w fun e w' => ∃ out L, e = .returned out ∧ L.map Prod.snd = partF m (b.length + 1) [] b ∧ (Evs out L * all w).on w' ∧ Str w w' := by
  have H := hide h
  obtain ⟨a, c, rfl, hc, hmx, _, _⟩ := h
  obtain ⟨ie, hie, hz, hsz, hby⟩ := info_some infoEv
  have hue := Try.underlying141
  have hmk := fun w => run_make (P := Try.prog) w 141 144 ie _ hue hie hz .i64 .i64 (b.length : Int) (b.length : Int) (by omega) (Int.le_refl _) (by rw [hby]; omega) (by omega)
  simp only [Int.toNat_natCast, hsz] at hmk
  unfold maxLen at hmx
  clear hie hz hsz hby hue
  go_enter Try.func108, Try.ntmps108
  go_wp2_with fail
  have hm0 := Evs.make w b.length hlen
  have HM := hide hm0
  have HSM := hide ((Str.refl w).alloc (.cells (madeCells zcell (b.length * 3)) 144))
  go_loopw [6, 7] (fun tv i wr => PartRel w b m w.heap.size tv i wr) (fun _ i _ => b.length - (intOf i).toNat)
  case atStart => exact ⟨0, b.length + 1, [], zeros b.length, [], by omega, rfl, by omega, by simp, by simp [zeros], rfl, by simp [zeros], by simp, by
      have h2 := ownD_nil HM.out
      rw [SP.mul_left_comm] at h2
      exact h2, HSM.out⟩
  case round =>
    obtain ⟨k, f, text, L, pre, hk, rfl, hf, htm, hLn, hpk, hLm, hpre, hw, hstr⟩ := hrel
    generalize w.heap.size = g at *
    by_cases hkl : k < b.length
    · obtain ⟨bv, offv, rfl⟩ : ∃ bv offv, a = some ⟨bv, offv, Option.none⟩ := by
        obtain ⟨_, _, e, _, _, h3, _⟩ := H.out
        simp only [Value.slice.injEq] at e
        obtain ⟨rfl, _, rfl⟩ := e
        exact Lay.isAddr h3 k (by simpa using hkl)
      have hcell : ∀ j, j < b.length → wr.cell? ⟨bv, offv + j, Option.none⟩ = some (vb (b.getD j 0)) := by
        intro j hj
        obtain ⟨_, _, e, _, _, h3, _⟩ := bytes_all H.out hw.right.right
        simp only [Value.slice.injEq] at e
        obtain ⟨rfl, _, rfl⟩ := e
        have := Lay.cell h3 j (vbs_get b j hj)
        rw [this, List.getD_eq_getElem?_getD, List.getElem?_eq_getElem hj]
        rfl
      have cb := hcell k hkl
      have hdrop := drop_at hkl
      obtain ⟨f', rfl⟩ : ∃ f', f = f' + 1 := ⟨f - 1, by omega⟩
      obtain ⟨ta, tc, rfl, htc, htx, _, _⟩ := own_bytes (by rw [SP.mul_left_comm] at hw; exact hw)
      by_cases h192 : b.getD k 0 = 192
      · rw [h192] at cb hdrop
        by_cases ht0 : 0 < text.length
        · have hP : partF m (f' + 1) text (b.drop k) = ⟨1, text, 0⟩ :: List.replicate (b.length - (k + 1)) zev := by
            rw [hdrop]; simp only [partF, if_pos, if_pos ht0]; rw [List.length_drop]
          have hset := map_set hLm hpk hkl (.slice ta text.length tc) ⟨1, text, 0⟩
          rw [← hP, hpre] at hset
          have hE := Evs.set (g := g) (cap := b.length) (L := L) (i := k) (x := .slice ta text.length tc) (ev := ⟨1, text, 0⟩) (G := all w) (by omega) (by rw [hLn]; exact hw)
          rw [hLn] at hE
          have hcs := Evs.cells hLn hw k hkl
          obtain ⟨o0, o1, o2, z0, z1, z2⟩ := hcs
          have frz := Evs.frz hLn hw
          have HE := hide hE
          have Hset := hide hset
          have Hs := hide hstr
          clear hE hset hP hpre hLm hw hstr hcell hdrop h192 hpk
          go_wp2_with fail
          go_ret
          exact ⟨_, rfl, _, Hset.out, HE.out, ((Hs.out.setCell _ _).setCell _ _).setCell _ _⟩
        · obtain rfl : text = [] := by cases text with | nil => rfl | cons y t => simp at ht0
          have hP : partF m (f' + 1) [] (b.drop k) = List.replicate (b.length - k) zev := by
            rw [hdrop]; simp only [partF, if_pos]; rw [List.length_drop, show b.length - k = (b.length - (k + 1)) + 1 by omega]; rfl
          rw [← hP, hpre] at hLm
          have hE := hw
          rw [SP.mul_left_comm] at hE
          have HE := hide hE.right
          have Hset := hide hLm
          have Hs := hide hstr
          clear hE hLm hP hpre hw hstr hcell hdrop h192 hpk ht0
          go_wp2_with fail
          go_ret
          exact ⟨_, _, rfl, Hset.out, HE.out, Hs.out⟩
      · have e192 := bne_u8 h192
        rw [show (((192 : UInt8).toNat : Nat) : Int) = 192 from rfl] at e192
        by_cases h219 : b.getD k 0 = 219
        · rw [h219] at cb hdrop
          clear h192 e192
          by_cases hk1 : k + 1 < b.length
          · have cb2 := hcell (k + 1) hk1
            have hdrop2 := drop_at hk1
            have hLm2 := rep_step hLm hkl
            have hp2 : (pre ++ [zev]).length = k + 1 := by simp [hpk]
            generalize b.getD (k + 1) 0 = d at *
            by_cases hx : d ≠ 220 ∧ d ≠ 221
            · have hP : partF m (f' + 1) text (b.drop k) = zev :: ⟨2, [], 7⟩ :: List.replicate (b.length - (k + 2)) zev := by
                rw [hdrop, hdrop2]; simp only [partF]; rw [if_neg (by decide), if_pos True.intro, if_pos hx, List.length_drop]
              have hset := map_set hLm2 hp2 hk1 (.slice Option.none 0 0) ⟨2, [], 7⟩
              rw [List.append_assoc, show ([zev] ++ (⟨2, [], 7⟩ : Ev) :: List.replicate (b.length - (k + 1 + 1)) zev) = partF m (f' + 1) text (b.drop k) by rw [hP]; rfl, hpre] at hset
              have HE := hide (Evs.err (er := 7) hLn hk1 hw)
              obtain ⟨o0, o1, o2, z0, z1, z2⟩ := Evs.cells hLn hw (k + 1) hk1
              have frz := Evs.frz hLn hw
              have Hset := hide hset
              have Hs := hide hstr
              have e0 := bne_u8 hx.1
              have e1 := bne_u8 hx.2
              rw [show (((220 : UInt8).toNat : Nat) : Int) = 220 from rfl] at e0
              rw [show (((221 : UInt8).toNat : Nat) : Int) = 221 from rfl] at e1
              have n0 : (((d.toNat : Nat) : Int) != 220) = true := by simp only [bne, e0]; rfl
              have n1 : (((d.toNat : Nat) : Int) != 221) = true := by simp only [bne, e1]; rfl
              have hdl := UInt8.toNat_lt d
              have x0 : ¬ ((d.toNat : Nat) : Int) = 220 := by simpa using e0
              have x1 : ¬ ((d.toNat : Nat) : Int) = 221 := by simpa using e1
              clear hset hP hpre hLm hLm2 hw hstr hcell hdrop hdrop2 h219 hpk hp2 hx
              go_wp2_with fail
              go_ret
              exact ⟨_, _, rfl, Hset.out, HE.out, ((Hs.out.setCell _ _).setCell _ _).setCell _ _⟩
            · by_cases hd : d = 220
              · subst hd
                by_cases htl : text.length = m
                · have hP : partF m (f' + 1) text (b.drop k) = zev :: ⟨2, [], 17⟩ :: List.replicate (b.length - (k + 2)) zev := by
                    rw [hdrop, hdrop2]; simp only [partF]; rw [if_neg (by decide), if_pos True.intro, if_neg hx, if_pos htl, List.length_drop]
                  have hset := map_set hLm2 hp2 hk1 (.slice Option.none 0 0) ⟨2, [], 17⟩
                  rw [List.append_assoc, show ([zev] ++ (⟨2, [], 17⟩ : Ev) :: List.replicate (b.length - (k + 1 + 1)) zev) = partF m (f' + 1) text (b.drop k) by rw [hP]; rfl, hpre] at hset
                  have HE := hide (Evs.err (er := 17) hLn hk1 hw)
                  obtain ⟨o0, o1, o2, z0, z1, z2⟩ := Evs.cells hLn hw (k + 1) hk1
                  have frz := Evs.frz hLn hw
                  have Hset := hide hset
                  have Hs := hide hstr
                  have etl : ((text.length : Int) == (m : Int)) = true := by simp only [beq_iff_eq]; omega
                  clear hset hP hpre hLm hLm2 hw hstr hcell hdrop hdrop2 h219 hpk hp2 hx htl
                  go_wp2_with fail
                  go_ret
                  exact ⟨_, _, rfl, Hset.out, HE.out, ((Hs.out.setCell _ _).setCell _ _).setCell _ _⟩
                · have hP : partF m (f' + 1) text (b.drop k) = zev :: zev :: partF m f' (text ++ [192]) (b.drop (k + 2)) := by
                    rw [hdrop, hdrop2]; simp only [partF]; rw [if_neg (by decide), if_pos True.intro, if_neg hx, if_neg htl, if_pos True.intro]
                  have hLm3 := rep_step hLm2 hk1
                  have hpk3 : (pre ++ [zev] ++ [zev]).length = k + 1 + 1 := by simp [hpk]
                  rw [hP, show pre ++ zev :: zev :: partF m f' (text ++ [192]) (b.drop (k + 2)) = (pre ++ [zev] ++ [zev]) ++ partF m f' (text ++ [192]) (b.drop (k + 2)) by simp] at hpre
                  have etl : ((text.length : Int) == (m : Int)) = false := by rw [beq_eq_false_iff_ne]; omega
                  have htl2 : text.length < m := by omega
                  have ho0 := own_new (F := Evs (.slice (some ⟨g, 0, Option.none⟩) b.length b.length) L * (ownD (.slice ta text.length tc) text * all w)) 5 1 0 [] hw rfl (by decide)
                  have hb1 : IsBytes (wr.alloc (.cells #[] 5)) (.slice ta text.length tc) text := by
                    have h9 := hw.alloc' (.cells #[] 5)
                    rw [SP.mul_left_comm] at h9
                    exact own_bytes h9
                  have Ho0 := hide ho0
                  have Hb1 := hide hb1
                  have Hs := hide hstr
                  have Hpre := hide hpre
                  have HLm := hide hLm3
                  have Hpk := hide hpk3
                  have hu := Try.underlying33
                  clear ho0 hb1 hP hpre hLm hLm2 hLm3 hw hstr hcell hdrop hdrop2 h219 hpk hp2 hpk3 htl hx
                  go_wp2_with (first
                    | (at_builtin; refine wpList_append_bytes (F := Evs (.slice (some ⟨g, 0, Option.none⟩) b.length b.length) L * (ownD (.slice ta text.length tc) text * all w)) rfl _ _ 33 rfl 5 hu infoD _ text [192] rfl (ho2.alloc' _) _ rfl (IsBytes.new w2 [192] (by simp [maxLen]) 5) (by simp; omega) ?_; clear ho2; intro v3 w3 ho3 hs3)
                    | (at_builtin; refine wpList_append_bytes (F := Evs (.slice (some ⟨g, 0, Option.none⟩) b.length b.length) L * (ownD (.slice ta text.length tc) text * all w)) rfl _ _ 33 rfl 5 hu infoD _ [] text rfl Ho0.out _ rfl Hb1.out (by simp; omega) ?_; intro v2 w2 ho2 hs2; rw [List.nil_append] at ho2))
                  exact ⟨⟨k + 1 + 1, f', text ++ [192], L, pre ++ [zev] ++ [zev], by omega, by simp, by omega, by simp; omega, hLn, Hpk.out, HLm.out, Hpre.out, grow ho3, ((((Hs.out.alloc _).trans hs2).alloc _).trans hs3)⟩, by simp [intOf]; omega⟩
              · have hd1 : d = 221 := by by_cases h1 : d = 221; exact h1; exact (hx ⟨hd, h1⟩).elim
                subst hd1
                clear hd
                by_cases htl : text.length = m
                · have hP : partF m (f' + 1) text (b.drop k) = zev :: ⟨2, [], 17⟩ :: List.replicate (b.length - (k + 2)) zev := by
                    rw [hdrop, hdrop2]; simp only [partF]; rw [if_neg (by decide), if_pos True.intro, if_neg hx, if_pos htl, List.length_drop]
                  have hset := map_set hLm2 hp2 hk1 (.slice Option.none 0 0) ⟨2, [], 17⟩
                  rw [List.append_assoc, show ([zev] ++ (⟨2, [], 17⟩ : Ev) :: List.replicate (b.length - (k + 1 + 1)) zev) = partF m (f' + 1) text (b.drop k) by rw [hP]; rfl, hpre] at hset
                  have HE := hide (Evs.err (er := 17) hLn hk1 hw)
                  obtain ⟨o0, o1, o2, z0, z1, z2⟩ := Evs.cells hLn hw (k + 1) hk1
                  have frz := Evs.frz hLn hw
                  have Hset := hide hset
                  have Hs := hide hstr
                  have etl : ((text.length : Int) == (m : Int)) = true := by simp only [beq_iff_eq]; omega
                  clear hset hP hpre hLm hLm2 hw hstr hcell hdrop hdrop2 h219 hpk hp2 hx htl
                  go_wp2_with fail
                  go_ret
                  exact ⟨_, _, rfl, Hset.out, HE.out, ((Hs.out.setCell _ _).setCell _ _).setCell _ _⟩
                · have hP : partF m (f' + 1) text (b.drop k) = zev :: zev :: partF m f' (text ++ [219]) (b.drop (k + 2)) := by
                    rw [hdrop, hdrop2]; simp only [partF]; rw [if_neg (by decide), if_pos True.intro, if_neg hx, if_neg htl, if_neg (by decide)]
                  have hLm3 := rep_step hLm2 hk1
                  have hpk3 : (pre ++ [zev] ++ [zev]).length = k + 1 + 1 := by simp [hpk]
                  rw [hP, show pre ++ zev :: zev :: partF m f' (text ++ [219]) (b.drop (k + 2)) = (pre ++ [zev] ++ [zev]) ++ partF m f' (text ++ [219]) (b.drop (k + 2)) by simp] at hpre
                  have etl : ((text.length : Int) == (m : Int)) = false := by rw [beq_eq_false_iff_ne]; omega
                  have htl2 : text.length < m := by omega
                  have ho0 := own_new (F := Evs (.slice (some ⟨g, 0, Option.none⟩) b.length b.length) L * (ownD (.slice ta text.length tc) text * all w)) 5 1 0 [] hw rfl (by decide)
                  have hb1 : IsBytes (wr.alloc (.cells #[] 5)) (.slice ta text.length tc) text := by
                    have h9 := hw.alloc' (.cells #[] 5)
                    rw [SP.mul_left_comm] at h9
                    exact own_bytes h9
                  have Ho0 := hide ho0
                  have Hb1 := hide hb1
                  have Hs := hide hstr
                  have Hpre := hide hpre
                  have HLm := hide hLm3
                  have Hpk := hide hpk3
                  have hu := Try.underlying33
                  clear ho0 hb1 hP hpre hLm hLm2 hLm3 hw hstr hcell hdrop hdrop2 h219 hpk hp2 hpk3 htl hx
                  go_wp2_with (first
                    | (at_builtin; refine wpList_append_bytes (F := Evs (.slice (some ⟨g, 0, Option.none⟩) b.length b.length) L * (ownD (.slice ta text.length tc) text * all w)) rfl _ _ 33 rfl 5 hu infoD _ text [219] rfl (ho2.alloc' _) _ rfl (IsBytes.new w2 [219] (by simp [maxLen]) 5) (by simp; omega) ?_; clear ho2; intro v3 w3 ho3 hs3)
                    | (at_builtin; refine wpList_append_bytes (F := Evs (.slice (some ⟨g, 0, Option.none⟩) b.length b.length) L * (ownD (.slice ta text.length tc) text * all w)) rfl _ _ 33 rfl 5 hu infoD _ [] text rfl Ho0.out _ rfl Hb1.out (by simp; omega) ?_; intro v2 w2 ho2 hs2; rw [List.nil_append] at ho2))
                  exact ⟨⟨k + 1 + 1, f', text ++ [219], L, pre ++ [zev] ++ [zev], by omega, by simp, by omega, by simp; omega, hLn, Hpk.out, HLm.out, Hpre.out, grow ho3, ((((Hs.out.alloc _).trans hs2).alloc _).trans hs3)⟩, by simp [intOf]; omega⟩
          · have hk2 : b.length ≤ k + 1 := by omega
            have hP : partF m (f' + 1) text (b.drop k) = List.replicate (b.length - k) zev := by
              rw [hdrop, List.drop_eq_nil_of_le (by omega), show b.length - k = 1 by omega]; rfl
            rw [← hP, hpre] at hLm
            have hE := hw
            rw [SP.mul_left_comm] at hE
            have HE := hide hE.right
            have Hset := hide hLm
            have Hs := hide hstr
            clear hE hLm hP hpre hw hstr hcell hdrop h219 hpk hk1
            go_wp2_with fail
            go_ret
            exact ⟨_, _, rfl, Hset.out, HE.out, Hs.out⟩
        · have e219 := bne_u8 h219
          rw [show (((219 : UInt8).toNat : Nat) : Int) = 219 from rfl] at e219
          generalize b.getD k 0 = cc at *
          have n192 : (((cc.toNat : Nat) : Int) != 192) = true := by simp only [bne, e192]; rfl
          have x192 : ¬ ((cc.toNat : Nat) : Int) = 192 := by simpa using e192
          have x219 : ¬ ((cc.toNat : Nat) : Int) = 219 := by simpa using e219
          by_cases htl : text.length = m
          · have hP : partF m (f' + 1) text (b.drop k) = ⟨2, [], 17⟩ :: List.replicate (b.length - (k + 1)) zev := by
              rw [hdrop]; simp only [partF]; rw [if_neg h192, if_neg h219, if_pos htl, List.length_drop]
            have hset := map_set hLm hpk hkl (.slice Option.none 0 0) ⟨2, [], 17⟩
            rw [← hP, hpre] at hset
            have HE := hide (Evs.err (er := 17) hLn hkl hw)
            obtain ⟨o0, o1, o2, z0, z1, z2⟩ := Evs.cells hLn hw k hkl
            have frz := Evs.frz hLn hw
            have Hset := hide hset
            have Hs := hide hstr
            have etl : ((text.length : Int) == (m : Int)) = true := by simp only [beq_iff_eq]; omega
            clear hset hP hpre hLm hw hstr hcell hdrop h219 h192 hpk htl
            go_wp2_with fail
            go_ret
            exact ⟨_, _, rfl, Hset.out, HE.out, ((Hs.out.setCell _ _).setCell _ _).setCell _ _⟩
          · have hP : partF m (f' + 1) text (b.drop k) = zev :: partF m f' (text ++ [cc]) (b.drop (k + 1)) := by
              rw [hdrop]; simp only [partF]; rw [if_neg h192, if_neg h219, if_neg htl]
            have hLm3 := rep_step hLm hkl
            have hpk3 : (pre ++ [zev]).length = k + 1 := by simp [hpk]
            rw [hP, show pre ++ zev :: partF m f' (text ++ [cc]) (b.drop (k + 1)) = (pre ++ [zev]) ++ partF m f' (text ++ [cc]) (b.drop (k + 1)) by simp] at hpre
            have etl : ((text.length : Int) == (m : Int)) = false := by rw [beq_eq_false_iff_ne]; omega
            have htl2 : text.length < m := by omega
            have ho0 := own_new (F := Evs (.slice (some ⟨g, 0, Option.none⟩) b.length b.length) L * (ownD (.slice ta text.length tc) text * all w)) 5 1 0 [] hw rfl (by decide)
            have hb1 : IsBytes (wr.alloc (.cells #[] 5)) (.slice ta text.length tc) text := by
              have h9 := hw.alloc' (.cells #[] 5)
              rw [SP.mul_left_comm] at h9
              exact own_bytes h9
            have Ho0 := hide ho0
            have Hb1 := hide hb1
            have Hs := hide hstr
            have Hpre := hide hpre
            have HLm := hide hLm3
            have Hpk := hide hpk3
            have hu := Try.underlying33
            clear ho0 hb1 hP hpre hLm hLm3 hw hstr hcell hdrop h219 h192 hpk hpk3 htl
            go_wp2_with (first
              | (at_builtin; refine wpList_append_bytes (F := Evs (.slice (some ⟨g, 0, Option.none⟩) b.length b.length) L * (ownD (.slice ta text.length tc) text * all w)) rfl _ _ 33 rfl 5 hu infoD _ text [cc] rfl (ho2.alloc' _) _ rfl (IsBytes.new w2 [cc] (by simp [maxLen]) 5) (by simp; omega) ?_; clear ho2; intro v3 w3 ho3 hs3)
              | (at_builtin; refine wpList_append_bytes (F := Evs (.slice (some ⟨g, 0, Option.none⟩) b.length b.length) L * (ownD (.slice ta text.length tc) text * all w)) rfl _ _ 33 rfl 5 hu infoD _ [] text rfl Ho0.out _ rfl Hb1.out (by simp; omega) ?_; intro v2 w2 ho2 hs2; rw [List.nil_append] at ho2))
            exact ⟨⟨k + 1, f', text ++ [cc], L, pre ++ [zev], by omega, by simp, by omega, by simp; omega, hLn, Hpk.out, HLm.out, Hpre.out, grow ho3, ((((Hs.out.alloc _).trans hs2).alloc _).trans hs3)⟩, by simp [intOf]; omega⟩
    · have hkb : k = b.length := by omega
      have hP : partF m f text (b.drop k) = List.replicate (b.length - k) zev := by
        rw [List.drop_eq_nil_of_le (by omega), show b.length - k = 0 by omega]
        cases f with
        | zero => rfl
        | succ f => rfl
      rw [← hP, hpre] at hLm
      have hE := hw
      rw [SP.mul_left_comm] at hE
      have HE := hide hE.right
      have Hset := hide hLm
      have Hs := hide hstr
      clear hE hLm hP hpre hw hstr hpk
      go_wp2_with fail
      go_ret
      exact ⟨_, _, rfl, Hset.out, HE.out, Hs.out⟩
end Go.Proofs.Ytjmgnfpcieofkaa

/- The document's answer: what any bytes bring. -/
namespace Go.Proofs.Ytjmgnfpcieofkaa
open Go.ChangeShapes Go.WideShapes Go.ChangeAt Go.RowKit
set_option linter.unusedVariables false

theorem stars_append (L M : List (Value × Ev)) : stars (L ++ M) * emp = stars L * (stars M * emp) := by
  induction L with
  | nil => show stars M * emp = emp * (stars M * emp); rw [SP.mul_comm emp]; 
           apply SP.ext; intro h
           constructor
           · intro hh; exact ⟨h, fun _ => Option.none, fun _ => .inr rfl, Hp.sub_refl _, fun _ _ e => (nomatch e), hh, trivial⟩
           · rintro ⟨a, _, _, hs, _, ⟨x, y, h1, h2, h3, h4, h5⟩, _⟩; exact ⟨x, y, h1, h2.trans hs, h3.trans hs, h4, h5⟩
  | cons y t ih =>
    show (ownD y.1 y.2.frame * stars (t ++ M)) * emp = (ownD y.1 y.2.frame * stars t) * (stars M * emp)
    rw [SP.mul_assoc, ih, SP.mul_assoc]
theorem evCells_append (L M : List (Value × Ev)) : evCells (L ++ M) = evCells L ++ evCells M := by simp [evCells]
theorem evCells_one (L : List (Value × Ev)) {F : SP} {w : World} (h : (stars L * F).on w) : ∀ u ∈ evCells L, u.oneCell' = true := by
  intro u hu
  simp only [evCells, List.mem_flatMap] at hu
  obtain ⟨⟨v, e⟩, hm, hu⟩ := hu
  simp only [List.mem_cons, List.not_mem_nil, or_false] at hu
  rcases hu with rfl | rfl | rfl
  · rfl
  · obtain ⟨i, hi, he⟩ := List.getElem_of_mem hm
    obtain ⟨_, _, rfl, _⟩ := stars_get L i u e h (by rw [List.getElem?_eq_getElem hi, he])
    rfl
  · rfl
theorem Evs.append {v2 : Value} {L M : List (Value × Ev)} {F : SP} {w : World} (h : (own 144 3 v2 (L.length + M.length) (evCells L ++ evCells M) * (stars L * (stars M * F))).on w) : (Evs v2 (L ++ M) * F).on w := by
  unfold Evs
  rw [evCells_append, List.length_append, SP.mul_assoc]
  have e1 : (own 144 3 v2 (L.length + M.length) (evCells L ++ evCells M) * (stars L * (stars M * F))) = ((stars L * stars M) * (own 144 3 v2 (L.length + M.length) (evCells L ++ evCells M) * F)) := by ac_rfl
  rw [e1] at h
  have h2 := on_mul_emp.2 h
  have e2 : (((stars L * stars M) * (own 144 3 v2 (L.length + M.length) (evCells L ++ evCells M) * F)) * emp) = ((stars L * (stars M * emp)) * (own 144 3 v2 (L.length + M.length) (evCells L ++ evCells M) * F)) := by ac_rfl
  rw [e2, ← stars_append] at h2
  have e3 : ((stars (L ++ M) * emp) * (own 144 3 v2 (L.length + M.length) (evCells L ++ evCells M) * F)) = ((own 144 3 v2 (L.length + M.length) (evCells L ++ evCells M) * (stars (L ++ M) * F)) * emp) := by ac_rfl
  rw [e3] at h2
  exact on_mul_emp.1 h2
end Go.Proofs.Ytjmgnfpcieofkaa

/- The document's answer for deslip, whole: what any bytes bring. -/
namespace Go.Proofs.Ytjmgnfpcieofkaa
open Go.ChangeShapes Go.WideShapes Go.ChangeAt Go.RowKit
set_option linter.unusedVariables false

theorem partF_len (m : Nat) : ∀ (n : Nat) (text b : List UInt8), b.length < n → (partF m n text b).length = b.length := by
  intro n
  induction n using Nat.strongRecOn with
  | ind n ih =>
    intro text b hb
    cases n with
    | zero => omega
    | succ n =>
      cases b with
      | nil => rfl
      | cons c t =>
        simp only [partF]
        simp only [List.length_cons] at hb
        split
        · simp
        · split
          · cases t with
            | nil => rfl
            | cons d t' =>
              simp only [List.length_cons] at hb
              simp only []
              split
              · simp
              · split
                · simp
                · simp only [List.length_cons]
                  rw [ih n (by omega) _ t' (by omega)]
          · split
            · simp
            · simp only [List.length_cons]
              rw [ih n (by omega) _ t (by omega)]
theorem partsF_len : ∀ b : List UInt8, ((partsF b).map List.length).sum = b.length
  | [] => rfl
  | c :: t => by
    have ih := partsF_len t
    by_cases hc : c = 192
    · simp only [partsF, if_pos hc, List.map_cons, List.sum_cons, List.length_cons, List.length_nil]
      omega
    · cases h : partsF t with
      | nil => rw [h] at ih; simp only [partsF, if_neg hc, h, List.map_cons, List.map_nil, List.sum_cons, List.sum_nil, List.length_cons, List.length_nil] at ih ⊢; omega
      | cons p ps => rw [h] at ih; simp only [partsF, if_neg hc, h, List.map_cons, List.sum_cons, List.length_cons] at ih ⊢; omega
theorem partsF_count : ∀ b : List UInt8, (partsF b).length ≤ b.length + 1
  | [] => by simp [partsF]
  | c :: t => by
    have ih := partsF_count t
    by_cases hc : c = 192
    · simp only [partsF, if_pos hc, List.length_cons]
      omega
    · cases h : partsF t with
      | nil => rw [h] at ih; simp only [partsF, if_neg hc, h]; simp
      | cons p ps => rw [h] at ih; simp only [partsF, if_neg hc, h]; simp at ih ⊢; omega
/-- what the first so many parts bring -/
def evsK (m : Nat) (ps : List (List UInt8)) (k : Nat) : List Ev := (ps.take k).flatMap fun p => partF m (p.length + 1) [] p
theorem evsK_succ (m : Nat) (ps : List (List UInt8)) (k : Nat) (h : k < ps.length) : evsK m ps (k + 1) = evsK m ps k ++ partF m (ps[k].length + 1) [] ps[k] := by
  unfold evsK
  rw [List.take_succ_eq_append_getElem h, List.flatMap_append]
  simp
theorem evsK_len (m : Nat) (ps : List (List UInt8)) : ∀ k, (evsK m ps k).length ≤ ((ps.map List.length).sum) := by
  intro k
  induction ps generalizing k with
  | nil => simp [evsK]
  | cons p ps ih =>
    cases k with
    | zero => simp [evsK]
    | succ k =>
      have := ih k
      have h2 := partF_len m (p.length + 1) [] p (by omega)
      unfold evsK at this ⊢
      simp only [List.take_succ_cons, List.flatMap_cons, List.length_append, List.map_cons, List.sum_cons]
      omega
theorem sum_at : ∀ (ps : List (List UInt8)) (k : Nat) (h : k < ps.length), ps[k].length ≤ (ps.map List.length).sum
  | [], k, h => by simp at h
  | p :: ps, 0, h => by simp
  | p :: ps, k + 1, h => by
    have := sum_at ps k (by simpa using h)
    simp; omega

set_option maxRecDepth 100000 in
set_option maxHeartbeats 4000000 in
theorem events_any (v : Value) (b : List UInt8) (m : Nat) (hm : m ≤ 65536) (w : World) (h : IsBytes w v b) (hlen : b.length ≤ 1000000) :
    Calls Try.prog 77 #[v, .int .i64 m] w fun e w' => ∃ out L, e = .returned out ∧ L.map Prod.snd = (partsF b).flatMap (fun p => partF m (p.length + 1) [] p) ∧ (Evs out L * all w).on w' ∧ Str w w' := by
  have H := hide h
  obtain ⟨ie, hie, hz, hsz, hby⟩ := info_some infoEv
  have hue := Try.underlying141
  have Hie := hide hie
  have Hz := hide hz
  have Hsz := hide hsz
  have Hby := hide hby
  clear hie hz hsz hby
  have HP := hide (parts_any v b w h hlen)
  have hpl := partsF_len b
  have hpc := partsF_count b
  have HE0 := hide (show evsK m (partsF b) (partsF b).length = (partsF b).flatMap (fun p => partF m (p.length + 1) [] p) by unfold evsK; rw [List.take_length])
  generalize partsF b = ps at *
  obtain ⟨av, cv, rfl, _, _, _, _⟩ := h
  go_enter Try.func77, Try.ntmps77
  go_wp2_with fail
  refine HP.out.mono ?_
  rintro e w1 ⟨out1, rfl, hp1, hs1⟩
  obtain ⟨vals, ho, hvl, hv1, hvp⟩ := hp1
  have hB1 : Below w.heap.size w w1 := all_below ho.right hs1
  obtain ⟨pa, pc, rfl, hpc1, hpc2, hpla, _⟩ := own_value ho
  unfold maxLen at hpc2
  have Ho := hide ho
  have Hvl := hide hvl
  have Hvp := hide (fun j u l h1 h2 => (hvp j u l h1 h2).below hB1)
  have Hpla := hide hpla
  have Hs1 := hide hs1
  have Hpl := hide hpl
  clear ho hvl hv1 hvp hpla hs1 HP hB1 hpl
  go_wp2_with fail
  go_loopw [5, 7] (fun o i wr => ∃ (k : Nat) (L : List (Value × Ev)), k ≤ ps.length ∧ i = .int .i64 k ∧ L.map Prod.snd = evsK m ps k ∧ (Evs o L * all w1).on wr ∧ Str w1 wr) (fun _ i _ => ps.length - (intOf i).toNat)
  case atStart => exact ⟨0, [], by omega, rfl, rfl, Evs.nil (on_all w1), Str.refl _⟩
  case round =>
    obtain ⟨k, L, hk, rfl, hL, hw, hstr⟩ := hrel
    have hLl : L.length ≤ 1000000 := by
      have h1 := congrArg List.length hL
      rw [List.length_map] at h1
      have h2 := evsK_len m ps k
      rw [Hpl.out] at h2
      omega
    by_cases hkl : k < ps.length
    · have hkv : k < vals.length := by rw [Hvl.out]; exact hkl
      obtain ⟨bv, offv, rfl⟩ := Lay.isAddr Hpla.out k hkv
      have hB : Below w1.heap.size w1 wr := all_below hw.right hstr
      have cb := Lay.cell (Hpla.out.below hB) k (List.getElem?_eq_getElem hkv)
      have hbx := (Hvp.out k _ _ (List.getElem?_eq_getElem hkv) (List.getElem?_eq_getElem hkl)).below hB
      have hsl := sum_at ps k hkl
      rw [Hpl.out] at hsl
      have HS := hide (evsK_succ m ps k hkl)
      have hpl2 := partF_len m (ps[k].length + 1) [] ps[k] (by omega)
      generalize vals[k] = vk at *
      generalize ps[k] = x at *
      have HPart := hide (part_any vk x m hm wr hbx (by omega))
      obtain ⟨oa, oc, rfl, _, _, _, _⟩ := Evs.lay hw
      obtain ⟨xa, xc, rfl, _, _, _, _⟩ := hbx
      have Hw := hide hw
      have HL := hide hL
      have Hstr := hide hstr
      clear hw hL hstr hB
      go_wp2_with fail
      refine HPart.out.mono ?_
      rintro e w2 ⟨out2, L2, rfl, hL2, h2, hs2⟩
      have hL2l : L2.length = x.length := by have := congrArg List.length hL2; rw [List.length_map, hpl2] at this; exact this
      have h3 := on_all_to h2 Hw.out
      have h4 : (own 144 3 out2 L2.length (evCells L2) * (stars L2 * (Evs (.slice oa L.length oc) L * all w1))).on w2 := by
        unfold Evs at h3 ⊢
        rw [SP.mul_assoc] at h3
        exact h3
      obtain ⟨a2, c2, rfl, hc21, hc22, hl2, hn2⟩ := own_value h4
      have h1c := evCells_one L2 h4.right
      have h5 : (own 144 3 (.slice oa L.length oc) L.length (evCells L) * (stars L * (stars L2 * all w1))).on w2 := by
        have h6 := h4.right
        unfold Evs at h6
        have e : (stars L2 * ((own 144 3 (.slice oa L.length oc) L.length (evCells L) * stars L) * all w1)) = (own 144 3 (.slice oa L.length oc) L.length (evCells L) * (stars L * (stars L2 * all w1))) := by ac_rfl
        rw [e] at h6
        exact h6
      have H5 := hide h5
      have Hl2 := hide hl2
      have Hn2 := hide hn2
      have H1c := hide h1c
      have Hs2 := hide hs2
      have HL2 := hide hL2
      have hcl := evCells_length L2
      have Hcl := hide hcl
      clear h2 h3 h4 h5 hl2 hn2 h1c hs2 hL2 hcl HPart hpl2
      have hsum : L.length + L2.length ≤ 1000000 := by
        have h1 := congrArg List.length HL.out
        have h2 := evsK_len m ps (k + 1)
        rw [HS.out, List.length_append, Hpl.out, ← HL2.out, List.length_map, ← HL.out, List.length_map] at h2
        omega
      clear hL2l
      go_wp2_with (at_builtin; refine wpList_append_sp (F := stars L * (stars L2 * all w1)) rfl _ _ 141 rfl 144 ie _ 3 40 hue Hie.out Hz.out Hsz.out Hby.out rfl (by decide) _ L.length (evCells L) rfl H5.out a2 L2.length c2 (evCells L2) rfl Hn2.out Hcl.out Hl2.out H1c.out (by unfold maxLen; omega) (by omega) ?_; intro v3 w3 ho3 hs3)
      refine ⟨⟨k + 1, L ++ L2, by omega, by simp, by rw [HS.out, List.map_append, HL.out, HL2.out], Evs.append ho3, (Hstr.out.trans Hs2.out).trans hs3⟩, by simp [intOf]; omega⟩
    · have hkb : k = ps.length := by omega
      subst hkb
      have HL := hide (hL.trans HE0.out)
      have Hw := hide hw
      have Hs := hide hstr
      have Hall := hide Ho.out.right
      clear hw hL hstr
      go_wp2_with fail
      go_ret
      exact ⟨_, L, rfl, HL.out, on_all_to Hw.out Hall.out, Hs1.out.trans Hs.out⟩
end Go.Proofs.Ytjmgnfpcieofkaa

/- Parts of the document's answer for deslip. -/
namespace Go.Proofs.Ytjmgnfpcieofkaa
open Go.ChangeShapes Go.WideShapes Go.ChangeAt Go.RowKit
set_option linter.unusedVariables false

/-- parts in memory: slices of one row, wherever that lies -/
def PartsOf (v0 : Value) (b0 : List UInt8) (w : World) (v : Value) (ps : List (List UInt8)) (wr : World) : Prop :=
  ∃ vals : List Value, (own 33 1 v ps.length vals * all w).on wr ∧ vals.length = ps.length ∧ (∀ u ∈ vals, u.oneCell' = true) ∧
    ∀ (j : Nat) (u : Value) (l : List UInt8), vals[j]? = some u → ps[j]? = some l → ∀ W, IsBytes W v0 b0 → IsBytes W u l
theorem PartsOf.nil (v0 : Value) (b0 : List UInt8) (w : World) : PartsOf v0 b0 w (.slice Option.none 0 0) [] w := ⟨[], own_nil _ 1 (on_all w), rfl, by simp, fun j u l h => by simp at h⟩
theorem PartsOf.push {v0 : Value} {b0 : List UInt8} {w w2 : World} {v2 x : Value} {ps : List (List UInt8)} {p : List UInt8} {vals : List Value} (hl : vals.length = ps.length) (h1 : ∀ u ∈ vals, u.oneCell' = true)
    (hp : ∀ (j : Nat) (u : Value) (l : List UInt8), vals[j]? = some u → ps[j]? = some l → ∀ W, IsBytes W v0 b0 → IsBytes W u l) (hone : x.oneCell' = true) (hx : ∀ W, IsBytes W v0 b0 → IsBytes W x p) (ho : (own 33 1 v2 (ps.length + 1) (vals ++ [x]) * all w).on w2) : PartsOf v0 b0 w v2 (ps ++ [p]) w2 := by
  refine ⟨vals ++ [x], by rw [List.length_append]; exact ho, by simp [hl], ?_, ?_⟩
  · intro u hu
    simp at hu
    rcases hu with hu | rfl
    · exact h1 u hu
    · exact hone
  · intro j u l hu hl2
    by_cases hj : j < vals.length
    · rw [List.getElem?_append_left hj] at hu
      rw [List.getElem?_append_left (by omega)] at hl2
      exact hp j u l hu hl2
    · have hj2 : j = vals.length := by
        have := (List.getElem?_eq_some_iff.1 hu).1
        simp at this; omega
      subst hj2
      rw [List.getElem?_append_right (by omega)] at hu
      rw [List.getElem?_append_right (by omega)] at hl2
      simp at hu
      simp [hl] at hl2
      subst hu hl2
      exact hx

set_option maxRecDepth 100000 in
set_option maxHeartbeats 4000000 in
theorem parts_of (v : Value) (b : List UInt8) (w : World) (h : IsBytes w v b) (hlen : b.length ≤ 1000000) :
    Calls Try.prog 79 #[v] w fun e w' => ∃ out, e = .returned out ∧ PartsOf v b w out (partsF b) w' ∧ Str w w' := by
  have H := hide h
  obtain ⟨a, c, rfl, hc, hm, _, _⟩ := h
  obtain ⟨ie, hie, hz, hsz, hby⟩ := info_some infoB
  have hue := Try.underlying145
  have Hie := hide hie
  have Hz := hide hz
  have Hsz := hide hsz
  have Hby := hide hby
  clear hie hz hsz hby
  unfold maxLen at hm
  go_enter Try.func79, Try.ntmps79
  go_wp2_with fail
  go_loopw [3, 4, 5] (fun o f i wr => ∃ (from' k : Nat) (ps : List (List UInt8)), k ≤ b.length ∧ from' ≤ k ∧ f = .int .i64 from' ∧ i = .int .i64 k ∧ (∀ j, from' ≤ j → j < k → b.getD j 0 ≠ 192) ∧ ps ++ partsF (b.drop from') = partsF b ∧ ps.length ≤ k ∧ PartsOf (.slice a b.length c) b w o ps wr ∧ Str w wr) (fun _ _ i _ => b.length - (intOf i).toNat)
  case atStart => exact ⟨0, 0, [], by omega, by omega, rfl, rfl, fun j h1 h2 => by omega, by simp, by simp, PartsOf.nil _ _ w, Str.refl _⟩
  case round =>
    obtain ⟨from', k, ps, hk, hfk, rfl, rfl, hno, hps, hpl, hpa, hstr⟩ := hrel
    obtain ⟨vals, ho, hvl, hv1, hvp⟩ := hpa
    by_cases hkl : k < b.length
    · obtain ⟨bv, offv, rfl⟩ : ∃ bv offv, a = some ⟨bv, offv, Option.none⟩ := by
        obtain ⟨_, _, e, _, _, h3, _⟩ := H.out
        simp only [Value.slice.injEq] at e
        obtain ⟨rfl, _, rfl⟩ := e
        exact Lay.isAddr h3 k (by simpa using hkl)
      have cb : wr.cell? ⟨bv, offv + k, Option.none⟩ = some (vb (b.getD k 0)) := by
        obtain ⟨_, _, e, _, _, h3, _⟩ := bytes_all H.out ho.right
        simp only [Value.slice.injEq] at e
        obtain ⟨rfl, _, rfl⟩ := e
        have := Lay.cell h3 k (vbs_get b k hkl)
        rw [this, List.getD_eq_getElem?_getD, List.getElem?_eq_getElem hkl]
        rfl
      by_cases h192 : b.getD k 0 = 192
      · have hpst := parts_step hkl hfk hno h192
        rw [h192] at cb
        have Hps := hide (show (ps ++ [(b.drop from').take (k + 1 - from')]) ++ partsF (b.drop (k + 1)) = partsF b by rw [← hps, hpst]; simp)
        have Hx := hide (fun (W : World) (hW : IsBytes W (.slice (some ⟨bv, offv, Option.none⟩) b.length c) b) => sub_bytes hW from' (k + 1 - from') (by omega))
        have Ho := hide ho
        have Hvl := hide hvl
        have Hv1 := hide hv1
        have Hvp := hide hvp
        have Hstr := hide hstr
        clear ho hvl hv1 hvp hps hpst hno hstr h192
        have e1 : ((k : Int) + 1 - (from' : Int)) = ((k + 1 - from' : Nat) : Int) := by omega
        go_wp2_with (at_builtin; refine wpList_append_sp (F := all w) rfl _ _ 145 rfl 33 ie _ 1 24 hue Hie.out Hz.out Hsz.out Hby.out rfl (by decide) _ ps.length vals rfl (Ho.out.alloc' _) (some ⟨wr.heap.size, 0, Option.none⟩) 1 1 [.slice (some ⟨bv, offv + from', Option.none⟩) (k + 1 - from') (c - from')] rfl (by simp) rfl (Lay.new _ _ _) (by intro u hu; simp at hu; rw [hu]; rfl) (by unfold maxLen; omega) (by omega) ?_; intro v2 w2 ho2 hs2)
        exact ⟨⟨k + 1, k + 1, _, by omega, by omega, by simp, by simp, fun j h1 h2 => by omega, Hps.out, by simp; omega, PartsOf.push Hvl.out Hv1.out Hvp.out rfl Hx.out ho2, (Hstr.out.alloc _).trans hs2⟩, by simp [intOf]; omega⟩
      · have Ho := hide ho
        have Hstr := hide hstr
        have Hpa := hide (show PartsOf _ b w _ ps wr from ⟨vals, ho, hvl, hv1, hvp⟩)
        have Hno := hide (show ∀ j, from' ≤ j → j < k + 1 → b.getD j 0 ≠ 192 from fun j h1 h2 => by
          by_cases h3 : j < k
          · exact hno j h1 h3
          · rw [show j = k by omega]; exact h192)
        have e0 := bne_u8 h192
        rw [show (((192 : UInt8).toNat : Nat) : Int) = 192 from rfl] at e0
        have Hps := hide hps
        clear ho hvl hv1 hvp hps hno hstr h192
        generalize b.getD k 0 = cc at cb e0
        go_wp2_with fail
        exact ⟨⟨from', k + 1, ps, by omega, by omega, rfl, by simp, Hno.out, Hps.out, by omega, Hpa.out, Hstr.out⟩, by simp [intOf]; omega⟩
    · have hkb : k = b.length := by omega
      subst hkb
      rw [parts_last hno] at hps
      have Hps := hide hps
      have Ho := hide ho
      have Hvl := hide hvl
      have Hv1 := hide hv1
      have Hvp := hide hvp
      have Hstr := hide hstr
      clear ho hvl hv1 hvp hps hno hstr
      cases a with
      | none =>
        obtain ⟨_, _, e, _, _, _, hn⟩ := H.out
        simp only [Value.slice.injEq] at e
        obtain ⟨rfl, _, rfl⟩ := e
        have hc0 := hn rfl
        subst hc0
        have hb0 : b.length = 0 := by omega
        have hf0 : from' = 0 := by omega
        subst hf0
        have Hx : Hid (∀ W, IsBytes W (.slice Option.none b.length 0) b → IsBytes W (.slice Option.none 0 0) (b.drop 0)) := hide (fun W _ => by
          have : b = [] := List.length_eq_zero_iff.1 hb0
          rw [this]; exact IsBytes.nil W)
        clear hn
        go_wp2_with (at_builtin; refine wpList_append_sp (F := all w) rfl _ _ 145 rfl 33 ie _ 1 24 hue Hie.out Hz.out Hsz.out Hby.out rfl (by decide) _ ps.length vals rfl (Ho.out.alloc' _) (some ⟨wr.heap.size, 0, Option.none⟩) 1 1 [.slice Option.none 0 0] rfl (by simp) rfl (Lay.new _ _ _) (by intro u hu; simp at hu; rw [hu]; rfl) (by unfold maxLen; omega) (by omega) ?_; intro v2 w2 ho2 hs2)
        go_wp2_with fail
        go_ret
        exact ⟨_, rfl, by rw [← Hps.out]; have h9 := PartsOf.push Hvl.out Hv1.out Hvp.out rfl Hx.out ho2; rw [hb0] at h9; exact h9, (Hstr.out.alloc _).trans hs2⟩
      | some ad =>
        by_cases hb0 : b.length = 0
        · have hf0 : from' = 0 := by omega
          subst hf0
          have Hx : Hid (∀ W, IsBytes W (.slice (some ad) b.length c) b → IsBytes W (.slice (some ad) 0 c) (b.drop 0)) := hide (fun W _ => by
            have : b = [] := List.length_eq_zero_iff.1 hb0
            rw [this]; exact ⟨_, _, rfl, Nat.zero_le _, by unfold maxLen; omega, Lay.nil _ _, by simp⟩)
          go_wp2_with (at_builtin; refine wpList_append_sp (F := all w) rfl _ _ 145 rfl 33 ie _ 1 24 hue Hie.out Hz.out Hsz.out Hby.out rfl (by decide) _ ps.length vals rfl (Ho.out.alloc' _) (some ⟨wr.heap.size, 0, Option.none⟩) 1 1 [.slice (some ad) 0 c] rfl (by simp) rfl (Lay.new _ _ _) (by intro u hu; simp at hu; rw [hu]; rfl) (by unfold maxLen; omega) (by omega) ?_; intro v2 w2 ho2 hs2)
          go_wp2_with fail
          go_ret
          exact ⟨_, rfl, by rw [← Hps.out]; exact PartsOf.push Hvl.out Hv1.out Hvp.out rfl Hx.out ho2, (Hstr.out.alloc _).trans hs2⟩
        obtain ⟨bv, offv, hp⟩ : ∃ bv offv, ad = ⟨bv, offv, Option.none⟩ := by
          obtain ⟨_, _, e, _, _, h3, _⟩ := H.out
          simp only [Value.slice.injEq] at e
          obtain ⟨he, _, _⟩ := e
          obtain ⟨x, y, hxy⟩ := Lay.isAddr h3 0 (by simp; omega)
          rw [← he] at hxy
          exact ⟨x, y, Option.some.inj hxy⟩
        subst hp
        by_cases hfc : from' = c
        · have hbc : b.length = c := by omega
          have Hx : Hid (∀ W, IsBytes W (.slice (some ⟨bv, offv, Option.none⟩) b.length c) b → IsBytes W (.slice (some ⟨bv, offv, Option.none⟩) 0 0) (b.drop from')) := hide (fun W _ => by
            rw [List.drop_eq_nil_of_le (by omega)]
            exact ⟨_, _, rfl, Nat.zero_le _, Nat.zero_le _, Lay.nil _ _, by simp⟩)
          subst hfc
          go_wp2_with (at_builtin; refine wpList_append_sp (F := all w) rfl _ _ 145 rfl 33 ie _ 1 24 hue Hie.out Hz.out Hsz.out Hby.out rfl (by decide) _ ps.length vals rfl (Ho.out.alloc' _) (some ⟨wr.heap.size, 0, Option.none⟩) 1 1 [.slice (some ⟨bv, offv, Option.none⟩) 0 0] rfl (by simp) rfl (Lay.new _ _ _) (by intro u hu; simp at hu; rw [hu]; rfl) (by unfold maxLen; omega) (by omega) ?_; intro v2 w2 ho2 hs2)
          go_wp2_with fail
          go_ret
          exact ⟨_, rfl, by rw [← Hps.out]; exact PartsOf.push Hvl.out Hv1.out Hvp.out rfl Hx.out ho2, (Hstr.out.alloc _).trans hs2⟩
        · have hfc2 : from' < c := by omega
          have Hx : Hid (∀ W, IsBytes W (.slice (some ⟨bv, offv, Option.none⟩) b.length c) b → IsBytes W (.slice (some ⟨bv, offv + from', Option.none⟩) (b.length - from') (c - from')) (b.drop from')) := hide (fun W hW => by
            have := sub_bytes hW from' (b.length - from') (by omega)
            rw [List.take_of_length_le (by simp)] at this
            exact this)
          clear hfc
          go_wp2_with (at_builtin; refine wpList_append_sp (F := all w) rfl _ _ 145 rfl 33 ie _ 1 24 hue Hie.out Hz.out Hsz.out Hby.out rfl (by decide) _ ps.length vals rfl (Ho.out.alloc' _) (some ⟨wr.heap.size, 0, Option.none⟩) 1 1 [.slice (some ⟨bv, offv + from', Option.none⟩) (b.length - from') (c - from')] rfl (by simp) rfl (Lay.new _ _ _) (by intro u hu; simp at hu; rw [hu]; rfl) (by unfold maxLen; omega) (by omega) ?_; intro v2 w2 ho2 hs2)
          go_wp2_with fail
          go_ret
          exact ⟨_, rfl, by rw [← Hps.out]; exact PartsOf.push Hvl.out Hv1.out Hvp.out rfl Hx.out ho2, (Hstr.out.alloc _).trans hs2⟩
end Go.Proofs.Ytjmgnfpcieofkaa
