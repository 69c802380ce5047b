/- packet: a packet's items, and their bytes. -/
import Derived.Test.YtgkofpfjbjnhfaaGreatDoorPk1
import Derived.Test.YtgkofpfjbjnhfaaGreatDoorTlv3
namespace Go.Proofs.YtgkofpfjbjnhfaaGreatDoor
open Go.ChangeShapes Go.WideShapes Go.ChangeAt Go.RowKit
set_option linter.unusedVariables false
set_option linter.unusedSimpArgs false

theorem run_append_full {P : Program} {w : World} (t ty e : TypeId) (i : TypeInfo) (z : Value) (size bytes : Nat) (ht : P.underlying t = some (.slice e)) (hi : P.info? e = some i) (hz : i.zero = some z)
    (hsize : i.size = size) (hby : i.bytes = bytes) (hzs : z.cells.size = size) (hsz : 0 < size)
    (g n cap : Nat) (xs : List Value) (hx : xs.length = n * size) (hlay : Lay w (some ⟨g, 0, Option.none⟩) xs)
    (a : Addr) (m c : Nat) (hfull : cap < n + m) (news : List Value) (hl : news.length = m * size) (hnews : Lay w (some a) news)
    (h63 : n + m ≤ maxLen) (hbytes : (n + m) * bytes ≤ 140737488355328) (hm : 0 < m) :
    ∃ v' w', (Builtin.append_ #[t, t] ty #[.slice (some ⟨g, 0, Option.none⟩) n cap, .slice (some a) m c]).run P w = .ok v' w' ∧ (own e size v' (n + m) (xs ++ news) * all w).on w' ∧ Stay w w' := by
  have hlenx : (xs ++ news).length = (n + m) * size := by rw [List.length_append, hx, hl, Nat.add_mul]
  have hnews' : ∀ j u, news[j]? = some u → w.cell? (a.add j) = some u := by
    intro j u hu
    obtain ⟨b, off, e1, e2⟩ := hnews j u hu
    cases e1
    have : (⟨b, off, Option.none⟩ : Addr).add j = ⟨b, off + j, Option.none⟩ := by unfold Addr.add; split <;> simp_all
    rw [this]; exact e2
  have holds : ∀ j u, xs[j]? = some u → w.cell? ((⟨g, 0, Option.none⟩ : Addr).add j) = some u := by
    intro j u hu
    obtain ⟨b, off, e1, e2⟩ := hlay j u hu
    cases e1
    have : (⟨g, 0, Option.none⟩ : Addr).add j = ⟨g, 0 + j, Option.none⟩ := by unfold Addr.add; split <;> simp_all
    rw [this]; exact e2
  subst hsize
  subst hby
  have hsmall : n + m ≤ 9223372036854775807 := by simp only [maxLen] at h63; omega
  have hr := run_append_grow (P := P) w t ty e i z ht hi hz ⟨g, 0, Option.none⟩ n cap xs hx holds a m c news hl hnews' (by omega) (by omega) (growslice_fits (by omega) hbytes)
  have hge := grownCap_ge w (n + m) cap e
  have hle := grownCap_le_maxLen w (n + m) cap e h63
  refine ⟨_, _, hr, own_of_blk (SP.on.alloc (w := w.drew) (on_all w).drew _) hlenx hge hle ?_ ?_, ((Below.refl _ _).drew).alloc (by simp) _⟩
  · simp only [Array.size_append, List.size_toArray, size_zeroCells, hzs]
    rw [show xs.length + news.length = (n + m) * i.size by simpa using hlenx, ← Nat.add_mul]
    congr 1
    omega
  · simp only [Array.toList_append]
    rw [← hlenx]
    exact List.take_left

/-- a packet's items, as they stand somewhere -/
def DescP (p : PkS) (u : Value) (Y : World) : Prop := ∃ g L, u = .slice (some ⟨g, 0, Option.none⟩) 5 5 ∧ L.map Prod.snd = descI p ∧ Lay Y (some ⟨g, 0, Option.none⟩) (itCells L) ∧ ∀ (i : Nat) (v : Value) (e : TItem), L[i]? = some (v, e) → IsBytes Y v e.value
theorem DescP.below {p : PkS} {u : Value} {X Y : World} (h : DescP p u X) (k : Stay X Y) : DescP p u Y := by
  obtain ⟨g, L, h1, h2, h3, h4⟩ := h
  exact ⟨g, L, h1, h2, h3.below k, fun i v e he => (h4 i v e he).below k⟩
theorem DescP.items {p : PkS} {u : Value} {X : World} (h : DescP p u X) : ∃ L, L.map Prod.snd = descI p ∧ IsItems X u L := by
  obtain ⟨g, L, h1, h2, h3, h4⟩ := h
  have hl : L.length = 5 := by have := congrArg List.length h2; simpa [descI] using this
  exact ⟨L, h2, _, _, by rw [hl]; exact h1, by omega, by decide, h3, h4⟩
/-- an item as a value -/
def ItP (t : UInt8) (l : List UInt8) (u : Value) (X : World) : Prop := ∃ v, u = .agg #[vb t, v] ∧ IsBytes X v l
theorem ItP.below {t : UInt8} {l : List UInt8} {u : Value} {X Y : World} (h : ItP t l u X) (k : Stay X Y) : ItP t l u Y := by
  obtain ⟨v, h1, h2⟩ := h
  exact ⟨v, h1, h2.below k⟩
def ItsP (p : PkS) (u : Value) (X : World) : Prop := ∃ L, L.map Prod.snd = allI p ∧ IsItems X u L
theorem ItsP.below {p : PkS} {u : Value} {X Y : World} (h : ItsP p u X) (k : Stay X Y) : ItsP p u Y := by
  obtain ⟨L, h1, h2⟩ := h
  exact ⟨L, h1, h2.below k⟩
/-- a row that a call made, somewhere -/
def MadeP (w : World) (l : List UInt8) (u : Value) (Y : World) : Prop := (ownT u l * all w).on Y ∧ Str w Y
theorem MadeP.below {w : World} {l : List UInt8} {u : Value} {X Y : World} (h : MadeP w l u X) (k : Stay X Y) : MadeP w l u Y := ⟨SP.on.below h.1 k, h.2.trans (Str.below k)⟩

set_option maxRecDepth 100000 in
set_option maxHeartbeats 4000000 in
theorem encoded_any (v : Value) (L : List (Value × TItem)) (w : World) (h : IsItems w v L) (hlen : L.length ≤ 1000) (hvl : ∀ (i : Nat) (u : Value) (e : TItem), L[i]? = some (u, e) → e.value.length ≤ 1000) :
    Calls Tryz.prog 59 #[v] w (Makes w fun v => ownT v (encodeF 0 0 (L.map Prod.snd) []).1) := by
  have hE := tencode_any v L w h (by omega) (fun i u e he => Nat.le_trans (hvl i u e he) (by omega))
  obtain ⟨a, c, rfl, _, _, _, _⟩ := h
  go_enter Tryz.func59, Tryz.ntmps59
  go_wp2_with fail
  refine hE.mono ?_
  clear hE
  rintro e w2 ⟨out, rfl, ho, hs⟩
  have HO := hide ho
  have HS := hide hs
  clear ho hs
  go_wp2_with fail
  go_ret
  exact ⟨_, rfl, HO.out, HS.out⟩

theorem itCells_len : ∀ (L : List (Value × TItem)), (itCells L).length = L.length * 2
  | [] => rfl
  | y :: t => by
    show (vb y.2.tag :: y.1 :: itCells t).length = _
    simp only [List.length_cons, itCells_len t]
    omega
theorem desc_new (p : PkS) (X : World) (v1 v2 v3 v4 v5 : Value) (h1 : IsBytes X v1 (wordB p.hw)) (h2 : IsBytes X v2 [p.ty]) (h3 : IsBytes X v3 (wordB p.ver)) (h4 : IsBytes X v4 (wordB p.sz)) (h5 : IsBytes X v5 p.hash) :
    DescP p (.slice (some ⟨X.heap.size, 0, Option.none⟩) 5 5) (X.alloc (.cells #[vb 1, v1, vb 2, v2, vb 3, v3, vb 4, v4, vb 5, v5] 109)) := by
  have hB : Stay X (X.alloc (.cells #[vb 1, v1, vb 2, v2, vb 3, v3, vb 4, v4, vb 5, v5] 109)) := (Below.refl _ _).alloc (Nat.le_refl _) _
  refine ⟨_, [(v1, ⟨1, wordB p.hw⟩), (v2, ⟨2, [p.ty]⟩), (v3, ⟨3, wordB p.ver⟩), (v4, ⟨4, wordB p.sz⟩), (v5, ⟨5, p.hash⟩)], rfl, rfl, Lay.new X [vb 1, v1, vb 2, v2, vb 3, v3, vb 4, v4, vb 5, v5] _, ?_⟩
  intro i v e he
  match i, he with
  | 0, he => obtain ⟨rfl, rfl⟩ := Prod.mk.inj (Option.some.inj he); exact h1.below hB
  | 1, he => obtain ⟨rfl, rfl⟩ := Prod.mk.inj (Option.some.inj he); exact h2.below hB
  | 2, he => obtain ⟨rfl, rfl⟩ := Prod.mk.inj (Option.some.inj he); exact h3.below hB
  | 3, he => obtain ⟨rfl, rfl⟩ := Prod.mk.inj (Option.some.inj he); exact h4.below hB
  | 4, he => obtain ⟨rfl, rfl⟩ := Prod.mk.inj (Option.some.inj he); exact h5.below hB
  | n + 5, he => simp at he
theorem part_at {X : World} {g : Nat} {cs : Array Value} {t : TypeId} {fr : Nat × Nat} (h : X.heap[g]? = some (.cells cs t fr)) : ∀ j v, cs[j]? = some v → X.cell? ⟨g, 0 + j, Option.none⟩ = some v := fun j v hj => by
  rw [Nat.zero_add, cell_of_row _ _ _ _ _ _ h]
  exact hj

set_option maxRecDepth 100000 in
set_option maxHeartbeats 4000000 in
theorem described_any (p : PkS) (hpk : p.Ok) (w : World) : Calls Tryz.prog 60 #[.agg (pkC p)] w fun e w' => ∃ u, e = .returned u ∧ DescP p u w' ∧ Below w.heap.size w w' := by
  have hud := Tryz.underlying33
  have hr := heap_alloc_new w (.cells (pkC p) 37)
  have HC : Hid (∀ X, Stay (w.alloc (.cells (pkC p) 37)) X → X.cell? ⟨w.heap.size, 0, Option.none⟩ = some (.int .u32 p.hw) ∧ X.cell? ⟨w.heap.size, 1, Option.none⟩ = some (vb p.ty) ∧ X.cell? ⟨w.heap.size, 2, Option.none⟩ = some (.int .u32 p.ver) ∧ X.cell? ⟨w.heap.size, 3, Option.none⟩ = some (.int .u32 p.sz)) := hide fun X hT => pk_cells p X w.heap.size _ ((hT.block _ (by simp)).trans hr)
  have HH : Hid (∀ X, Stay (w.alloc (.cells (pkC p) 37)) X → IsBytes X (.slice (some ⟨w.heap.size, 4, Option.none⟩) 32 32) p.hash) := hide fun X hT => ⟨_, _, by rw [hpk.hash], by rw [hpk.hash]; omega, by decide, pk_hash hpk X w.heap.size _ ((hT.block _ (by simp)).trans hr), fun h => (nomatch h)⟩
  have HB := hide ((Below.refl w.heap.size w).alloc (Nat.le_refl _) (.cells (pkC p) 37))
  clear hr
  go_enter Tryz.func60, Tryz.ntmps60
  generalize hC : pkC p = C at *
  go_wp2_with fail
  refine wp_region_vs [isV (.pointer (some ⟨w.heap.size, 0, Option.none⟩)), isV (.int .u32 (p.hw : Int)), fun v X => IsBytes X v (wordB p.hw), fun v X => ItP 1 (wordB p.hw) v X, isV (.pointer (some ⟨w.heap.size, 1, Option.none⟩)), isV (vb p.ty), fun v X => IsBytes X v ([p.ty]), fun v X => ItP 2 ([p.ty]) v X, isV (.pointer (some ⟨w.heap.size, 2, Option.none⟩)), isV (.int .u32 (p.ver : Int)), fun v X => IsBytes X v (wordB p.ver), fun v X => ItP 3 (wordB p.ver) v X, isV (.pointer (some ⟨w.heap.size, 3, Option.none⟩)), isV (.int .u32 (p.sz : Int)), fun v X => IsBytes X v (wordB p.sz), fun v X => ItP 4 (wordB p.sz) v X, isV (.pointer (some ⟨w.heap.size, 4, Option.none⟩)), isV (.slice (some ⟨w.heap.size, 4, Option.none⟩) 32 32), fun v X => ItP 5 (p.hash) v X, fun v X => DescP p v X, fun v X => DescP p v X]
    (by kernel_rfl) (by kernel_rfl) rfl ?keep ?todo ?rest
  case keep => exact ⟨Keep.isV _, Keep.isV _, fun _ _ _ h k => IsBytes.below h k, fun _ _ _ h k => ItP.below h k, Keep.isV _, Keep.isV _, fun _ _ _ h k => IsBytes.below h k, fun _ _ _ h k => ItP.below h k, Keep.isV _, Keep.isV _, fun _ _ _ h k => IsBytes.below h k, fun _ _ _ h k => ItP.below h k, Keep.isV _, Keep.isV _, fun _ _ _ h k => IsBytes.below h k, fun _ _ _ h k => ItP.below h k, Keep.isV _, Keep.isV _, fun _ _ _ h k => ItP.below h k, fun _ _ _ h k => DescP.below h k, fun _ _ _ h k => DescP.below h k, trivial⟩
  case todo =>
    refine ⟨?_, ?_, ?_, ?_, ?_, ?_, ?_, ?_, ?_, ?_, ?_, ?_, ?_, ?_, ?_, ?_, ?_, ?_, ?_, ?_, ?_, trivial⟩
    · intro ev X hT hb hk hf
      have e0 : ev (.tmp 1) = .pointer (some ⟨w.heap.size, 0, Option.none⟩) := hk.1
      exact OpOk.run (v := .pointer (some ⟨w.heap.size, 0, Option.none⟩)) (W' := X) (by simp [execOp, e0, hb.1, go_sem]) ⟨rfl, Stay.refl _⟩
    · intro ev X hT hb hk hf
      have e0 : ev (.tmp 3) = .pointer (some ⟨w.heap.size, 0, Option.none⟩) := hf.1
      have cW := ((HC.out X hT).1)
      exact OpOk.run (v := .int .u32 (p.hw : Int)) (W' := X) (by simp [execOp, e0, cW, go_sem]) ⟨rfl, Stay.refl _⟩
    · intro ev X hT hb hk hf
      have e0 : ev (.tmp 4) = .int .u32 (p.hw : Int) := hf.1
      refine OpOk.enters (f := 77) (args := #[.int .u32 (p.hw : Int)]) (W' := X) (by simp [execOp, resolve, invoke, e0, hb.1, hb.2.1, go_sem]) ((bytesOf_any p.hw X).mono ?_)
      rintro e X2 ⟨v5, rfl, h5, h6⟩
      exact ⟨_, rfl, own_bytes h5, all_below h5.right h6⟩
    · intro ev X hT hb hk hf
      have e0 : IsBytes X (ev (.tmp 5)) (wordB p.hw) := hf.1
      have e0' := e0
      obtain ⟨a5, c5, k5, _, _, _, _⟩ := e0'
      exact OpOk.run (v := .agg #[vb 1, .slice a5 (wordB p.hw).length c5]) (W' := X) (by simp [execOp, k5, hb.1, go_sem]) ⟨⟨_, rfl, by rw [← k5]; exact e0⟩, Stay.refl _⟩
    · intro ev X hT hb hk hf
      have e0 : ev (.tmp 1) = .pointer (some ⟨w.heap.size, 0, Option.none⟩) := hk.1
      exact OpOk.run (v := .pointer (some ⟨w.heap.size, 1, Option.none⟩)) (W' := X) (by simp [execOp, e0, hb.1, go_sem]) ⟨rfl, Stay.refl _⟩
    · intro ev X hT hb hk hf
      have e0 : ev (.tmp 7) = .pointer (some ⟨w.heap.size, 1, Option.none⟩) := hf.1
      have cW := ((HC.out X hT).2.1)
      exact OpOk.run (v := vb p.ty) (W' := X) (by simp [execOp, e0, cW, go_sem]) ⟨rfl, Stay.refl _⟩
    · intro ev X hT hb hk hf
      have e0 : ev (.tmp 8) = vb p.ty := hf.1
      exact OpOk.run (v := .slice (some ⟨X.heap.size, 0, Option.none⟩) 1 1) (W' := X.alloc (.cells #[vb p.ty] 5)) (by simp [execOp, e0, go_sem]) ⟨IsBytes.new X [p.ty] (by simp [maxLen]) _, (Below.refl _ _).alloc (Nat.le_refl _) _⟩
    · intro ev X hT hb hk hf
      have e0 : IsBytes X (ev (.tmp 9)) ([p.ty]) := hf.1
      have e0' := e0
      obtain ⟨a5, c5, k5, _, _, _, _⟩ := e0'
      exact OpOk.run (v := .agg #[vb 2, .slice a5 ([p.ty]).length c5]) (W' := X) (by simp [execOp, k5, hb.1, go_sem]) ⟨⟨_, rfl, by rw [← k5]; exact e0⟩, Stay.refl _⟩
    · intro ev X hT hb hk hf
      have e0 : ev (.tmp 1) = .pointer (some ⟨w.heap.size, 0, Option.none⟩) := hk.1
      exact OpOk.run (v := .pointer (some ⟨w.heap.size, 2, Option.none⟩)) (W' := X) (by simp [execOp, e0, hb.1, go_sem]) ⟨rfl, Stay.refl _⟩
    · intro ev X hT hb hk hf
      have e0 : ev (.tmp 11) = .pointer (some ⟨w.heap.size, 2, Option.none⟩) := hf.1
      have cW := ((HC.out X hT).2.2.1)
      exact OpOk.run (v := .int .u32 (p.ver : Int)) (W' := X) (by simp [execOp, e0, cW, go_sem]) ⟨rfl, Stay.refl _⟩
    · intro ev X hT hb hk hf
      have e0 : ev (.tmp 12) = .int .u32 (p.ver : Int) := hf.1
      refine OpOk.enters (f := 77) (args := #[.int .u32 (p.ver : Int)]) (W' := X) (by simp [execOp, resolve, invoke, e0, hb.1, hb.2.1, go_sem]) ((bytesOf_any p.ver X).mono ?_)
      rintro e X2 ⟨v5, rfl, h5, h6⟩
      exact ⟨_, rfl, own_bytes h5, all_below h5.right h6⟩
    · intro ev X hT hb hk hf
      have e0 : IsBytes X (ev (.tmp 13)) (wordB p.ver) := hf.1
      have e0' := e0
      obtain ⟨a5, c5, k5, _, _, _, _⟩ := e0'
      exact OpOk.run (v := .agg #[vb 3, .slice a5 (wordB p.ver).length c5]) (W' := X) (by simp [execOp, k5, hb.1, go_sem]) ⟨⟨_, rfl, by rw [← k5]; exact e0⟩, Stay.refl _⟩
    · intro ev X hT hb hk hf
      have e0 : ev (.tmp 1) = .pointer (some ⟨w.heap.size, 0, Option.none⟩) := hk.1
      exact OpOk.run (v := .pointer (some ⟨w.heap.size, 3, Option.none⟩)) (W' := X) (by simp [execOp, e0, hb.1, go_sem]) ⟨rfl, Stay.refl _⟩
    · intro ev X hT hb hk hf
      have e0 : ev (.tmp 15) = .pointer (some ⟨w.heap.size, 3, Option.none⟩) := hf.1
      have cW := ((HC.out X hT).2.2.2)
      exact OpOk.run (v := .int .u32 (p.sz : Int)) (W' := X) (by simp [execOp, e0, cW, go_sem]) ⟨rfl, Stay.refl _⟩
    · intro ev X hT hb hk hf
      have e0 : ev (.tmp 16) = .int .u32 (p.sz : Int) := hf.1
      refine OpOk.enters (f := 77) (args := #[.int .u32 (p.sz : Int)]) (W' := X) (by simp [execOp, resolve, invoke, e0, hb.1, hb.2.1, go_sem]) ((bytesOf_any p.sz X).mono ?_)
      rintro e X2 ⟨v5, rfl, h5, h6⟩
      exact ⟨_, rfl, own_bytes h5, all_below h5.right h6⟩
    · intro ev X hT hb hk hf
      have e0 : IsBytes X (ev (.tmp 17)) (wordB p.sz) := hf.1
      have e0' := e0
      obtain ⟨a5, c5, k5, _, _, _, _⟩ := e0'
      exact OpOk.run (v := .agg #[vb 4, .slice a5 (wordB p.sz).length c5]) (W' := X) (by simp [execOp, k5, hb.1, go_sem]) ⟨⟨_, rfl, by rw [← k5]; exact e0⟩, Stay.refl _⟩
    · intro ev X hT hb hk hf
      have e0 : ev (.tmp 1) = .pointer (some ⟨w.heap.size, 0, Option.none⟩) := hk.1
      exact OpOk.run (v := .pointer (some ⟨w.heap.size, 4, Option.none⟩)) (W' := X) (by simp [execOp, e0, hb.1, go_sem]) ⟨rfl, Stay.refl _⟩
    · intro ev X hT hb hk hf
      have e0 : ev (.tmp 19) = .pointer (some ⟨w.heap.size, 4, Option.none⟩) := hf.1
      exact OpOk.run (v := .slice (some ⟨w.heap.size, 4, Option.none⟩) 32 32) (W' := X) (by have h9 := arr_whole 33 32 hud w.heap.size 4 X; simp [execOp, e0, hb.1, h9, go_sem]) ⟨rfl, Stay.refl _⟩
    · intro ev X hT hb hk hf
      have e0 : ev (.tmp 20) = .slice (some ⟨w.heap.size, 4, Option.none⟩) 32 32 := hf.1
      exact OpOk.run (v := .agg #[vb 5, .slice (some ⟨w.heap.size, 4, Option.none⟩) 32 32]) (W' := X) (by simp [execOp, e0, hb.1, go_sem]) ⟨⟨_, rfl, HH.out X hT⟩, Stay.refl _⟩
    · intro ev X hT hb hk hf
      have e0 : ItP 1 (wordB p.hw) (ev (.tmp 6)) X := hf.1
      have e1 : ItP 2 ([p.ty]) (ev (.tmp 10)) X := hf.2.1
      have e2 : ItP 3 (wordB p.ver) (ev (.tmp 14)) X := hf.2.2.1
      have e3 : ItP 4 (wordB p.sz) (ev (.tmp 18)) X := hf.2.2.2.1
      have e4 : ItP 5 (p.hash) (ev (.tmp 21)) X := hf.2.2.2.2.1
      obtain ⟨v1, k1, q1⟩ := e0
      obtain ⟨v2, k2, q2⟩ := e1
      obtain ⟨v3, k3, q3⟩ := e2
      obtain ⟨v4, k4, q4⟩ := e3
      obtain ⟨v5, k5, q5⟩ := e4
      have r1 := q1
      obtain ⟨a1, c1, rfl, _, _, _, _⟩ := r1
      have r2 := q2
      obtain ⟨a2, c2, rfl, _, _, _, _⟩ := r2
      have r3 := q3
      obtain ⟨a3, c3, rfl, _, _, _, _⟩ := r3
      have r4 := q4
      obtain ⟨a4, c4, rfl, _, _, _, _⟩ := r4
      have r5 := q5
      obtain ⟨a5, c5, rfl, _, _, _, _⟩ := r5
      exact OpOk.run (v := .slice (some ⟨X.heap.size, 0, Option.none⟩) 5 5) (W' := X.alloc (.cells #[vb 1, .slice a1 _ c1, vb 2, .slice a2 _ c2, vb 3, .slice a3 _ c3, vb 4, .slice a4 _ c4, vb 5, .slice a5 _ c5] 109)) (by simp [execOp, k1, k2, k3, k4, k5, hb.1, go_sem]) ⟨desc_new p X _ _ _ _ _ q1 q2 q3 q4 q5, (Below.refl _ _).alloc (Nat.le_refl _) _⟩
    · intro ev X hT hb hk hf
      have e0 : DescP p (ev (.tmp 22)) X := hf.1
      exact OpOk.assign rfl rfl ⟨e0, Stay.refl _⟩
  case rest =>
    intro X hT
    rintro _ rfl _ rfl _ - _ - _ rfl _ rfl _ - _ - _ rfl _ rfl _ - _ - _ rfl _ rfl _ - _ - _ rfl _ rfl _ - v19 h19 v20 h20
    have h9 : DescP p v20 X := h20
    have H9 := hide h9
    obtain ⟨g9, L9, rfl, _, _, _⟩ := h9
    have HBB := hide (HB.out.trans (hT.mono (by simp)))
    clear hT h19 h20
    go_wp2
    refine Rest.done ?_
    go_wp2_with fail
    go_ret
    exact ⟨_, rfl, H9.out, HBB.out⟩

set_option maxRecDepth 100000 in
set_option maxHeartbeats 4000000 in
theorem psigned_any (p : PkS) (hpk : p.Ok) (w : World) : Calls Tryz.prog 45 #[.agg (pkC p)] w (Makes w fun v => ownT v (signedB p)) := by
  have hup := Tryz.underlying37
  have HSz : Hid ((Tryz.prog.info? 37).map (·.size) = some (pkC p).size) := hide (by rw [pkC_size hpk]; kernel_rfl)
  have Hr := hide (heap_alloc_new w (.cells (pkC p) 37))
  have hD := described_any p hpk (w.alloc (.cells (pkC p) 37))
  have HA := hide ((on_all w).alloc (.cells (pkC p) 37)).right
  have HSt := hide ((Str.refl w).alloc (.cells (pkC p) 37))
  generalize hC : pkC p = C at *
  go_enter Tryz.func45, Tryz.ntmps45
  go_wp2_with (refine wpList_load_row rfl _ _ rfl w.heap.size rfl _ C _ _ Hr.out hup rfl HSz.out ?_)
  refine hD.mono ?_
  clear hD
  rintro e w2 ⟨u, rfl, hd, hb⟩
  have HA2 := hide (SP.on.below HA.out hb)
  have HS2 := hide (HSt.out.trans (Str.below hb))
  obtain ⟨L, hL, hI⟩ := hd.items
  have hE := encoded_any u L w2 hI (by have := congrArg List.length hL; simp [descI] at this; omega) (fun i v e he => by
    have h1 : e ∈ L.map Prod.snd := List.mem_map.2 ⟨(v, e), List.mem_of_getElem? he, rfl⟩
    rw [hL] at h1
    simp only [descI, List.mem_cons, List.not_mem_nil, or_false] at h1
    rcases h1 with rfl | rfl | rfl | rfl | rfl <;> simp [wordB_len, hpk.hash])
  rw [hL, enc_desc hpk] at hE
  obtain ⟨g9, L9, rfl, _, _, _⟩ := hd
  clear hb hL hI
  go_wp2_with fail
  refine hE.mono ?_
  clear hE
  rintro e w3 ⟨v, rfl, ho, hs⟩
  have H3 := hide (on_all_to ho HA2.out)
  have HS3 := hide (HS2.out.trans hs)
  obtain ⟨va, vc, rfl, _, _, _, _⟩ := own_value ho
  clear ho hs
  go_wp2_with fail
  go_ret
  exact ⟨_, rfl, H3.out, HS3.out⟩

theorem its_len {p : PkS} {L : List (Value × TItem)} (hL : L.map Prod.snd = allI p) : L.length ≤ 1000 := by
  have := congrArg List.length hL; simp [allI, descI] at this; omega
theorem its_short {p : PkS} (hk : p.Ok) {L : List (Value × TItem)} (hL : L.map Prod.snd = allI p) : ∀ (i : Nat) (u : Value) (e : TItem), L[i]? = some (u, e) → e.value.length ≤ 1000 := fun i v e he => by
  have h1 : e ∈ L.map Prod.snd := List.mem_map.2 ⟨(v, e), List.mem_of_getElem? he, rfl⟩
  rw [hL] at h1
  simp only [allI, descI, List.cons_append, List.nil_append, List.mem_cons, List.not_mem_nil, or_false] at h1
  rcases h1 with rfl | rfl | rfl | rfl | rfl | rfl <;> simp [wordB_len, hk.hash, hk.sig]
theorem OpOk.append_pk {o : Oper} {ev : Operand → Value} {W : World} (p : PkS) (hk : p.Ok) {s x : Operand} {sv : Value} (ho : o.op = .call { callee := .builtin .append, args := #[s, x], argTypes := #[91, 91] })
    (hs : DescP p (ev s) W) (hx : ∃ b, ev x = .slice (some ⟨b, 0, Option.none⟩) 1 1 ∧ Lay W (some ⟨b, 0, Option.none⟩) [vb 6, sv]) (hb : IsBytes W sv p.sig) : OpOk Tryz.prog o ev W (fun v Y => ItsP p v Y ∧ Stay W Y) := by
  obtain ⟨g, L, h1, h2, h3, h4⟩ := hs
  obtain ⟨b, h5, h6⟩ := hx
  have hl : L.length = 5 := by have := congrArg List.length h2; simpa [descI] using this
  have hc : (itCells L).length = 10 := by rw [itCells_len, hl]
  obtain ⟨i, hq, hz, hsz, hby⟩ := info_some infoItem
  obtain ⟨v', w', hr, h7, h8⟩ := run_append_full (P := Tryz.prog) 91 o.type 109 i _ 2 32 Tryz.underlying91 hq hz hsz hby rfl (by decide) g 5 5 (itCells L) (by rw [hc]) h3 ⟨b, 0, Option.none⟩ 1 1 (by decide) [vb 6, sv] rfl h6 (by decide) (by decide) (by decide)
  unfold OpOk execOp
  simp only [ho, resolve, invoke, builtin, Sem.run_bind, Sem.run_pure, Result.andThen_ok, List.map_toArray, List.map_cons, List.map_nil, h1, h5, hr]
  refine ⟨⟨L ++ [(sv, ⟨6, p.sig⟩)], by rw [List.map_append, h2]; rfl, ?_⟩, h8⟩
  have e1 : itCells L ++ [vb 6, sv] = itCells (L ++ [(sv, ⟨6, p.sig⟩)]) := (itCells_snoc L (sv, ⟨6, p.sig⟩)).symm
  rw [e1] at h7
  obtain ⟨a, c, e2, e3, e4, e5, _⟩ := own_value h7
  refine ⟨a, c, by rw [e2, List.length_append, hl]; rfl, by rw [List.length_append, hl]; exact e3, e4, e5, ?_⟩
  intro i v e he
  rcases Nat.lt_or_ge i 5 with hi | hi
  · rw [List.getElem?_append_left (by omega)] at he
    exact (h4 i v e he).below h8
  · rw [List.getElem?_append_right (by omega), hl] at he
    match i - 5, he with
    | 0, he => obtain ⟨rfl, rfl⟩ := Prod.mk.inj (Option.some.inj he); exact hb.below h8
    | n + 1, he => simp at he

end Go.Proofs.YtgkofpfjbjnhfaaGreatDoor
