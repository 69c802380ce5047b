/- LAID TOGETHER: UB1, UB2. -/
import Derived.RangeFuncNested
import Derived.RangeFuncBound
import Derived.RangeFuncCalls
import Derived.RangeFuncLeaves
import Derived.RangeFuncBox
import Derived.Shelf.Abstract
import Derived.Shelf.RegionOpen
import Derived.WalkKit
import Derived.OwnWalkIn
import Derived.TacticsInMore
import Derived.LoopNIn
import Derived.LoopIn
import Derived.Maps.AppendAt
import Derived.Test.YtjmgnfpcieofkaaProg
import Derived.Test.YtjmgnfpcieofkaaGUp
import Derived.Test.YtjmgnfpcieofkaaUA3
/- uploader: an object in pieces, one by one (a range over a function). -/
namespace Go.Proofs.Ytjmgnfpcieofkaa
open Go.RowKit Go.Shelf
attribute [local go_sem] Oper.semAt_some
set_option linter.unusedVariables false
set_option linter.unusedSimpArgs false

/-- which pieces there are -/
abbrev Pc (n : Nat) := { k : Nat // 60 * k < n }
abbrev pcV (g o n c k : Nat) : Value := .slice (some ⟨g, o + 60 * k, Option.none⟩) (min 60 (n - 60 * k)) (c - 60 * k)
abbrev KpB (B : Nat) (t : TypeId) (W W' : World) : Prop := ∀ v, Boxed W B t v → Boxed W' B t v
theorem pcV_eq (g o n c k : Nat) : pcV g o n c k = .slice (some ⟨g, o + 60 * k, Option.none⟩) (min (60 * k + 60) n - 60 * k) (c - 60 * k) := by
  unfold pcV
  congr 1
  omega

set_option maxRecDepth 100000 in
set_option maxHeartbeats 2000000 in
theorem pieces1_in (F : Fence) (n : Nat) (h6 : F.fn 121) (hro : F.round = none) (hn : 1 ≤ n) (l Bn : Nat) (g o len c : Nat) (hlc : len ≤ c) (hl : len ≤ 1000000) (hc : c ≤ 9223372036854775807) (J Jx : List (Pc len) → World → Prop)
    (hY : ∀ pre x W, J pre W → pre.length < (len + 59) / 60 → YieldAt F (n - 1) Try.prog l #[pcV g o len c x.1] W fun e W' =>
      (e = .returned (.bool true) ∧ J (pre ++ [x]) W' ∧ KpB Bn 33 W W') ∨ (e = .returned (.bool false) ∧ Jx (pre ++ [x]) W'))
    (W : World) (hB : Boxed W Bn 33 (.slice (some ⟨g, o, none⟩) len c)) (h0 : J [] W) :
    CallsIn F n Try.prog 121 #[.func (.yield l) #[] #[], .pointer (some ⟨Bn, 0, none⟩)] W fun e W' => (∃ v, e = .returned v) ∧
      ((∃ ys : List (Pc len), ys.map (·.1) = List.range ((len + 59) / 60) ∧ J ys W') ∨ (∃ pre, True ∧ Jx pre W')) := by
  refine callsIn_of_wp Try.func121 rfl h6 ?_ hro
  simp only [Try.ntmps121, List.size_toArray, List.length_cons, List.length_nil, Nat.reduceAdd, Nat.reduceSub, Array.replicate_succ, Array.replicate_zero, List.push_toArray, List.append_toArray, List.nil_append, List.cons_append]
  have hu := Try.underlying33
  gi_wp2
  gi_loopw [3] (fun p wr => ∃ pre : List (Pc len), p = .int .i64 ((60 * pre.length : Nat) : Int) ∧ pre.length ≤ (len + 59) / 60 ∧ pre.map (·.1) = List.range pre.length ∧ Boxed wr Bn 33 (.slice (some ⟨g, o, none⟩) len c) ∧ J pre wr)
    (fun p wr => len + 60 - (intOf p).toNat)
  case atStart => exact ⟨[], rfl, by simp, rfl, hB, h0⟩
  case round =>
    obtain ⟨pre, rfl, hpl, hpr, hb, hJ⟩ := hrel
    have hcell := hb.cell
    by_cases hlt : 60 * pre.length < len
    · obtain ⟨fn, tmps, assign, body, hy, hR⟩ := hY pre ⟨pre.length, hlt⟩ wr hJ (by omega)
      rw [show pcV g o len c (⟨pre.length, hlt⟩ : Pc len).1 = _ from pcV_eq g o len c pre.length] at hy
      by_cases h60 : 60 * pre.length + 60 ≤ len
      · have hI : 60 * (pre.length : Int) + 60 ≤ (len : Int) := by omega
        rw [show min (60 * pre.length + 60) len - 60 * pre.length = 60 by omega] at hy
        gi_wp2
        all_goals
          refine hR.mono ?_
          rintro e W3 (⟨rfl, hJ3, hk3⟩ | ⟨rfl, hJx3⟩)
          · gi_wp2
            go_roundw
            case rel => exact ⟨pre ++ [⟨pre.length, hlt⟩], by simp; omega, by simp; omega, by simp [hpr, List.range_succ], hk3 _ hb, hJ3⟩
            case measure => simp [intOf]; omega
          · gi_wp2
            refine bodyPost_ret (results_none rfl _ _ _) rfl ?_
            exact ⟨⟨_, rfl⟩, .inr ⟨_, trivial, hJx3⟩⟩
      · have hI : (len : Int) < 60 * (pre.length : Int) + 60 := by omega
        rw [show min (60 * pre.length + 60) len - 60 * pre.length = len - 60 * pre.length by omega] at hy
        gi_wp2
        all_goals
          refine hR.mono ?_
          rintro e W3 (⟨rfl, hJ3, hk3⟩ | ⟨rfl, hJx3⟩)
          · gi_wp2
            go_roundw
            case rel => exact ⟨pre ++ [⟨pre.length, hlt⟩], by simp; omega, by simp; omega, by simp [hpr, List.range_succ], hk3 _ hb, hJ3⟩
            case measure => simp [intOf]; omega
          · gi_wp2
            refine bodyPost_ret (results_none rfl _ _ _) rfl ?_
            exact ⟨⟨_, rfl⟩, .inr ⟨_, trivial, hJx3⟩⟩
    · gi_wp2
      go_end0
      obtain hpe : pre.length = (len + 59) / 60 := by omega
      exact ⟨⟨_, rfl⟩, .inl ⟨pre, by rw [hpr, hpe], hJ⟩⟩

set_option maxHeartbeats 1000000 in
theorem pieces_in (F : Fence) (n : Nat) (h5 : F.fn 117) (hro : F.round = none) (v : Value) (w : World) (hv : ∃ a n c, v = .slice a n c) :
    CallsIn F n Try.prog 117 #[v] w fun e w' => e = .returned (.func (.func 121) #[] #[.pointer (some ⟨w.heap.size, 0, none⟩)]) ∧ w' = w.alloc (.cells #[v] 33) := by
  obtain ⟨a, m, c, rfl⟩ := hv
  refine callsIn_of_wp Try.func117 rfl h5 ?_ hro
  simp only [Try.ntmps117, List.size_toArray, List.length_cons, List.length_nil, Nat.reduceAdd, Nat.reduceSub, Array.replicate_succ, Array.replicate_zero, List.push_toArray, List.append_toArray, List.nil_append, List.cons_append]
  gi_wp2
  go_ret
  exact ⟨rfl, rfl⟩
theorem pieces_stops (F : Fence) (n : Nat) (h6 : F.fn 121) (hro : F.round = none) (hn : 1 ≤ n) (Bn g o len c : Nat) (hlc : len ≤ c) (hl : len ≤ 1000000) (hc : c ≤ 9223372036854775807) (w : World) (hB : Boxed w Bn 33 (.slice (some ⟨g, o, none⟩) len c)) :
    SeqStopsK F n Try.prog 121 #[.pointer (some ⟨Bn, 0, none⟩)] (fun x : Pc len => #[pcV g o len c x.1]) (KpB Bn 33) (fun ys => ys.map (·.1) = List.range ((len + 59) / 60)) (fun _ => True) ((len + 59) / 60) w := fun l J Jx W hW _ _ hY h0 =>
  pieces1_in F n h6 hro hn l Bn g o len c hlc hl hc J Jx hY W (((hW.block Bn hB.lt)).trans hB) h0
end Go.Proofs.Ytjmgnfpcieofkaa

/- uploader: the requests of an object. -/
namespace Go.Proofs.Ytjmgnfpcieofkaa
open Go.RowKit Go.Shelf
attribute [local go_sem] Oper.semAt_some
set_option linter.unusedVariables false
set_option linter.unusedSimpArgs false

def pcS (b : List UInt8) (k : Nat) : List UInt8 := (b.drop (60 * k)).take 60
def pcR (g o c : Nat) (b : List UInt8) (k : Nat) : Value × ReqS := (pcV g o b.length c k, ⟨8, 0, 0, pcS b k⟩)
/-- the requests, as far as they have come -/
def sendL (kind : UInt8) (g o c : Nat) (b : List UInt8) (pre : List (Pc b.length)) : List (Value × ReqS) := (nilV, ⟨1, kind, b.length, []⟩) :: pre.map fun x => pcR g o c b x.1
def sendR (kind : UInt8) (g o c : Nat) (b : List UInt8) : List (Value × ReqS) := ((nilV, ⟨1, kind, b.length, []⟩) :: (List.range ((b.length + 59) / 60)).map fun k => pcR g o c b k) ++ [(nilV, ⟨3, 0, 0, []⟩)]
theorem infoReq : (Try.prog.info? 159).map (fun i => (i.zero, i.size, i.bytes)) = some (some (.agg zq), 4, 32) := by kernel_rfl
theorem rqCells_append (L M : List (Value × ReqS)) : rqCells (L ++ M) = rqCells L ++ rqCells M := by simp [rqCells]

theorem cell_row_new (w : World) (x y z u : Value) (t : TypeId) : ∀ j v, [x, y, z, u][j]? = some v → (w.alloc (.cells #[x, y, z, u] t)).cell? ((⟨w.heap.size, 0, none⟩ : Addr).add j) = some v := by
  intro j v hj
  have h := Lay.cell (Lay.new w [x, y, z, u] t) j hj
  rw [show (⟨w.heap.size, 0, none⟩ : Addr).add j = ⟨w.heap.size, 0 + j, none⟩ by unfold Addr.add; split <;> simp_all]
  exact h
theorem row_start {w W : World} (cs : List Value) (t : TypeId) (hb : W.heap[w.heap.size]? = some (.cells cs.toArray t (0, 0))) (hl : cs.length = 4) : W.ownsRow w.heap.size t 4 (.slice (some ⟨w.heap.size, 0, none⟩) 1 1) 1 cs :=
  ⟨by omega, .inr ⟨_, 1, _, rfl, Nat.le_refl _, hb, Nat.le_refl _, by decide, by simp [hl], by simp [← hl]⟩⟩

set_option maxRecDepth 100000 in
set_option maxHeartbeats 4000000 in
theorem sending_in (F : Fence) (n : Nat) (h3 : F.fn 99) (h4 : F.fn 117) (h5 : F.fn 121) (hro : F.round = none) (hn : 3 ≤ n) (kind : UInt8) (g o c : Nat) (b : List UInt8) (hlc : b.length ≤ c) (hl : b.length ≤ 4096) (hc : c ≤ 9223372036854775807) (w : World) :
    CallsIn F n Try.prog 99 #[vb kind, .slice (some ⟨g, o, none⟩) b.length c] w fun e W' => ∃ v, e = .returned v ∧ W'.ownsRow w.heap.size 159 4 v (sendR kind g o c b).length (rqCells (sendR kind g o c b)) ∧ Below w.heap.size w W' := by
  have h1 : 1 ≤ n := by omega
  obtain ⟨i0, hi, hz0, hz1, hz2⟩ := info_parts infoReq
  refine callsIn_of_wp_marks Try.func99 rfl h3 ?_ hro
  simp only [Try.ntmps99, List.size_toArray, List.length_cons, List.length_nil, Nat.reduceAdd, Nat.reduceSub, Array.replicate_succ, Array.replicate_zero, List.push_toArray, List.append_toArray, List.nil_append, List.cons_append]
  have hcv : vb kind = .int .u8 ((kind.toNat : Nat) : Int) := rfl
  rw [hcv]
  generalize hkn : kind.toNat = kn at *
  have Hkn := hide hkn
  clear hkn
  gi_wp2_with (gi_at_call 117; refine (pieces_in F (n - 1) h4 hro _ _ ⟨_, _, _, rfl⟩).mono ?_; rintro e w' ⟨rfl, rfl⟩)
  have hT0 : (((w.alloc (.cells #[.int .u8 1, .int .u8 kn, .int .u32 b.length, .slice none 0 0] 159)).alloc (.cells #[.slice (some ⟨w.heap.size, 0, none⟩) 1 1] 128)).alloc (.cells #[.slice (some ⟨g, o, none⟩) b.length c] 33)).heap[w.heap.size]? = some (.cells #[.int .u8 1, .int .u8 kn, .int .u32 b.length, .slice none 0 0] 159 (0, 0)) := by
    rw [heap_alloc_old _ _ _ (by simp; omega), heap_alloc_old _ _ _ (by simp), heap_alloc_new]
  have bO := (Boxed.new (w.alloc (.cells #[.int .u8 1, .int .u8 kn, .int .u32 b.length, .slice none 0 0] 159)) 128 (.slice (some ⟨w.heap.size, 0, none⟩) 1 1)).alloc (.cells #[.slice (some ⟨g, o, none⟩) b.length c] 33)
  have bN := Boxed.new ((w.alloc (.cells #[.int .u8 1, .int .u8 kn, .int .u32 b.length, .slice none 0 0] 159)).alloc (.cells #[.slice (some ⟨w.heap.size, 0, none⟩) 1 1] 128)) 33 (.slice (some ⟨g, o, none⟩) b.length c)
  rw [World.size_alloc] at bO
  rw [World.size_alloc, World.size_alloc] at bN
  have hB0 : Below w.heap.size w (((w.alloc (.cells #[.int .u8 1, .int .u8 kn, .int .u32 b.length, .slice none 0 0] 159)).alloc (.cells #[.slice (some ⟨w.heap.size, 0, none⟩) 1 1] 128)).alloc (.cells #[.slice (some ⟨g, o, none⟩) b.length c] 33)) := (((Below.refl _ w).alloc (Nat.le_refl _) _).alloc (by simp) _).alloc (by simp; omega) _
  have hsz : (((w.alloc (.cells #[.int .u8 1, .int .u8 kn, .int .u32 b.length, .slice none 0 0] 159)).alloc (.cells #[.slice (some ⟨w.heap.size, 0, none⟩) 1 1] 128)).alloc (.cells #[.slice (some ⟨g, o, none⟩) b.length c] 33)).heap.size = w.heap.size + 3 := by simp
  generalize ((w.alloc (.cells #[.int .u8 1, .int .u8 kn, .int .u32 b.length, .slice none 0 0] 159)).alloc (.cells #[.slice (some ⟨w.heap.size, 0, none⟩) 1 1] 128)).alloc (.cells #[.slice (some ⟨g, o, none⟩) b.length c] 33) = w3 at *
  refine wpIn_rangeFunc_ownG hro h1 (gf := 121) (lb := #[.pointer (some ⟨w.heap.size + 1 + 1, 0, none⟩)]) rfl h5 (enters_of Try.func121 (by kernel_rfl) rfl)
    (pieces_stops F (n - 1) h5 hro (by omega) (w.heap.size + 1 + 1) g o b.length c hlc (by omega) hc w3 bN)
    (fun h k v x => k v (h v x)) (fun W l o o' hl' ho hoc _ v x => x.kept (grownBy_putObj' W l o') (by have := bN.lt; intro e; cases e; omega)) (Below.refl _ _) (fun _ => rfl)
    (fun pre W => (∃ v, Boxed W (w.heap.size + 1) 128 v ∧ W.ownsRow w.heap.size 159 4 v (pre.length + 1) (rqCells (sendL kind g o c b pre)) ∧ True) ∧ Below w.heap.size w W)
    (fun _ _ _ => False)
    (OwnFrom.and (Own.from (holdsRow_own w.heap.size (w.heap.size + 1) 128 159 4 (fun pre => pre.length + 1) (fun pre => rqCells (sendL kind g o c b pre)) (fun _ _ => True)) _) (ownFrom_below (Nat.le_refl _) (by omega)))
    (fun _ _ _ _ _ hs _ _ => hs)
    ⟨⟨_, bO, by
      have h9 := row_start (w := w) [.int .u8 1, .int .u8 kn, .int .u32 b.length, .slice none 0 0] 159 hT0 rfl
      rw [show rqCells (sendL kind g o c b []) = [.int .u8 1, .int .u8 kn, .int .u32 b.length, .slice none 0 0] by rw [← Hkn.out]; rfl]
      exact h9, trivial⟩, hB0⟩
    (fun x => { tmps := #[.int .u8 kn, .slice (some ⟨g, o, none⟩) b.length c, undef, undef, .slice none 0 0, .pointer (some ⟨w.heap.size + 1, 0, none⟩), pcV g o b.length c x.1, .int .u8 kn, .slice (some ⟨g, o, none⟩) b.length c, .int .i64 b.length, .int .u32 b.length, .agg #[.int .u8 1, .int .u8 kn, .int .u32 b.length, .slice none 0 0], .slice (some ⟨w.heap.size, 0, none⟩) 1 1, .slice (some ⟨g, o, none⟩) b.length c, .func (.func 121) #[] #[.pointer (some ⟨w.heap.size + 1 + 1, 0, none⟩)], pcV g o b.length c x.1, undef, undef, undef, undef, undef, undef, undef, undef, undef], defers := [] }) ?assign ?body ?done ?stop
  case assign =>
    intro l x W K hK
    gi_wp2
    exact hK
  case body =>
    rintro l pre x W ⟨⟨v, hv, hrow, -⟩, hB⟩ hlt
    obtain ⟨g1, cap1, rfl⟩ := ownsRow_succ hrow
    have hc := hv.cell
    have hu := Try.underlying128
    gi_wp2_with (gi_at_builtin; go_loud (refine wpListIn_append_own _ rfl _ _ 128 rfl w.heap.size 159 i0 (.agg zq) 4 32 hu hi hz0 hz1 hz2 rfl (by decide) _ _ _ rfl (hrow.alloc _) ⟨W.heap.size, 0, none⟩ 1 1 [.int .u8 8, .int .u8 0, .int .u32 0, pcV g o b.length c x.1] rfl rfl (cell_row_new _ _ _ _ _ _) (by simp [Value.oneCell']) (by unfold maxLen; omega) (by omega) (by have := hB.size; simp; omega) ?_); intro v' w1 hown' hgrow _; obtain ⟨g', cap', rfl⟩ := ownsRow_succ hown'; obtain ⟨hv1, hv2, hr2, hk2, hb2⟩ := hv.appended (by decide) hrow hB.size (Nat.le_succ _) hown' hgrow; have hc1 := hv1.cell; have hf1 := hv1.frozen)
    refine ⟨hk2.from _, ?_, ⟨_, hv2, ?_, trivial⟩, hB.trans hb2⟩
    · intro v0 x0
      exact ((x0.alloc _).kept hgrow (x0.not_row (by decide) hrow)).kept (grownBy_setCell' w1 (w.heap.size + 1) _) (by simp)
    · rw [List.length_append, List.length_singleton, show rqCells (sendL kind g o c b (pre ++ [x])) = rqCells (sendL kind g o c b pre) ++ [.int .u8 8, .int .u8 0, .int .u32 0, pcV g o b.length c x.1] by
        unfold sendL
        rw [List.map_append, ← List.cons_append, rqCells_append]
        rfl]
      exact hr2
  case done =>
    rintro D ys W hD hys ⟨⟨v, hv, hrow, -⟩, hB⟩ hK
    obtain ⟨g1, cap1, rfl⟩ := ownsRow_succ hrow
    have hc := hv.cell
    have hu := Try.underlying128
    have hyl : ys.length = (b.length + 59) / 60 := by have := congrArg List.length hys; simpa using this
    have hyl2 : ys.length ≤ 70 := by omega
    have Hyl := hide hyl
    have Hys := hide hys
    clear hyl hys
    have hD1 : D < W.heap.size := (Array.getElem?_eq_some_iff.1 hK).1
    gi_wp2_with (gi_at_builtin; go_loud (refine wpListIn_append_own _ rfl _ _ 128 rfl w.heap.size 159 i0 (.agg zq) 4 32 hu hi hz0 hz1 hz2 rfl (by decide) _ _ _ rfl (hrow.alloc _) ⟨W.heap.size, 0, none⟩ 1 1 [.int .u8 3, .int .u8 0, .int .u32 0, .slice none 0 0] rfl rfl (cell_row_new _ _ _ _ _ _) (by simp [Value.oneCell']) (by unfold maxLen; omega) (by omega) (by have := hB.size; simp; omega) ?_); intro v' w1 hown' hgrow _; obtain ⟨g', cap', rfl⟩ := ownsRow_succ hown')
    have hg1 : w.heap.size ≤ g1 ∧ g1 ≠ D := by
      rcases hrow.2 with ⟨e9, _⟩ | ⟨g9, cap9, cur9, e9, hb9, hgb, _⟩
      · cases e9
      · simp only [Value.slice.injEq, Option.some.injEq, Addr.mk.injEq] at e9
        obtain ⟨⟨rfl, -, -⟩, -⟩ := e9
        refine ⟨hb9, fun e => ?_⟩
        rw [← e, hgb] at hK
        cases hK
    have hgrow : (W.alloc (.cells #[.int .u8 3, .int .u8 0, .int .u32 0, .slice none 0 0] 159)).grownBy w1 (some g1) := hgrow
    have hK1 : w1.heap[D]? = some (.deferred (some [])) := ((hgrow.block D (by simp; omega) (by intro e; cases e; exact hg1.2 rfl)).trans (heap_alloc_old _ _ _ hD1)).trans hK
    have hB1 : Below w.heap.size w w1 := hB.trans (((Below.refl w.heap.size W).alloc hB.size _).grown hgrow (by have := hB.size; simp; omega) fun j ej => by cases ej; exact hg1.1)
    have hw1 : D < w1.heap.size := (Array.getElem?_eq_some_iff.1 hK1).1
    refine ⟨by simp, .inl ⟨_, _, rfl, run_takeDeferred hK1, ?_⟩⟩
    refine ⟨_, results_tmp rfl _ _ _, _, rfl, ?_, hB1.trans (belowK_b (w := w) (Nat.le_refl _) w1 D _ _ (by omega) hK1 rfl rfl)⟩
    have h9 := ownsRow_putObj hown' (.deferred none) hK1 rfl
    have e1 : sendR kind g o c b = sendL kind g o c b ys ++ [(nilV, ⟨3, 0, 0, []⟩)] := by
      unfold sendR sendL
      rw [← Hys.out, List.map_map]
      rfl
    rw [e1, rqCells_append, List.length_append, show (sendL kind g o c b ys).length = ys.length + 1 by simp [sendL]]
    exact h9
  case stop =>
    rintro D c pre W _ _ h _
    exact h.elim
end Go.Proofs.Ytjmgnfpcieofkaa
