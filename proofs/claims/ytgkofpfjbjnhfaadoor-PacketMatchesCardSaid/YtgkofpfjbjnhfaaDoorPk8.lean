/- packet: the chapter's example; PacketBytes and PacketParses, as walks. -/
import Derived.Test.YtgkofpfjbjnhfaaDoorPk6
import Derived.Test.YtgkofpfjbjnhfaaDoorPk7
namespace Go.Proofs.YtgkofpfjbjnhfaaDoor
open Go.ChangeShapes Go.WideShapes Go.ChangeAt Go.RowKit
set_option linter.unusedVariables false
set_option linter.unusedSimpArgs false

theorem wpList_load_row_g12 {P : Program} {ops : Array Oper} {rest : List Oper} {o : Oper} {a : Act} {w : World} {Q : Exit → Act → World → Prop} (hw : Region.wanted o (yielded ops a.tmps) = true) (ty : TypeId) (x : Operand) (ho : o.op = .load ty x)
    (g : Nat) (hx : a.eval x = .pointer (some ⟨g, 0, Option.none⟩)) (t : TypeId) (cs : Array Value) (fr : Nat × Nat) (d : TypeDesc) (hg : w.heap[g]? = some (.cells cs t fr))
    (hu : P.underlying ty = some d) (hd : (match d with | .struct _ | .array _ _ => true | _ => false) = true) (hi : (P.info? ty).map (·.size) = some cs.size)
    (h : wpList P ops Q rest (a.put o.dst (.agg cs)) w) : wpList P ops Q (o :: rest) a w :=
  wpList_step fun K hK => by rw [if_pos hw]; exact wp_load_row ty x ho g hx t cs fr d hg hu hd hi (hK _ _ h)
theorem wpList_eql_g {P : Program} {ops : Array Oper} {rest : List Oper} {o : Oper} {a : Act} {w : World} {Q : Exit → Act → World → Prop} (hw : Region.wanted o (yielded ops a.tmps) = true) (t rt : TypeId) (x y : Operand) (ho : o.op = .binOp .eql t x y rt)
    (xs : Array Value) (hx : a.eval x = .agg xs) (hy : a.eval y = .agg xs) (hm : P.eqGuardType P.depth t = false) (he : (Op.equalIn 10000 t (.agg xs) (.agg xs)).run P w = .ok true w)
    (h : wpList P ops Q rest (a.put o.dst (.bool true)) w) : wpList P ops Q (o :: rest) a w :=
  wpList_step fun K hK => by
    rw [if_pos hw]
    have hr : (execOp a.eval o).run P w = .ok (.value (.bool true)) w := by
      unfold execOp
      rw [ho]
      simp only [hx, hy, Sem.run_bind, run_eqGuard_agg w _ _ _ _ _ _ hm, run_eql_struct, he, Result.andThen_ok]
      rfl
    unfold Oper.wp
    simp only [hr]
    exact hK _ _ h
def p0 : PkS := { zP with hw := 7, sz := 9 }
theorem p0_ok : p0.Ok := ⟨by decide, by decide, by decide, rfl, rfl⟩
theorem build_p0 (w : World) : (Instr.build 75 #[(0, .int .u32 7), (3, .int .u32 9)]).run Tryd.prog w = .ok (.agg (pkC p0)) w := by kernel_rfl

theorem wpList_build_p0 {ops : Array Oper} {rest : List Oper} {o : Oper} {a : Act} {w : World} {Q : Exit → Act → World → Prop} (hgd : o.guard = Option.none) (x0 x1 : Operand) (ho : o.op = .build 75 #[(0, x0), (3, x1)])
    (h0 : a.eval x0 = .int .u32 7) (h1 : a.eval x1 = .int .u32 9) (hk : wpList Tryd.prog ops Q rest (a.put o.dst (.agg (pkC p0))) w) : wpList Tryd.prog ops Q (o :: rest) a w := by
  have hr : (execOp a.eval o).run Tryd.prog w = .ok (.value (.agg (pkC p0))) w := by
    unfold execOp
    rw [ho]
    simp only [List.map_toArray, List.map_cons, List.map_nil, h0, h1]
    rw [Sem.run_bind, build_p0]
    rfl
  exact wpList_plain hgd fun _ hK => by
    unfold Oper.wp
    simp only [hr]
    exact hK _ _ hk
set_option maxRecDepth 100000 in
set_option maxHeartbeats 8000000 in
theorem lives12_any (w : World) (hLens : Lens w) : Calls Tryd.prog 50 #[] w fun e w' => e = .returned (.bool true) ∧ Below w.heap.size w w' := by
  have hup := Tryd.underlying75
  have Hgd : Hid (Tryd.prog.eqGuardType Tryd.prog.depth 75 = false) := hide (by kernel_rfl)
  have hz := pk_hz
  have Hsz : Hid ((Tryd.prog.info? 75).map (·.size) = some (pkC p0).size) := hide (by rw [pkC_size p0_ok]; kernel_rfl)
  have Hzz : Hid ((pkC zP).size = (pkC p0).size) := hide (by rw [pkC_size p0_ok]; rfl)
  have Hone := hide (pkC_one p0)
  have HE := hide (fun X => pencode_any p0 p0_ok X)
  have HS := hide (fun X => psigned_any p0 p0_ok X)
  have HP : Hid (∀ v X, IsBytes X v (pkB p0) → Lens X → Calls Tryd.prog 76 #[v] X (fun e w' => e = .returned (.tuple #[.agg (pkC p0), .int .i64 (0 : Nat)]) ∧ Below X.heap.size X w')) := hide fun v X h1 h2 => by
    have := pkparse_any v (pkB p0) X h1 (by rw [pkB_len p0_ok]; decide) h2
    rw [pparse_pkB p0_ok] at this
    exact this
  have HQ := hide (fun X => eq_pk X p0 p0_ok)
  have Hl1 := hide (pkB_len p0_ok)
  have Hl2 := hide (signedB_len p0_ok)
  have hr := heap_alloc_new w (.cells (pkC zP) 75)
  have h1 := ((on_all w).alloc (.cells (pkC zP) 75)).setRow (pkC p0)
  have hs1 := ((Str.refl w).alloc (.cells (pkC zP) 75)).setRow w.heap.size (pkC p0)
  have HL := hide hLens
  clear hLens
  generalize hZ : pkC zP = Z at *
  generalize hC : pkC p0 = C at *
  have HC := hide hC
  clear hZ hC
  generalize pkB p0 = g at *
  generalize signedB p0 = g2 at *
  have H1 := hide h1
  have HS1 := hide hs1
  have hg1 := on_blk_mul h1
  clear h1 hs1
  have hE := HE.out ((w.alloc (.cells Z 75)).setRow w.heap.size C)
  go_enter Tryd.func50, Tryd.ntmps50
  go_wp2_with (first
    | (refine wpList_build_p0 rfl _ _ rfl rfl rfl ?_; rw [HC.out])
    | (refine wpList_store_row rfl _ _ _ rfl w.heap.size C rfl rfl _ _ hr Hsz.out Hzz.out Hone.out ?_)
    | (refine wpList_load_row rfl _ _ rfl w.heap.size rfl _ C _ _ hg1 hup rfl Hsz.out ?_))
  generalize (w.alloc (.cells Z 75)).setRow w.heap.size C = w1 at *
  refine hE.mono ?_
  clear hE hg1 hr
  rintro e w2 ⟨v, rfl, ho, hs⟩
  have H2 := hide (on_all_to ho H1.out)
  have HS2 := hide (HS1.out.trans hs)
  have hP := HP.out v w2 (own_bytes ho) (HL.out.below (all_below H2.out.right.right HS2.out))
  obtain ⟨a2, c2, rfl, _, _, _, _⟩ := own_value ho
  clear ho hs
  have lg : (((g.length : Nat) : Int) == 121) = true := by rw [Hl1.out]; rfl
  go_wp2_with fail
  refine hP.mono ?_
  clear hP
  rintro e w3 ⟨rfl, hb⟩
  have h3 := H2.out.below hb
  have HS3 := hide (HS2.out.trans (Str.below hb))
  have hr3 := heap_alloc_new w3 (.cells Z 75)
  have h4 := (h3.alloc (.cells Z 75)).setRow C
  have hs4 := (HS3.out.alloc (.cells Z 75)).setRow w3.heap.size C
  have hgA := on_blk_mul h4
  have hgB := on_blk_mul h4.right.right
  have HB4 := hide (all_below h4.right.right.right hs4)
  have hS := HS.out ((w3.alloc (.cells Z 75)).setRow w3.heap.size C)
  have H4 := hide h4
  clear h3 h4 hs4 hb
  go_wp2_with (first
    | (refine wpList_store_row rfl _ _ _ rfl w3.heap.size C rfl rfl _ _ hr3 Hsz.out Hzz.out Hone.out ?_)
    | (refine wpList_load_row_g12 rfl _ _ rfl w.heap.size rfl _ C _ _ hgB hup rfl Hsz.out ?_))
  refine hS.mono ?_
  clear hS
  rintro e w5 ⟨v5, rfl, ho5, hs5⟩
  have H5 := hide (on_all_to ho5 H4.out)
  have hgA5 := on_blk_mul H5.out.right
  have hgB5 := on_blk_mul H5.out.right.right.right
  have HB5 := hide (HB4.out.trans (Str.below (all_below ho5.right hs5) |> fun _ => (all_below ho5.right hs5).mono HB4.out.size))
  obtain ⟨a5, c5, rfl, _, _, _, _⟩ := own_value ho5
  have l5 : (((g2.length : Nat) : Int) == 55) = true := by rw [Hl2.out]; rfl
  have hq := HQ.out w5
  clear ho5 hs5 hgA hgB hr3
  go_wp2_with (first
    | (refine wpList_eql_g rfl _ _ _ _ rfl C rfl rfl Hgd.out hq ?_)
    | (refine wpList_load_row_g12 rfl _ _ rfl w3.heap.size rfl _ C _ _ hgA5 hup rfl Hsz.out ?_)
    | (refine wpList_load_row_g12 rfl _ _ rfl w.heap.size rfl _ C _ _ hgB5 hup rfl Hsz.out ?_))
  go_ret
  exact ⟨rfl, HB5.out⟩
end Go.Proofs.YtgkofpfjbjnhfaaDoor
