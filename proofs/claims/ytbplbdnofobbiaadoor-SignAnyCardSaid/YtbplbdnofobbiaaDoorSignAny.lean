/- The law SignAny: whether any bytes are any key's signature, of any bytes. -/
import Derived.Test.YtbplbdnofobbiaaDoorSg8
import Derived.Test.YtbplbdnofobbiaaDoorCards
import Derived.Test.YtbplbdnofobbiaaDoorTie
import Derived.Deep.DeepHandedRow
set_option linter.unusedVariables false
set_option linter.unusedSimpArgs false
set_option maxRecDepth 100000
set_option maxHeartbeats 8000000
namespace Go.Proofs.YtbplbdnofobbiaaDoor
namespace Cv
open Fe
open Go.ChangeShapes Go.WideShapes Go.ChangeAt Go.RowKit
theorem sa_nat (w : World) (hT : TabS w) (k r s : Nat) (hk : k < 256 ^ 32) (hr : r < 256 ^ 32) (hs : s < 256 ^ 32) (v : Value) (m : List UInt8) (hb : IsBytes w v m) :
  Calls Tryd.prog 7 #[.agg (zB k), .agg (gC r s), v] w fun e w' => e = .returned (.bool true) ∧ Below w.heap.size w w' := by
 have hub := Tryd.underlying38
 have huh := Tryd.underlying61
 have hzB := zBZero
 have hzH := hZero
 have h0 := ((on_all w).alloc (.cells (zB k) 38)).alloc (.cells (gC r s) 61)
 have s0 := ((Str.refl w).alloc (.cells (zB k) 38)).alloc (.cells (gC r s) 61)
 try simp only [World.size_alloc] at h0
 have H1 := hide h0
 have S1 := hide s0
 clear h0 s0
 have hk0 := hide (fun X (h1 : Below w.heap.size w X) => lives08_any X (hT.below h1))
 have HM := hide hb
 obtain ⟨ma, mc, rfl, hmc, hmm, _, _⟩ := hb
 unfold maxLen at hmm
 have k1 := fun (hm : m.length ≤ 200) u X (h1 : Below w.heap.size w X) (hr2 : IsRows X u [m]) (hz : ∀ n c, u = .slice Option.none n c → c = 0) => sverify_any k r s hk hr hs u [m] X hr2 hz (hT.below h1).h (hT.below h1).c (hT.below h1).d (hT.below h1).o (by simp) (by simp; omega)
 rw [show ([m] : List (List UInt8)).flatten = m by simp] at k1
 have k2 := fun (hm : m.length ≤ 200) X (h1 : Below w.heap.size w X) => mverify_any k r s hk hr hs _ m X (HM.out.below h1) (by omega)
 obtain ⟨bb, hbb⟩ : ∃ b, b = Sg.verB (bl k) (bl r ++ bl s) m := ⟨_, rfl⟩
 rw [← hbb] at k1 k2
 obtain ⟨ee, hee⟩ : ∃ e, e = verE bb := ⟨_, rfl⟩
 rw [← hee] at k1
 have Hcase : Hid ((bb = true ∧ ee = 0) ∨ (bb = false ∧ ee = 9)) := hide (by cases bb <;> simp [hee, verE])
 have hk1 := hide k1
 have hk2 := hide k2
 clear k1 k2 hbb hee hk hr hs hT
 obtain ⟨HsKk, HoKk, HzKk⟩ := b3 (zBInfo k) (zBOne k) (zBSize 0 k)
 obtain ⟨HsGg, HoGg, HzGg⟩ := b3 (hInfo r s) (gOne r s) (gSize 0 0 r s)
 generalize zB k = Kk at *
 generalize gC r s = Gg at *
 generalize zB 0 = ZB at *
 generalize gC 0 0 = ZH at *
 go_enter Tryd.func7, Tryd.ntmps7
 refine wp_seq_h fun K1 hK1 => ?_
 go_wp2_with fail
 refine hK1.out _ _ ?_
 clear hK1 K1
 generalize (w.alloc (.cells Kk 38)).alloc (.cells Gg 61) = w1 at *
 go_wp2_with fail
 refine (hk0.out _ (all_below H1.out.right.right S1.out)).mono ?_
 rintro e w2 ⟨rfl, hB⟩
 obtain ⟨H2, S2⟩ := nx H1.out S1.out hB
 clear hB H1 S1
 by_cases hlen : 200 < m.length
 ·skip
  go_wp2_with fail
  refine (hk0.out _ (all_below H2.out.right.right S2.out)).mono ?_
  rintro e w3 ⟨rfl, hB⟩
  obtain ⟨H3, S3⟩ := nx H2.out S2.out hB
  clear hB H2 S2
  have HB := hide (all_below H3.out.right.right S3.out)
  go_wp2_with fail
  go_ret
  exact ⟨rfl, HB.out⟩
 ·have h200 : m.length ≤ 200 := by omega
  have H200 := hide h200
  clear h200
  have gK := on_blk_mul H2.out.right
  have gG := on_blk_mul H2.out
  go_wp2_with (first
   | (refine wL gK hub HsKk ?_)
   | (refine wL gG huh HsGg ?_))
  clear gK gG
  have hr := IsRows.one (w := w2) (HM.out.below (all_below H2.out.right.right S2.out)) 56
  have H3 := hide (SP.on.alloc' H2.out (.cells #[.slice ma m.length mc] 56))
  have S3 := hide (S2.out.alloc (.cells #[.slice ma m.length mc] 56))
  generalize w2.alloc (.cells #[.slice ma m.length mc] 56) = w3 at *
  clear H2 S2
  have hz : ∀ n c, (Value.slice (some ⟨w2.heap.size, 0, .none⟩) 1 1) = .slice Option.none n c → c = 0 := fun n c e => by injection e with e1; cases e1
  refine (hk1.out H200.out _ _ (all_below H3.out.right.right S3.out) hr hz).mono ?_
  rintro e w4 ⟨rfl, hB⟩
  obtain ⟨H4, S4⟩ := nx H3.out S3.out hB
  clear hB H3 S3
  clear hr hz
  have gK := on_blk_mul H4.out.right
  have gG := on_blk_mul H4.out
  go_wp2_with (first
   | (refine wL gK hub HsKk ?_)
   | (refine wL gG huh HsGg ?_))
  clear gK gG
  refine (hk2.out H200.out _ (all_below H4.out.right.right S4.out)).mono ?_
  rintro e w5 ⟨rfl, hB⟩
  obtain ⟨H5, S5⟩ := nx H4.out S4.out hB
  clear hB H4 S4
  have HB := hide (all_below H5.out.right.right S5.out)
  rcases Hcase.out with ⟨rfl, rfl⟩ | ⟨rfl, rfl⟩
  ·skip
   go_wp2_with fail
   go_ret
   exact ⟨rfl, HB.out⟩
  ·skip
   go_wp2_with fail
   go_ret
   exact ⟨rfl, HB.out⟩
end Cv
open Go.ChangeShapes Go.WideShapes Go.ChangeAt Go.RowKit
theorem walk_SignAny (w : World) (hL : laidMetH Tryd.prog Rows.signAnyRow.laid w) (key : List UInt8) (hk : key.length = 32) (sig : List UInt8) (hs : sig.length = 64) (v : Value) (m : List UInt8) (hb : IsBytes w v m) :
  Calls Tryd.prog 7 #[.agg (zb key), .agg (zb sig), v] w fun e w' => e = .returned (.bool true) ∧ Below w.heap.size w w' := by
 have h := Cv.sa_nat w (Cv.tab_sign hL) (leN key) (leN (sig.take 32)) (leN (sig.drop 32)) (Cv.leN_lt8 key hk) (Cv.half_lt sig hs).1 (Cv.half_lt sig hs).2 v m hb
 rwa [← Cv.zb_of key hk, ← Cv.gC_of sig hs] at h
namespace lawSignAny
theorem own : ownKnob Tryd.prog.godebug = Option.none := by kernel_rfl
theorem laidOut : laidOutB Tryd.prog = true := by kernel_rfl
theorem contract (H : Type) (enc : TypeId × Value → H) (W : World) (base : Nat) (args : Array Value) (ds gs : List (DataW H)) (before : List MemPlace)
  (hval0 : ∀ (j : Nat) t v, Tryd.f7.params[j]? = some t → args[j]? = some v → Value.okWide Tryd.prog W .any base t v)
  (hW : DataW.Whole enc Tryd.prog Tryd.f7.params.toList Rows.signAnySpec.vars false W args.toList ds gs before) (hsz : (DataW.weightsEach Tryd.prog (Tryd.f7.params.toList ++ (OpenSpec.ofChange Rows.signAnySpec).bare.plain.varTypes Tryd.prog) (ds ++ gs)).all (· ≤ reachBytes) = true) (hL : laidMetH Tryd.prog Rows.signAnyRow.laid W) :
  Calls Tryd.prog 7 args W fun e W' => ∃ v, e = .returned v ∧ Rows.signAnySpec.post enc Tryd.prog Tryd.f7 false true false false W args v W' := by
 have hval : ∀ (j : Nat) t v, Tryd.f7.params[j]? = some t → args[j]? = some v → Value.okWide Tryd.prog W .any base t v := hval0
 have hW' := hW
 obtain ⟨p, q, hA0, hV, rfl, hfz, hnd⟩ := hW
 have hA : DataW.TrodAll enc Tryd.prog W 0 (fun _ => true) true Tryd.f7.params.toList args.toList ds p := hA0
 rw [Tryd.params7] at hA hval
 obtain ⟨v0, vs0, d0, ds0, p0, q0, hargs, rfl, rfl, h0, r0⟩ := trodAll_cons hA
 obtain ⟨v1, vs1, d1, ds1, p1, q1, rfl, rfl, rfl, h1, r1⟩ := trodAll_cons r0
 obtain ⟨v2, vs2, d2, ds2, p2, q2, rfl, rfl, rfl, h2, r2⟩ := trodAll_cons r1
 obtain ⟨rfl, rfl, rfl⟩ := trodAll_nil r2
 obtain rfl : args = #[v0, v1, v2] := by cases args; simp_all
 obtain ⟨rfl, rfl⟩ := trodVars_none hV
 have k0 := h0
 have lt0 : ∀ x ∈ p0, x.block < W.heap.size := by obtain ⟨m, hm⟩ := k0; exact DataW.trod_lt m _ _ _ hm
 obtain ⟨s0, rfl, b0⟩ := open_b32 (hval 0 38 v0 rfl rfl) h0
 have k1 := h1
 have lt1 : ∀ x ∈ p1, x.block < W.heap.size := by obtain ⟨m, hm⟩ := k1; exact DataW.trod_lt m _ _ _ hm
 obtain ⟨s1, rfl, b1⟩ := Cv.open_b64 (hval 1 61 v1 rfl rfl) h1
 have k2 := h2
 have lt2 : ∀ x ∈ p2, x.block < W.heap.size := by obtain ⟨m, hm⟩ := k2; exact DataW.trod_lt m _ _ _ hm
 obtain ⟨l2, b2, n2⟩ := open_bytes Tryd.underlying56 Tryd.underlying5 (by kernel_rfl) (hval 2 56 v2 rfl rfl) h2
 clear hA0 hval0 hsz
 refine (walk_SignAny W hL s0 b0 s1 b1 v2 l2 b2).mono fun e W' ⟨he, bel⟩ => ?_
 subst he
 exact ⟨_, rfl, _, _, _, [], _, [], hW', trodAll_mk1 (shut_bool Tryd.underlying4 _), (trodAll_cons_mk (Below.trod laidOut (by kernel_rfl) (of_decide_eq_true (by kernel_rfl)) k0 bel lt0) (trodAll_cons_mk (Below.trod laidOut (by kernel_rfl) (of_decide_eq_true (by kernel_rfl)) k1 bel lt1) (trodAll_cons_mk (Below.trod laidOut (by kernel_rfl) (of_decide_eq_true (by kernel_rfl)) k2 bel lt2) trodAll_mk0))), rfl, bel.frame _, fun h => by cases h⟩
def litCells (d : DataW Unit) : Array Value := match d with
 | .agg l => (l.filterMap fun x => match x with | .lit (.int k n) => some (Value.int k n) | _ => Option.none).toArray
 | _ => #[]
noncomputable def laidWorld (os : Os) : World :=
 { World.holding Tryd.prog os ⟨#[], #[], []⟩ with heap := ((((((((((((World.holding Tryd.prog os ⟨#[], #[], []⟩).heap.modify 5 fun
   | .cells _ t frozen => .cells (litCells Rows.laid_bosun_field_modulus) t frozen
   | o => o).modify 6 fun
   | .cells _ t frozen => .cells (litCells Rows.laid_bosun_field_lessTwo) t frozen
   | o => o).modify 7 fun
   | .cells _ t frozen => .cells (litCells Rows.laid_bosun_field_eighth) t frozen
   | o => o).modify 8 fun
   | .cells _ t frozen => .cells (litCells Rows.laid_bosun_field_rootOfMinusOne) t frozen
   | o => o).modify 9 fun
   | .cells _ t frozen => .cells (litCells Rows.laid_bosun_longsum_first) t frozen
   | o => o).modify 10 fun
   | .cells _ t frozen => .cells (litCells Rows.laid_bosun_longsum_rounds) t frozen
   | o => o).modify 2 fun
   | .cells _ t frozen => .cells (litCells Rows.laid_bosun_scalar_order) t frozen
   | o => o).modify 4 fun
   | .cells _ t frozen => .cells (litCells Rows.laid_bosun_curve_d) t frozen
   | o => o).modify 3 fun
   | .cells _ t frozen => .cells (litCells Rows.laid_bosun_curve_dTwice) t frozen
   | o => o).modify 0 fun
   | .cells _ t frozen => .cells (litCells Rows.laid_bosun_curve_baseX) t frozen
   | o => o).modify 1 fun
   | .cells _ t frozen => .cells (litCells Rows.laid_bosun_curve_baseY) t frozen
   | o => o) }
theorem laid_met (os : Os) : laidMet Tryd.prog Rows.signAnyRow.laid ((laidWorld os).forCall (fun _ _ => 0) ⟨#[], #[.agg #[.int .u8 0, .int .u8 0, .int .u8 0, .int .u8 0, .int .u8 0, .int .u8 0, .int .u8 0, .int .u8 0, .int .u8 0, .int .u8 0, .int .u8 0, .int .u8 0, .int .u8 0, .int .u8 0, .int .u8 0, .int .u8 0, .int .u8 0, .int .u8 0, .int .u8 0, .int .u8 0, .int .u8 0, .int .u8 0, .int .u8 0, .int .u8 0, .int .u8 0, .int .u8 0, .int .u8 0, .int .u8 0, .int .u8 0, .int .u8 0, .int .u8 0, .int .u8 0], .agg (List.replicate 64 (Value.int .u8 0)).toArray, .slice Option.none 0 0], []⟩).memory :=
 laidMet_of_run' 8 (by kernel_rfl) (by kernel_rfl)
theorem reads (os : Os) {H : Type} (enc : TypeId × Value → H) : ∃ places, DataW.whole enc Tryd.prog ((laidWorld os).forCall (fun _ _ => 0) ⟨#[], #[.agg #[.int .u8 0, .int .u8 0, .int .u8 0, .int .u8 0, .int .u8 0, .int .u8 0, .int .u8 0, .int .u8 0, .int .u8 0, .int .u8 0, .int .u8 0, .int .u8 0, .int .u8 0, .int .u8 0, .int .u8 0, .int .u8 0, .int .u8 0, .int .u8 0, .int .u8 0, .int .u8 0, .int .u8 0, .int .u8 0, .int .u8 0, .int .u8 0, .int .u8 0, .int .u8 0, .int .u8 0, .int .u8 0, .int .u8 0, .int .u8 0, .int .u8 0, .int .u8 0], .agg (List.replicate 64 (Value.int .u8 0)).toArray, .slice Option.none 0 0], []⟩).memory Tryd.f7.params.toList Rows.signAnySpec.vars false (#[.agg #[.int .u8 0, .int .u8 0, .int .u8 0, .int .u8 0, .int .u8 0, .int .u8 0, .int .u8 0, .int .u8 0, .int .u8 0, .int .u8 0, .int .u8 0, .int .u8 0, .int .u8 0, .int .u8 0, .int .u8 0, .int .u8 0, .int .u8 0, .int .u8 0, .int .u8 0, .int .u8 0, .int .u8 0, .int .u8 0, .int .u8 0, .int .u8 0, .int .u8 0, .int .u8 0, .int .u8 0, .int .u8 0, .int .u8 0, .int .u8 0, .int .u8 0, .int .u8 0], .agg (List.replicate 64 (Value.int .u8 0)).toArray, .slice Option.none 0 0] : Array Value).toList 8 = some ([.agg (List.replicate 32 (.lit (.int .u8 0))), .agg (List.replicate 64 (.lit (.int .u8 0))), .nil], [], places) :=
 ⟨[], by kernel_rfl⟩
theorem lifted (os : Os) (started : os.Started) (H : Type) (enc : TypeId × Value → H) (F : Stop.Interp) :
  ReturnsInHanded {} Tryd.checked os 7 .any ((OpenSpec.ofChange Rows.signAnySpec).preRow enc Tryd.prog Tryd.f7 Rows.signAnyRow.domain false Rows.signAnyRow.laid) (((OpenSpec.ofChange Rows.signAnySpec).at F).post enc Tryd.prog Tryd.f7 false true false false) := by
 obtain ⟨places, hx⟩ := reads os enc
 refine returnsInHanded_of_row (C := Tryd.checked) (s := OpenSpec.ofChange Rows.signAnySpec) own started (by kernel_rfl) Tryd.func7
  (witness_row_at (enc := enc) (C := Tryd.checked) false (laidWorld os) #[.agg #[.int .u8 0, .int .u8 0, .int .u8 0, .int .u8 0, .int .u8 0, .int .u8 0, .int .u8 0, .int .u8 0, .int .u8 0, .int .u8 0, .int .u8 0, .int .u8 0, .int .u8 0, .int .u8 0, .int .u8 0, .int .u8 0, .int .u8 0, .int .u8 0, .int .u8 0, .int .u8 0, .int .u8 0, .int .u8 0, .int .u8 0, .int .u8 0, .int .u8 0, .int .u8 0, .int .u8 0, .int .u8 0, .int .u8 0, .int .u8 0, .int .u8 0, .int .u8 0], .agg (List.replicate 64 (Value.int .u8 0)).toArray, .slice Option.none 0 0] rfl (by kernel_rfl) (by kernel_rfl) (by kernel_rfl)
   (OpenSpec.preRow_of_cond 8 hx (by kernel_rfl) (fun k hk => by cases hk) (by kernel_rfl) (laid_met os))) ?_
 intro W base args ds gs before hval hW _ _ hsz hL _ _
 exact contract H enc W base args ds gs before hval hW hsz hL
theorem said : Rows.SignAnySaid :=
 OpenClaim.holds_of_cond 7 Tryd.f7 rfl rfl rfl rfl rfl rfl rfl ⟨rfl, rfl, rfl, rfl, rfl⟩ rfl rfl rfl rfl rfl (by kernel_rfl) Tryd.func7 (by kernel_rfl)
  (of_decide_eq_true (by kernel_rfl)) (by unfold Func.isWrapper; first | (rw [if_pos (by decide +kernel)]; kernel_rfl) | (rw [if_neg (by decide +kernel)]; exact ⟨rfl, rfl⟩))
  (fun os started H enc _ F => by rw [OpenClaim.pre_eq_preRow]; exact lifted os started H enc F)
theorem plain (f : FuncId) (fn : Func) (hf : Tryd.pinned.checked.prog.funcNamed "bosun/bosunlaw08.SignAny" = some f) (hfn : Tryd.pinned.checked.prog.funcs[f]? = some fn) :
  false = Tryd.pinned.checked.prog.looks [] ∧ ∀ (j : Nat) t, fn.params[j]? = some t → Tryd.pinned.checked.prog.wantsStandIn t = false := by
 obtain rfl : f = 7 := Option.some.inj ((show Tryd.prog.funcNamed "bosun/bosunlaw08.SignAny" = some 7 by kernel_rfl).symm.trans hf) |>.symm
 obtain rfl : fn = Tryd.f7 := (Option.some.inj (Tryd.func7.symm.trans hfn)).symm
 refine ⟨by kernel_rfl, fun j t ht => ?_⟩
 rw [Tryd.params7] at ht
 have hm : t ∈ [38, 61, 56] := by simpa using Array.mem_of_getElem? ht
 have hall : ∀ t ∈ [38, 61, 56], Tryd.prog.wantsStandIn t = false := by
  intro t ht
  simp only [List.mem_cons, List.not_mem_nil, or_false] at ht
  rcases ht with rfl | rfl | rfl <;> kernel_rfl
 exact hall t hm
theorem proved : Rows.SignAnyCardSaid :=
 Claim7.holds_tied_plain_at .later [] _ _ _ _ said (fun _ h => by cases h) (by kernel_rfl) (fun _ h => by cases h) signAny_row_tie rfl ⟨rfl, rfl⟩ (by kernel_rfl) rfl plain (by kernel_rfl)
end lawSignAny
end Go.Proofs.YtbplbdnofobbiaaDoor
