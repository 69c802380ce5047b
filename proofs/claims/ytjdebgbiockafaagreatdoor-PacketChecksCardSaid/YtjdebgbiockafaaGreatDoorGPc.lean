/- A part. -/
import Derived.Test.YtjdebgbiockafaaGreatDoorGPkB
import Derived.Test.YtjdebgbiockafaaGreatDoorGSgB
set_option linter.unusedVariables false
set_option linter.unusedSimpArgs false
set_option maxRecDepth 100000
set_option maxHeartbeats 8000000
namespace Go.Proofs.YtjdebgbiockafaaGreatDoor
namespace Cv
open Fe
open Go.ChangeShapes Go.WideShapes Go.ChangeAt Go.RowKit
structure LmS where
 key : List UInt8
 hw : Nat
 ty : UInt8
 fl : Nat
 rm : Nat
structure LmS.Ok (l : LmS) : Prop where
 key : l.key.length = 32
 hw : l.hw < 4294967296
 fl : l.fl < 4294967296
 rm : l.rm < 4294967296
def lmL (l : LmS) : List Value := vbs l.key ++ [.int .u32 l.hw, vb l.ty, .int .u32 l.fl, .int .u32 l.rm]
def lmC (l : LmS) : Array Value := (lmL l).toArray
theorem lmC_size {l : LmS} (h : l.Ok) : (lmC l).size = 36 := by simp [lmC, lmL, h.key]
theorem lm_cells {l : LmS} (h : l.Ok) (X : World) (g : Nat) (t : TypeId) (hX : X.heap[g]? = some (.cells (lmC l) t (0, 0))) :
  X.cell? ⟨g, 32, .none⟩ = some (.int .u32 l.hw) ∧ X.cell? ⟨g, 33, .none⟩ = some (vb l.ty) ∧ X.cell? ⟨g, 34, .none⟩ = some (.int .u32 l.fl) ∧ X.cell? ⟨g, 35, .none⟩ = some (.int .u32 l.rm) := by
 have hk : (vbs l.key).length = 32 := by rw [vbl, h.key]
 refine ⟨?_, ?_, ?_, ?_⟩ <;> (rw [cell_of_row _ _ _ _ _ _ hX]; unfold lmC lmL; rw [List.getElem?_toArray, List.getElem?_append_right (by omega), hk]; rfl)
theorem lm_key {l : LmS} (h : l.Ok) (X : World) (g : Nat) (t : TypeId) (hX : X.heap[g]? = some (.cells (lmC l) t (0, 0))) : ∀ j v, (zb l.key)[j]? = some v → X.cell? ⟨g, 0 + j, .none⟩ = some v := by
 intro j v hv
 rw [Nat.zero_add, cell_of_row _ _ _ _ _ _ hX]
 unfold lmC lmL
 have hv' : (vbs l.key)[j]? = some v := by rw [← hv]; unfold zb; rw [List.getElem?_toArray]
 rw [List.getElem?_toArray, List.getElem?_append_left (List.getElem?_eq_some_iff.1 hv').1]
 exact hv'
theorem pk_sigz {p : PkS} (h : p.Ok) (X : World) (g : Nat) (t : TypeId) (hX : X.heap[g]? = some (.cells (pkC p) t (0, 0))) : ∀ j v, (zb p.sig)[j]? = some v → X.cell? ⟨g, 36 + j, .none⟩ = some v := by
 intro j v hv
 have hv' : (vbs p.sig)[j]? = some v := by rw [← hv]; unfold zb; rw [List.getElem?_toArray]
 exact Lay.cell (pk_sig h X g t hX) j hv'
def accN (p : PkS) (l : LmS) : Nat := if p.hw ≠ l.hw then 10 else if p.ty ≠ l.ty then 11 else if p.sz = 0 ∨ l.rm < p.sz then 12 else if p.ver < l.fl then 13 else if Sg.verB l.key p.sig (signedB p) = true then 0 else 9
theorem paccepted_any (p : PkS) (hpk : p.Ok) (m : LmS) (hm : m.Ok) (w : World) (hT : TabS w) :
  Calls Tryz.prog 28 #[.agg (pkC p), .agg (lmC m)] w fun e w' => e = .returned (.int .i64 (accN p m : Nat)) ∧ Below w.heap.size w w' := by
 have hup := Tryz.underlying28
 have huk := Tryz.underlying29
 have hug := Tryz.underlying26
 have h0 := ((on_all w).alloc (.cells (pkC p) 28)).alloc (.cells (lmC m) 31)
 have s0 := ((Str.refl w).alloc (.cells (pkC p) 28)).alloc (.cells (lmC m) 31)
 simp only [World.size_alloc] at h0
 have H1 := hide h0
 have S1 := hide s0
 have HSz : Hid ((Tryz.prog.info? 28).map (·.size) = some (pkC p).size) := hide (by rw [pkC_size hpk]; kernel_rfl)
 have HsK : Hid ((Tryz.prog.info? 29).map (·.size) = some (zb m.key).size) := hide (by rw [show (zb m.key).size = 32 by simp [zb, vbs, hm.key]]; kernel_rfl)
 have HsG : Hid ((Tryz.prog.info? 26).map (·.size) = some (zb p.sig).size) := hide (by rw [show (zb p.sig).size = 64 by simp [zb, vbs, hpk.sig]]; kernel_rfl)
 have HE := hide (fun X => psigned_any p hpk X)
 have hsl := signedB_len hpk
 have HV := hide (fun u X (h1 : Below w.heap.size w X) (hr : IsRows X u [signedB p]) hz => sver_l m.key p.sig hm.key hpk.sig u [signedB p] X hr hz (hT.below h1) (by simp) (by simp; omega))
 rw [show ([signedB p] : List (List UInt8)).flatten = signedB p by simp] at HV
 have Hc1 := hide (fun X g t h => pk_cells p X g t h)
 have Hc2 := hide (fun X g t h => lm_cells hm X g t h)
 have Hkey := hide (fun X g t h => lm_key hm X g t h)
 have Hsig := hide (fun X g t h => pk_sigz hpk X g t h)
 have HN := hide (show accN p m = if p.hw ≠ m.hw then 10 else if p.ty ≠ m.ty then 11 else if p.sz = 0 ∨ m.rm < p.sz then 12 else if p.ver < m.fl then 13 else if Sg.verB m.key p.sig (signedB p) = true then 0 else 9 from rfl)
 have b1 := hpk.hw
 have b2 := hpk.ver
 have b3 := hpk.sz
 have b4 := hm.hw
 have b5 := hm.fl
 have b6 := hm.rm
 clear h0 s0 hsl hpk hm hT
 generalize hP : pkC p = P at *
 have HP := hide hP
 clear hP
 generalize hM : lmC m = M at *
 have HM := hide hM
 clear hM
 generalize zb m.key = K at *
 generalize zb p.sig = G at *
 go_enter Tryz.func28, Tryz.ntmps28
 refine wp_seq_h fun K1 hK1 => ?_
 go_wp2
 refine hK1.out _ _ ?_
 clear hK1 K1
 generalize (w.alloc (.cells P 28)).alloc (.cells M 31) = w1 at *
 have gP := on_blk_mul H1.out.right
 have gM := on_blk_mul H1.out
 obtain ⟨c0, c1, c2, c3⟩ := Hc1.out w1 _ _ gP
 obtain ⟨d0, d1, d2, d3⟩ := Hc2.out w1 _ _ gM
 have hk0 := Hkey.out w1 _ _ gM
 have hs0 := Hsig.out w1 _ _ gP
 have HB := hide (all_below H1.out.right.right S1.out)
 have bad : ∀ n : Nat, accN p m = n → Hid (accN p m = n) := fun _ h => hide h
 by_cases h1 : p.hw = m.hw
 case neg =>
  have hN := bad 10 (by rw [HN.out, if_pos h1])
  have e1 : (((p.hw : Nat) : Int) != ((m.hw : Nat) : Int)) = true := by simp; omega
  clear h1
  go_wp2
  go_ret
  exact ⟨by rw [hN.out]; rfl, HB.out⟩
 case pos =>
  have e1 : (((p.hw : Nat) : Int) != ((m.hw : Nat) : Int)) = false := by simp; omega
  by_cases h2 : p.ty = m.ty
  case neg =>
   have hN := bad 11 (by rw [HN.out, if_neg (by simp [h1]), if_pos h2])
   have e2 : (((p.ty.toNat : Nat) : Int) != ((m.ty.toNat : Nat) : Int)) = true := by
    have : p.ty.toNat ≠ m.ty.toNat := fun h => h2 (UInt8.toNat_inj.1 h)
    simp; omega
   clear h1 h2
   go_wp2
   go_ret
   exact ⟨by rw [hN.out]; rfl, HB.out⟩
  case pos =>
   have e2 : (((p.ty.toNat : Nat) : Int) != ((m.ty.toNat : Nat) : Int)) = false := by rw [h2]; simp
   by_cases h3 : p.sz = 0 ∨ m.rm < p.sz
   case pos =>
    have hN := bad 12 (by rw [HN.out, if_neg (by simp [h1]), if_neg (by simp [h2]), if_pos h3])
    clear h1 h2
    rcases h3 with h3 | h3
    ·have e3 : (((p.sz : Nat) : Int) == 0) = true := by rw [h3]; rfl
     clear h3
     go_wp2
     go_ret
     exact ⟨by rw [hN.out]; rfl, HB.out⟩
    have e3 : (((p.sz : Nat) : Int) == 0) = false := by simp; omega
    have e4 : ((m.rm : Nat) : Int) < ((p.sz : Nat) : Int) := by omega
    go_wp2
    go_ret
    exact ⟨by rw [hN.out]; rfl, HB.out⟩
   case neg =>
    have e3 : (((p.sz : Nat) : Int) == 0) = false := by simp; omega
    have e4 : ¬ ((m.rm : Nat) : Int) < ((p.sz : Nat) : Int) := by omega
    by_cases h4 : p.ver < m.fl
    case pos =>
     have hN := bad 13 (by rw [HN.out, if_neg (by simp [h1]), if_neg (by simp [h2]), if_neg h3, if_pos h4])
     have e5 : ((p.ver : Nat) : Int) < ((m.fl : Nat) : Int) := by omega
     clear h1 h2 h3 h4
     go_wp2
     go_ret
     exact ⟨by rw [hN.out]; rfl, HB.out⟩
    case neg =>
     have hN0 : accN p m = if Sg.verB m.key p.sig (signedB p) = true then 0 else 9 := by rw [HN.out, if_neg (by simp [h1]), if_neg (by simp [h2]), if_neg h3, if_neg h4]
     have e5 : ¬ ((p.ver : Nat) : Int) < ((m.fl : Nat) : Int) := by omega
     have hve : verE (Sg.verB m.key p.sig (signedB p)) = ((accN p m : Nat) : Int) := by rw [hN0]; unfold verE; split <;> rfl
     have Hve := hide hve
     clear h1 h2 h3 h4 hN0 hve
     go_wp2_with fail
     clear c0 c1 c2 c3 d0 d1 d2 d3 hk0 hs0 gP gM HB
     refine rV [isV (.pointer (some ⟨w.heap.size + 1, 0, .none⟩)), isV (.agg K), isV (.pointer (some ⟨w.heap.size, 36, .none⟩)), isV (.agg G), isV (.agg P), fun v X => IsBytes X v (signedB p), fun v X => IsRows X v [signedB p] ∧ ∀ n c, v = .slice Option.none n c → c = 0, isV (.int .i64 ((accN p m : Nat) : Int)), isV (.int .i64 ((accN p m : Nat) : Int))] ?t63 ?r75 (hk := ?keep)
     case keep => exact ⟨Keep.isV _, Keep.isV _, Keep.isV _, Keep.isV _, Keep.isV _, fun _ _ _ h k => IsBytes.below h k, fun _ _ _ h k => ⟨IsRows.below h.1 k, h.2⟩, Keep.isV _, Keep.isV _, trivial⟩
     case' t63 => refine ⟨?_, ?_, ?_, ?_, ?_, ?_, ?_, ?_, ?_, trivial⟩ <;> intro ev X hT hb hk hf
     ·exact OpOk.s (fV ev 3 (.pointer (some ⟨w.heap.size + 1, 0, .none⟩)) hk.1) hb
     ·exact OpOk.lp (fX ev 34 hf.1) (Hkey.out X _ _ (on_blk_mul (H1.out.below hT))) huk HsK.out
     ·exact OpOk.s (fV ev 2 (.pointer (some ⟨w.heap.size, 0, .none⟩)) hk.1) hb
     ·exact OpOk.lp (fX ev 36 hf.1) (Hsig.out X _ _ (on_blk_mul (H1.out.below hT).right)) hug HsG.out
     ·exact OpOk.l (fV ev 2 (.pointer (some ⟨w.heap.size, 0, .none⟩)) hk.1) (on_blk_mul (H1.out.below hT).right) hup HSz.out
     ·refine OpOk.enters (f := 13) (args := #[.agg P]) (W' := X) (by simp [execOp, resolve, invoke, fX ev 38 hf.1, hb.1, hb.2.1, go_sem]) ((HE.out X).mono ?_)
      rintro e X2 ⟨v5, rfl, h5, h6⟩
      exact ⟨_, rfl, own_bytes h5, all_below h5.right h6⟩
     ·have e0 : IsBytes X (ev (.tmp 39)) (signedB p) := hf.1
      have hr := IsRows.one e0 35
      have e1 := e0
      obtain ⟨ua, uc, eu, _⟩ := e1
      exact OpOk.run (v := .slice (some ⟨X.heap.size, 0, .none⟩) 1 1) (W' := X.alloc (.cells #[ev (.tmp 39)] 35)) (by simp [execOp, eu, go_sem]) ⟨⟨hr, fun n c e => by injection e with e1; cases e1⟩, (Below.refl X.heap.size X).alloc (Nat.le_refl _) _⟩
     ·have e2 : IsRows X (ev (.tmp 40)) [signedB p] ∧ ∀ n c, ev (.tmp 40) = .slice Option.none n c → c = 0 := hf.2.2.1
      refine OpOk.enters (by simp [execOp, resolve, invoke, fX ev 35 hf.1, fX ev 37 hf.2.1, hb.1, hb.2.1, go_sem]) ((HV.out _ _ (all_below (H1.out.below hT).right.right (S1.out.trans (Str.below hT))) e2.1 e2.2).mono ?_)
      rintro e _ ⟨rfl, hB⟩
      exact ⟨_, rfl, congrArg (Value.int .i64) Hve.out, hB⟩
     ·exact OpOk.assign rfl rfl ⟨(fX ev 41 hf.1), Stay.refl _⟩
     intro w4 hX
     rintro _ rfl _ rfl _ rfl _ rfl _ rfl _ - _ - _ rfl _ rfl
     have HB := hide (all_below (H1.out.below hX).right.right (S1.out.trans (Str.below hX)))
     clear hX H1 S1
     go_wp2
     refine Rest.done ?_
     go_wp2
     go_ret
     exact ⟨rfl, HB.out⟩
theorem bz_arm {ops : Array Oper} {rest : List Oper} {o : Oper} {a : Act} {w : World} {Q : Exit → Act → World → Prop} (hgd : o.guard = Option.none) (T : TypeId) (ho : o.op = .build T #[])
  (R : Array Value) (hb : (Instr.build T #[]).run Tryz.prog w = .ok (.agg R) w) (hk : wpList Tryz.prog ops Q rest (a.put o.dst (.agg R)) w) : wpList Tryz.prog ops Q (o :: rest) a w := by
 have hr : (execOp a.eval o).run Tryz.prog w = .ok (.value (.agg R)) w := by
  unfold execOp
  rw [ho]
  simp only [List.map_toArray, List.map_nil]
  rw [Sem.run_bind, hb]
  rfl
 exact wpList_plain hgd fun _ hK => by
  unfold Oper.wp
  simp only [hr]
  exact hK _ _ hk
theorem pk_build0 (w : World) : (Instr.build 28 #[]).run Tryz.prog w = .ok (.agg (pkC zP)) w := by kernel_rfl
def chkP (b : List UInt8) (m : LmS) : PkS × Nat := if (pparse b).2 = 0 then (if accN (pparse b).1 m = 0 then ((pparse b).1, 0) else (zP, accN (pparse b).1 m)) else (zP, (pparse b).2)
theorem pcheck_any (v : Value) (b : List UInt8) (m : LmS) (hm : m.Ok) (w : World) (h : IsBytes w v b) (hlen : b.length ≤ 1000000) (hLens : Lens w) (hT : TabS w) :
  Calls Tryz.prog 10 #[v, .agg (lmC m)] w (PkEnd pkC (chkP b m) w) := by
 have hup := Tryz.underlying28
 have hum := Tryz.underlying31
 have h0 := ((on_all w).alloc (.cells (lmC m) 31)).alloc (.cells (pkC zP) 28)
 have s0 := ((Str.refl w).alloc (.cells (lmC m) 31)).alloc (.cells (pkC zP) 28)
 simp only [World.size_alloc] at h0
 have H1 := hide h0
 have S1 := hide s0
 have hok : (pparse b).1.Ok := pparse_ok
 have Hparse := hide (pkparse_any v b _ (h.below (all_below h0.right.right s0)) hlen (hLens.below (all_below h0.right.right s0)))
 have HA := hide (fun X (hB : Below w.heap.size w X) => paccepted_any (pparse b).1 hok m hm X (hT.below hB))
 have HsM : Hid ((Tryz.prog.info? 31).map (·.size) = some (lmC m).size) := hide (by rw [lmC_size hm]; kernel_rfl)
 have HsP : Hid ((Tryz.prog.info? 28).map (·.size) = some (pkC (pparse b).1).size) := hide (by rw [pkC_size hok]; kernel_rfl)
 have HsZ : Hid ((Tryz.prog.info? 28).map (·.size) = some (pkC zP).size) := hide (by rw [pkC_size zP_ok]; kernel_rfl)
 have HZP : Hid ((pkC zP).size = (pkC (pparse b).1).size) := hide (by rw [pkC_size zP_ok, pkC_size hok])
 have HoP := hide (pkC_one (pparse b).1)
 have HoZ := hide (pkC_one zP)
 have Hb := hide (fun X => pk_build0 X)
 have hz := pk_hz
 have hE1 : (pparse b).2 ≠ 0 → chkP b m = (zP, (pparse b).2) := fun h => by unfold chkP; rw [if_neg h]
 have hE2 : (pparse b).2 = 0 → accN (pparse b).1 m ≠ 0 → chkP b m = (zP, accN (pparse b).1 m) := fun h h2 => by unfold chkP; rw [if_pos h, if_neg h2]
 have hE3 : (pparse b).2 = 0 → accN (pparse b).1 m = 0 → chkP b m = ((pparse b).1, 0) := fun h h2 => by unfold chkP; rw [if_pos h, if_pos h2]
 have HE1 := hide hE1
 have HE2 := hide hE2
 have HE3 := hide hE3
 clear h0 s0 hE1 hE2 hE3 h hLens hT hm hok
 generalize chkP b m = RR at *
 generalize accN (pparse b).1 m = an at *
 generalize hpe : (pparse b).2 = en at *
 have Hpe := hide hpe
 clear hpe
 generalize hpp : (pparse b).1 = pp at *
 have Hpp := hide hpp
 clear hpp
 generalize hP : pkC pp = P at *
 have HP := hide hP
 clear hP
 generalize hZe : pkC zP = Z at *
 have HZe := hide hZe
 clear hZe
 generalize lmC m = M at *
 go_enter Tryz.func10, Tryz.ntmps10
 go_wp2_with fail
 refine Hparse.out.mono ?_
 clear Hparse
 rintro e w2 ⟨rfl, hB⟩
 rw [Hpe.out, Hpp.out, HP.out]
 obtain ⟨H2, S2⟩ := nx H1.out S1.out hB
 clear hB H1 S1
 obtain ⟨gN, gM, H3, S3⟩ := newV H2.out S2.out Z P 28
 by_cases h0 : en = 0
 case neg =>
  have e0 : (((en : Nat) : Int) == 0) = false := by simp; omega
  have e1 : (((en : Nat) : Int) != 0) = true := by simp; omega
  have HR := hide (HE1.out h0)
  clear h0
  have gP := on_blk_mul H3.out
  have gR := on_blk_mul H3.out.right
  have gM := on_blk_mul H3.out.right.right
  have HB := hide (all_below H3.out.right.right.right S3.out)
  go_wp2_with (first
   | (refine wS gN HsP.out HZP.out HoP.out ?_)
   | (refine bz_arm rfl 28 rfl Z (Hb.out _) ?_)
   | (refine wS gR HsZ.out rfl HoZ.out ?_)
   | (refine wL gP hup HsP ?_)
   | (refine wL gM hum HsM ?_))
  refine rT Tryz.results10 gR hup HsZ.out (.int .i64 (en : Nat)) ?_
  refine ⟨?_, below_setRow HB.out (by omega) _⟩
  rw [HR.out]
  exact congrArg (fun x => Ending.returned (.tuple #[.agg x, .int .i64 (en : Nat)])) HZe.out.symm
 case pos =>
  subst h0
  have gP := on_blk_mul H3.out
  have gR := on_blk_mul H3.out.right
  have gM := on_blk_mul H3.out.right.right
  go_wp2_with (first
   | (refine wS gN HsP.out HZP.out HoP.out ?_)
   | (refine bz_arm rfl 28 rfl Z (Hb.out _) ?_)
   | (refine wS gR HsZ.out rfl HoZ.out ?_)
   | (refine wL gP hup HsP ?_)
   | (refine wL gM hum HsM ?_))
  refine (HA.out _ (all_below H3.out.right.right.right S3.out)).mono ?_
  rintro e w4 ⟨rfl, hB⟩
  obtain ⟨H4, S4⟩ := nx H3.out S3.out hB
  clear hB gP gR gM H3 S3
  have gP := on_blk_mul H4.out
  have gR := on_blk_mul H4.out.right
  have gM := on_blk_mul H4.out.right.right
  have HB := hide (all_below H4.out.right.right.right S4.out)
  by_cases h0 : an = 0
  case neg =>
   have e1 : (((an : Nat) : Int) != 0) = true := by simp; omega
   have HR := hide (HE2.out (by first | rfl | trivial) h0)
   clear h0
   go_wp2_with (first
    | (refine bz_arm rfl 28 rfl Z (Hb.out _) ?_)
    | (refine wS gR HsZ.out rfl HoZ.out ?_)
    | (refine wL gP hup HsP ?_)
    | (refine wL gM hum HsM ?_))
   refine rT Tryz.results10 gR hup HsZ.out (.int .i64 (an : Nat)) ?_
   refine ⟨?_, below_setRow HB.out (by omega) _⟩
   rw [HR.out]
   exact congrArg (fun x => Ending.returned (.tuple #[.agg x, .int .i64 (an : Nat)])) HZe.out.symm
  case pos =>
   subst h0
   have HR := hide (HE3.out (by first | rfl | trivial) (by first | rfl | trivial))
   go_wp2_with (first
    | (refine bz_arm rfl 28 rfl Z (Hb.out _) ?_)
    | (refine wS gR HsP.out HZP.out HoP.out ?_)
    | (refine wL gP hup HsP ?_)
    | (refine wL gM hum HsM ?_))
   refine rT Tryz.results10 gR hup HsP.out (.int .i64 0) ?_
   refine ⟨?_, below_setRow HB.out (by omega) _⟩
   rw [HR.out]
   exact congrArg (fun x => Ending.returned (.tuple #[.agg x, .int .i64 0])) HP.out.symm
theorem rp_build0 (w : World) : (Instr.build 38 #[]).run Tryz.prog w = .ok (.agg (rpC zP)) w := by kernel_rfl
theorem pparse_bad (b : List UInt8) (h : (pparse b).2 ≠ 0) : (pparse b).1 = zP := by
 unfold pparse at h ⊢
 split
 ·rfl
 split
 ·rfl
 split
 ·simp_all
 rfl
theorem rp_sigz {p : PkS} (h : p.Ok) (X : World) (g : Nat) (t : TypeId) (hX : X.heap[g]? = some (.cells (rpC p) t (0, 0))) : ∀ j v, (zb p.sig)[j]? = some v → X.cell? ⟨g, 36 + j, .none⟩ = some v := by
 intro j v hv
 have hv' : (vbs p.sig)[j]? = some v := by rw [← hv]; unfold zb; rw [List.getElem?_toArray]
 exact Lay.cell (rp_sig h X g t hX) j hv'
theorem rcheck_any (v : Value) (b : List UInt8) (m : LmS) (hm : m.Ok) (w : World) (h : IsBytes w v b) (hlen : b.length ≤ 1000000) :
  Calls Tryz.prog 11 #[v, .agg (lmC m)] w (PkEnd rpC (chkP b m) w) := by
 have hup := Tryz.underlying38
 have huk := Tryz.underlying22
 have hug := Tryz.underlying25
 have h0 := ((on_all w).alloc (.cells (lmC m) 47)).alloc (.cells (rpC zP) 38)
 have s0 := ((Str.refl w).alloc (.cells (lmC m) 47)).alloc (.cells (rpC zP) 38)
 simp only [World.size_alloc] at h0
 have H1 := hide h0
 have S1 := hide s0
 have hok : (pparse b).1.Ok := pparse_ok
 have Hparse := hide (rpparse_any v b _ (h.below (all_below h0.right.right s0)) hlen)
 have HS := hide (fun X => rsigned_any (pparse b).1 hok X)
 have HV := hide (fun u X (hu : IsBytes X u (signedB (pparse b).1)) => rver_l m.key (pparse b).1.sig hm.key hok.sig u (signedB (pparse b).1) X hu (by rw [signedB_len hok]; decide))
 have HsK : Hid ((Tryz.prog.info? 22).map (·.size) = some (zb m.key).size) := hide (by rw [show (zb m.key).size = 32 by simp [zb, vbs, hm.key]]; kernel_rfl)
 have HsG : Hid ((Tryz.prog.info? 25).map (·.size) = some (zb (pparse b).1.sig).size) := hide (by rw [show (zb (pparse b).1.sig).size = 64 by simp [zb, vbs, hok.sig]]; kernel_rfl)
 have HsP : Hid ((Tryz.prog.info? 38).map (·.size) = some (rpC (pparse b).1).size) := hide (by rw [rpC_size hok]; kernel_rfl)
 have HsZ : Hid ((Tryz.prog.info? 38).map (·.size) = some (rpC zP).size) := hide (by rw [rpC_size zP_ok]; kernel_rfl)
 have HZP : Hid ((rpC zP).size = (rpC (pparse b).1).size) := hide (by rw [rpC_size zP_ok, rpC_size hok])
 have HoP := hide (rpC_one (pparse b).1)
 have HoZ := hide (rpC_one zP)
 have Hb := hide (fun X => rp_build0 X)
 have hz := rp_hz
 have Hc1 := hide (fun X g t h => rp_cells (pparse b).1 X g t h)
 have Hc2 := hide (fun X g t h => lm_cells hm X g t h)
 have Hkey := hide (fun X g t h => lm_key hm X g t h)
 have Hsig := hide (fun X g t h => rp_sigz hok X g t h)
 have hE1 : (pparse b).2 ≠ 0 → chkP b m = ((pparse b).1, (pparse b).2) := fun h => by unfold chkP; rw [if_neg h, pparse_bad b h]
 have hE2 : (pparse b).2 = 0 → ∀ n, n ≠ 0 → accN (pparse b).1 m = n → chkP b m = (zP, n) := fun h n hn h2 => by unfold chkP; rw [if_pos h, h2, if_neg hn]
 have hE3 : (pparse b).2 = 0 → accN (pparse b).1 m = 0 → chkP b m = ((pparse b).1, 0) := fun h h2 => by unfold chkP; rw [if_pos h, if_pos h2]
 have HE1 := hide hE1
 have HE2 := hide hE2
 have HE3 := hide hE3
 have HN := hide (show accN (pparse b).1 m = if (pparse b).1.hw ≠ m.hw then 10 else if (pparse b).1.ty ≠ m.ty then 11 else if (pparse b).1.sz = 0 ∨ m.rm < (pparse b).1.sz then 12 else if (pparse b).1.ver < m.fl then 13 else if Sg.verB m.key (pparse b).1.sig (signedB (pparse b).1) = true then 0 else 9 from rfl)
 have b1 := hok.hw
 have b2 := hok.ver
 have b3 := hok.sz
 have b4 := hm.hw
 have b5 := hm.fl
 have b6 := hm.rm
 clear h0 s0 hE1 hE2 hE3 h hm hok
 generalize chkP b m = RR at *
 generalize hpe : (pparse b).2 = en at *
 have Hpe := hide hpe
 clear hpe
 generalize hpp : (pparse b).1 = pp at *
 have Hpp := hide hpp
 clear hpp
 generalize accN pp m = an at *
 generalize signedB pp = sb at *
 generalize zb m.key = K at *
 generalize zb pp.sig = G at *
 generalize Sg.verB m.key pp.sig sb = vv at *
 generalize hP : rpC pp = P at *
 have HP := hide hP
 clear hP
 generalize hZe : rpC zP = Z at *
 have HZe := hide hZe
 clear hZe
 generalize lmC m = M at *
 go_enter Tryz.func11, Tryz.ntmps11
 go_wp2_with fail
 refine Hparse.out.mono ?_
 clear Hparse
 rintro e w2 ⟨rfl, hB⟩
 rw [Hpe.out, Hpp.out, HP.out]
 obtain ⟨H2, S2⟩ := nx H1.out S1.out hB
 clear hB H1 S1
 obtain ⟨gN, gM, H3, S3⟩ := newV H2.out S2.out Z P 38
 have gP := on_blk_mul H3.out
 have gR := on_blk_mul H3.out.right
 have gT := on_blk_mul H3.out.right.right
 obtain ⟨c0, c1, c2, c3⟩ := Hc1.out _ _ _ gP
 obtain ⟨d0, d1, d2, d3⟩ := Hc2.out _ _ _ gT
 have HB := hide (all_below H3.out.right.right.right S3.out)
 by_cases h0 : en = 0
 case neg =>
  have e1 : (((en : Nat) : Int) != 0) = true := by simp; omega
  have HR := hide (HE1.out h0)
  clear h0 c0 c1 c2 c3 d0 d1 d2 d3
  go_wp2_with (first
   | (refine wS gN HsP.out HZP.out HoP.out ?_)
   | (refine bz_arm rfl 38 rfl Z (Hb.out _) ?_)
   | (refine wS gR HsP.out HZP.out HoP.out ?_)
   | (refine wL gP hup HsP ?_))
  refine rT Tryz.results11 gR hup HsP.out (.int .i64 (en : Nat)) ?_
  refine ⟨?_, below_setRow HB.out (by omega) _⟩
  rw [HR.out]
  exact congrArg (fun x => Ending.returned (.tuple #[.agg x, .int .i64 (en : Nat)])) HP.out.symm
 case pos =>
  subst h0
  by_cases h1 : pp.hw = m.hw
  case neg =>
   have HR := hide (HE2.out (by first | rfl | trivial) 10 (by decide) (by rw [HN.out, if_pos h1]))
   have e1 : (((pp.hw : Nat) : Int) != ((m.hw : Nat) : Int)) = true := by simp; omega
   clear h1
   go_wp2_with (first
    | (refine wS gN HsP.out HZP.out HoP.out ?_)
    | (refine bz_arm rfl 38 rfl Z (Hb.out _) ?_)
    | (refine wS gR HsZ.out rfl HoZ.out ?_)
    | (refine wL gP hup HsP ?_))
   refine rT Tryz.results11 gR hup HsZ.out (.int .i64 10) ?_
   refine ⟨?_, below_setRow HB.out (by omega) _⟩
   rw [HR.out]
   exact congrArg (fun x => Ending.returned (.tuple #[.agg x, .int .i64 10])) HZe.out.symm
  case pos =>
   have e1 : (((pp.hw : Nat) : Int) != ((m.hw : Nat) : Int)) = false := by simp; omega
   by_cases h2 : pp.ty = m.ty
   case neg =>
    have HR := hide (HE2.out (by first | rfl | trivial) 11 (by decide) (by rw [HN.out, if_neg (by simp [h1]), if_pos h2]))
    have e2 : (((pp.ty.toNat : Nat) : Int) != ((m.ty.toNat : Nat) : Int)) = true := by
     have : pp.ty.toNat ≠ m.ty.toNat := fun h => h2 (UInt8.toNat_inj.1 h)
     simp; omega
    clear h1 h2
    go_wp2_with (first
     | (refine wS gN HsP.out HZP.out HoP.out ?_)
     | (refine bz_arm rfl 38 rfl Z (Hb.out _) ?_)
     | (refine wS gR HsZ.out rfl HoZ.out ?_)
     | (refine wL gP hup HsP ?_))
    refine rT Tryz.results11 gR hup HsZ.out (.int .i64 11) ?_
    refine ⟨?_, below_setRow HB.out (by omega) _⟩
    rw [HR.out]
    exact congrArg (fun x => Ending.returned (.tuple #[.agg x, .int .i64 11])) HZe.out.symm
   case pos =>
    have e2 : (((pp.ty.toNat : Nat) : Int) != ((m.ty.toNat : Nat) : Int)) = false := by rw [h2]; simp
    by_cases h3 : pp.sz = 0 ∨ m.rm < pp.sz
    case pos =>
     have HR := hide (HE2.out (by first | rfl | trivial) 12 (by decide) (by rw [HN.out, if_neg (by simp [h1]), if_neg (by simp [h2]), if_pos h3]))
     clear h1 h2
     rcases h3 with h3 | h3
     case inl =>
      have e3 : (((pp.sz : Nat) : Int) == 0) = true := by rw [h3]; rfl
      clear h3
      go_wp2_with (first
       | (refine wS gN HsP.out HZP.out HoP.out ?_)
       | (refine bz_arm rfl 38 rfl Z (Hb.out _) ?_)
       | (refine wS gR HsZ.out rfl HoZ.out ?_)
       | (refine wL gP hup HsP ?_))
      refine rT Tryz.results11 gR hup HsZ.out (.int .i64 12) ?_
      refine ⟨?_, below_setRow HB.out (by omega) _⟩
      rw [HR.out]
      exact congrArg (fun x => Ending.returned (.tuple #[.agg x, .int .i64 12])) HZe.out.symm
     case inr =>
      have e3 : (((pp.sz : Nat) : Int) == 0) = false := by simp; omega
      have e4 : ((m.rm : Nat) : Int) < ((pp.sz : Nat) : Int) := by omega
      go_wp2_with (first
       | (refine wS gN HsP.out HZP.out HoP.out ?_)
       | (refine bz_arm rfl 38 rfl Z (Hb.out _) ?_)
       | (refine wS gR HsZ.out rfl HoZ.out ?_)
       | (refine wL gP hup HsP ?_))
      refine rT Tryz.results11 gR hup HsZ.out (.int .i64 12) ?_
      refine ⟨?_, below_setRow HB.out (by omega) _⟩
      rw [HR.out]
      exact congrArg (fun x => Ending.returned (.tuple #[.agg x, .int .i64 12])) HZe.out.symm
    case neg =>
     have e3 : (((pp.sz : Nat) : Int) == 0) = false := by simp; omega
     have e4 : ¬ ((m.rm : Nat) : Int) < ((pp.sz : Nat) : Int) := by omega
     by_cases h4 : pp.ver < m.fl
     case pos =>
      have HR := hide (HE2.out (by first | rfl | trivial) 13 (by decide) (by rw [HN.out, if_neg (by simp [h1]), if_neg (by simp [h2]), if_neg h3, if_pos h4]))
      have e5 : ((pp.ver : Nat) : Int) < ((m.fl : Nat) : Int) := by omega
      clear h1 h2 h3 h4
      go_wp2_with (first
       | (refine wS gN HsP.out HZP.out HoP.out ?_)
       | (refine bz_arm rfl 38 rfl Z (Hb.out _) ?_)
       | (refine wS gR HsZ.out rfl HoZ.out ?_)
       | (refine wL gP hup HsP ?_))
      refine rT Tryz.results11 gR hup HsZ.out (.int .i64 13) ?_
      refine ⟨?_, below_setRow HB.out (by omega) _⟩
      rw [HR.out]
      exact congrArg (fun x => Ending.returned (.tuple #[.agg x, .int .i64 13])) HZe.out.symm
     case neg =>
      have HN0 := hide (show an = if vv = true then 0 else 9 by rw [HN.out, if_neg (by simp [h1]), if_neg (by simp [h2]), if_neg h3, if_neg h4])
      have e5 : ¬ ((pp.ver : Nat) : Int) < ((m.fl : Nat) : Int) := by omega
      clear h1 h2 h3 h4
      go_wp2_with (first
       | (refine wS gN HsP.out HZP.out HoP.out ?_)
       | (refine bz_arm rfl 38 rfl Z (Hb.out _) ?_)
       | (refine wS gR HsZ.out rfl HoZ.out ?_)
       | (refine wL gP hup HsP ?_))
      generalize (w2.alloc (.cells Z 38)).setRow w2.heap.size P = w3 at *
      clear c0 c1 c2 c3 d0 d1 d2 d3 gP gR gT gN gM H2 S2
      refine rV [isV (.pointer (some ⟨w.heap.size, 0, .none⟩)), isV (.agg K), isV (.agg P), fun v X => IsBytes X v sb, isV (.pointer (some ⟨w2.heap.size, 36, .none⟩)), isV (.agg G), isV (.bool vv), isV (.bool vv)] ?t64 ?r76 (hk := ?keep)
      case keep => exact ⟨Keep.isV _, Keep.isV _, Keep.isV _, fun _ _ _ h k => IsBytes.below h k, Keep.isV _, Keep.isV _, Keep.isV _, Keep.isV _, trivial⟩
      case' t64 => refine ⟨?_, ?_, ?_, ?_, ?_, ?_, ?_, ?_, trivial⟩ <;> intro ev X hT hb hk hf
      ·exact OpOk.s (fV ev 3 (.pointer (some ⟨w.heap.size, 0, .none⟩)) hk.1) hb
      ·exact OpOk.lp (fX ev 47 hf.1) (Hkey.out X _ _ (on_blk_mul (H3.out.below hT).right.right)) huk HsK.out
      ·exact OpOk.l (x := .tmp 6) hk.1 (on_blk_mul (H3.out.below hT)) hup HsP.out
      ·refine OpOk.enters (by simp [execOp, resolve, invoke, fX ev 49 hf.1, hb.1, hb.2.1, go_sem]) ((HS.out X).mono ?_)
       rintro e X2 ⟨v5, rfl, h5, h6⟩
       exact ⟨_, rfl, own_bytes h5, all_below h5.right h6⟩
      ·exact OpOk.s (fV ev 6 (.pointer (some ⟨w2.heap.size, 0, .none⟩)) hk.1) hb
      ·exact OpOk.lp (fX ev 51 hf.1) (Hsig.out X _ _ (on_blk_mul (H3.out.below hT))) hug HsG.out
      ·have e1 : IsBytes X (ev (.tmp 50)) sb := hf.2.1
       exact OpOk.c2 (fX ev 48 hf.1) (fX ev 52 hf.2.2.1) hb (HV.out _ X e1)
      ·exact OpOk.assign rfl rfl ⟨(fX ev 53 hf.1), Stay.refl _⟩
      intro w4 hX
      rintro _ rfl _ rfl _ rfl _ - _ rfl _ rfl _ rfl _ rfl
      obtain ⟨H4, S4⟩ := nx H3.out S3.out hX
      clear hX H3 S3 HB
      have gP := on_blk_mul H4.out
      have gR := on_blk_mul H4.out.right
      have HB := hide (all_below H4.out.right.right.right S4.out)
      cases vv
      case false =>
       have HR := hide (HE2.out (by first | rfl | trivial) 9 (by decide) (by rw [HN0.out]; rfl))
       go_wp2
       refine Rest.done ?_
       go_wp2_with (first
        | (refine bz_arm rfl 38 rfl Z (Hb.out _) ?_)
        | (refine wS gR HsZ.out rfl HoZ.out ?_)
        | (refine wL gP hup HsP ?_))
       refine rT Tryz.results11 gR hup HsZ.out (.int .i64 9) ?_
       refine ⟨?_, below_setRow HB.out (by omega) _⟩
       rw [HR.out]
       exact congrArg (fun x => Ending.returned (.tuple #[.agg x, .int .i64 9])) HZe.out.symm
      case true =>
       have HR := hide (HE3.out (by first | rfl | trivial) (by rw [HN0.out]; rfl))
       go_wp2
       refine Rest.done ?_
       go_wp2_with (first
        | (refine bz_arm rfl 38 rfl Z (Hb.out _) ?_)
        | (refine wS gR HsP.out HZP.out HoP.out ?_)
        | (refine wL gP hup HsP ?_))
       refine rT Tryz.results11 gR hup HsP.out (.int .i64 0) ?_
       refine ⟨?_, below_setRow HB.out (by omega) _⟩
       rw [HR.out]
       exact congrArg (fun x => Ending.returned (.tuple #[.agg x, .int .i64 0])) HP.out.symm
def pubL (s : List UInt8) : List UInt8 := bl (pubN (leN s))
def sigL (s m : List UInt8) : List UInt8 := bl (sigRN (leN s) m) ++ bl (Sg.sigT (bl (leN s)) m)
theorem pubL_len (s : List UInt8) : (pubL s).length = 32 := bl_len _
theorem sigL_len (s m : List UInt8) : (sigL s m).length = 64 := by unfold sigL; rw [List.length_append, bl_len, bl_len]
theorem pub_l (s : List UInt8) (hs : s.length = 32) (w : World) :
  Calls Tryz.prog 5 #[.agg (zb s)] w fun e w' => e = .returned (.agg (zb (pubL s))) ∧ Below w.heap.size w w' := by
 rw [zb_of s hs]
 exact mpublic_any _ (leN_lt8 s hs) w
theorem sign_l (s : List UInt8) (hs : s.length = 32) (v : Value) (m : List UInt8) (w : World) (h : IsBytes w v m) (hm : m.length ≤ 10000) :
  Calls Tryz.prog 6 #[.agg (zb s), v] w fun e w' => e = .returned (.agg (zb (sigL s m))) ∧ Below w.heap.size w w' := by
 rw [zb_of s hs]
 exact msign_any _ (leN_lt8 s hs) v m w h hm
theorem wpList_store_sp {P : Program} {ops : Array Oper} {rest : List Oper} {o : Oper} {a : Act} {w : World} {Q : Exit → Act → World → Prop} {F : SP} (hgd : o.guard = Option.none) (ty : TypeId) (x y : Operand) (ho : o.op = .store ty x y)
  (g off : Nat) (cells : List Value) (hx : a.eval x = .pointer (some ⟨g, off, .none⟩)) (hy : (a.eval y).cells = cells.toArray) (t : TypeId) (old : Array Value) (H : (blk g (.cells old t (0, 0)) * F).on w) (hi : (P.info? ty).map (·.size) = some cells.length)
  (hl : off + cells.length ≤ old.size) (h1 : ∀ v ∈ cells, v.oneCell' = true) (new : Array Value) (hn : old.toList.take off ++ cells ++ old.toList.drop (off + cells.length) = new.toList)
  (h : ∀ w', (blk g (.cells new t (0, 0)) * F).on w' → Str w w' → wpList P ops Q rest (a.put o.dst undef) w') : wpList P ops Q (o :: rest) a w :=
 wpList_plain hgd fun _ hK => by
  have hs := run_storeCells_at (P := P) g off t cells 0 old w (on_blk_mul H) (by simpa using hl) h1
  simp only [Nat.add_zero, hn, Array.toArray_toList] at hs
  have hv : (storeVar ty ⟨g, off, .none⟩ (a.eval y)).run P w = .ok () (w.setRow g new) := by
   cases hq : P.info? ty with
   | none => simp [hq] at hi
   | some i =>
    have hz : cells.length = i.size := by simp [hq] at hi; omega
    simp [storeVar, sizeOf, typeInfo, hq, hy, hz, hs]
  unfold Oper.wp execOp
  simp only [ho, hx, Instr.storeAt, Instr.sureAddr, Sem.run_bind, Sem.run_pure, Result.andThen_ok, hv]
  exact hK _ _ (h _ (H.setRow new) ((Str.refl w).setRow g new))
theorem vbs_one (l : List UInt8) : ∀ v ∈ vbs l, v.oneCell' = true := by
 intro v hv
 simp only [vbs, List.mem_map] at hv
 obtain ⟨y, _, rfl⟩ := hv
 rfl
theorem lm_new_key (m : LmS) (h : m.key.length = 32) (k : List UInt8) (hk : k.length = 32) : (lmC m).toList.take 0 ++ vbs k ++ (lmC m).toList.drop (0 + (vbs k).length) = (lmC { m with key := k }).toList := by
 have e1 : (vbs k).length = 32 := by simp [hk]
 have e2 : (vbs m.key).length = 32 := by simp [h]
 rw [e1]
 show [] ++ vbs k ++ (vbs m.key ++ [Value.int .u32 m.hw, vb m.ty, .int .u32 m.fl, .int .u32 m.rm]).drop (0 + 32) = vbs k ++ [Value.int .u32 m.hw, vb m.ty, .int .u32 m.fl, .int .u32 m.rm]
 rw [Nat.zero_add, List.drop_left' e2, List.nil_append]
theorem pk_new_sig (p : PkS) (h : p.Ok) (s : List UInt8) (hs : s.length = 64) : (pkC p).toList.take 36 ++ vbs s ++ (pkC p).toList.drop (36 + (vbs s).length) = (pkC { p with sig := s }).toList := by
 have e1 : (vbs s).length = 64 := by simp [hs]
 have e2 : (vbs p.hash).length = 32 := by simp [h.hash]
 have e3 : (vbs p.sig).length = 64 := by simp [h.sig]
 rw [e1]
 show ([Value.int .u32 p.hw, vb p.ty, .int .u32 p.ver, .int .u32 p.sz] ++ (vbs p.hash ++ vbs p.sig)).take 36 ++ vbs s ++ ([Value.int .u32 p.hw, vb p.ty, .int .u32 p.ver, .int .u32 p.sz] ++ (vbs p.hash ++ vbs p.sig)).drop (36 + 64) = [Value.int .u32 p.hw, vb p.ty, .int .u32 p.ver, .int .u32 p.sz] ++ (vbs p.hash ++ vbs s)
 rw [← List.append_assoc [_, _, _, _] (vbs p.hash) (vbs p.sig), List.take_left' (by simp [h.hash]), List.drop_eq_nil_of_le (by simp [h.hash, h.sig]), List.append_nil]
 exact List.append_assoc _ _ _
theorem rl_hz (w : World) : (zeroValue 47).run Tryz.prog w = .ok (.agg (lmC ⟨List.replicate 32 0, 0, 0, 0, 0⟩)) w := by kernel_rfl
theorem lmC_sz (k : List UInt8) (a : Nat) (t : UInt8) (b c : Nat) (e : k.length = 32) : (lmC ⟨k, a, t, b, c⟩).size = 36 := by simp [lmC, lmL, e]
theorem rl_fill (m : LmS) (h : m.Ok) : Instr.fill (#[(0, 32), (32, 1), (33, 1), (34, 1), (35, 1)][·]?) (lmC ⟨List.replicate 32 0, 0, 0, 0, 0⟩) [(0, .agg (zb m.key)), (1, .int .u32 m.hw), (2, vb m.ty), (3, .int .u32 m.fl), (4, .int .u32 m.rm)] = some (lmC m) := by
 have e1 : (vbs m.key).length = 32 := by simp [h.key]
 rw [fill_cons _ _ _ _ _ 0 32 (vbs m.key) rfl rfl e1 (by rw [lmC_sz _ _ _ _ _ rfl]; decide) (lmC ⟨m.key, 0, 0, 0, 0⟩) rfl]
 rw [fill_cons _ _ _ _ _ 32 1 [.int .u32 m.hw] rfl rfl rfl (by rw [lmC_sz _ _ _ _ _ h.key]; decide) (lmC ⟨m.key, m.hw, 0, 0, 0⟩) (by show (vbs m.key ++ _).take 32 ++ _ ++ (vbs m.key ++ _).drop (32 + 1) = _; rw [List.take_left' e1, ← List.drop_drop, List.drop_left' e1]; exact List.append_assoc _ _ _)]
 have cut : ∀ (a b : List Value) (k : Nat), k = 32 + a.length → (vbs m.key ++ (a ++ b)).take k = vbs m.key ++ a ∧ (vbs m.key ++ (a ++ b)).drop k = b := by
  intro a b k hk
  rw [← List.append_assoc]
  exact ⟨List.take_left' (by simp [h.key, hk]), List.drop_left' (by simp [h.key, hk])⟩
 rw [fill_cons _ _ _ _ _ 33 1 [vb m.ty] rfl rfl rfl (by rw [lmC_sz _ _ _ _ _ h.key]; decide) (lmC ⟨m.key, m.hw, m.ty, 0, 0⟩) (by
  show (vbs m.key ++ ([Value.int .u32 m.hw] ++ _)).take 33 ++ _ ++ (vbs m.key ++ ([Value.int .u32 m.hw, vb 0] ++ _)).drop (33 + 1) = _
  rw [(cut _ _ 33 rfl).1, (cut _ _ 34 rfl).2, List.append_assoc, List.append_assoc]
  rfl)]
 rw [fill_cons _ _ _ _ _ 34 1 [.int .u32 m.fl] rfl rfl rfl (by rw [lmC_sz _ _ _ _ _ h.key]; decide) (lmC ⟨m.key, m.hw, m.ty, m.fl, 0⟩) (by
  show (vbs m.key ++ ([Value.int .u32 m.hw, vb m.ty] ++ _)).take 34 ++ _ ++ (vbs m.key ++ ([Value.int .u32 m.hw, vb m.ty, .int .u32 0] ++ _)).drop (34 + 1) = _
  rw [(cut _ _ 34 rfl).1, (cut _ _ 35 rfl).2, List.append_assoc, List.append_assoc]
  rfl)]
 rw [fill_cons _ _ _ _ _ 35 1 [.int .u32 m.rm] rfl rfl rfl (by rw [lmC_sz _ _ _ _ _ h.key]; decide) (lmC m) (by
  show (vbs m.key ++ ([Value.int .u32 m.hw, vb m.ty, .int .u32 m.fl] ++ _)).take 35 ++ _ ++ (vbs m.key ++ ([Value.int .u32 m.hw, vb m.ty, .int .u32 m.fl, .int .u32 0] ++ [])).drop (35 + 1) = _
  rw [(cut _ _ 35 rfl).1, (cut _ _ 36 rfl).2, List.append_assoc, List.append_assoc]
  rfl)]
 rfl
theorem rl_build (m : LmS) (h : m.Ok) (w : World) : (Instr.build 47 #[(0, .agg (zb m.key)), (1, .int .u32 m.hw), (2, vb m.ty), (3, .int .u32 m.fl), (4, .int .u32 m.rm)]).run Tryz.prog w = .ok (.agg (lmC m)) w := by
 unfold Instr.build
 rw [Sem.run_bind, rl_hz, Result.andThen_ok, Sem.run_bind, run_underlying Tryz.underlying47 w, Result.andThen_ok]
 exact build_step _ _ _ _ _ _ (by kernel_rfl) (rl_fill m h)
theorem wpList_build_rl {ops : Array Oper} {rest : List Oper} {o : Oper} {a : Act} {w : World} {Q : Exit → Act → World → Prop} (hgd : o.guard = Option.none) (x0 x1 x2 x3 x4 : Operand) (ho : o.op = .build 47 #[(0, x0), (1, x1), (2, x2), (3, x3), (4, x4)])
  (K M : Array Value) (v1 v2 v3 v4 : Value) (hb : (Instr.build 47 #[(0, .agg K), (1, v1), (2, v2), (3, v3), (4, v4)]).run Tryz.prog w = .ok (.agg M) w)
  (h0 : a.eval x0 = .agg K) (h1 : a.eval x1 = v1) (h2 : a.eval x2 = v2) (h3 : a.eval x3 = v3) (h4 : a.eval x4 = v4)
  (hk : wpList Tryz.prog ops Q rest (a.put o.dst (.agg M)) w) : wpList Tryz.prog ops Q (o :: rest) a w := by
 have hr : (execOp a.eval o).run Tryz.prog w = .ok (.value (.agg M)) w := by
  unfold execOp
  rw [ho]
  simp only [List.map_toArray, List.map_cons, List.map_nil, h0, h1, h2, h3, h4]
  rw [Sem.run_bind, hb]
  rfl
 exact wpList_plain hgd fun _ hK => by
  unfold Oper.wp
  simp only [hr]
  exact hK _ _ hk
def zLm : LmS := ⟨List.replicate 32 0, 0, 0, 0, 0⟩
theorem chk_ok (b : List UInt8) (m : LmS) : (chkP b m).1.Ok := by
 unfold chkP
 split
 ·split
  ·exact pparse_ok
  exact zP_ok
 exact zP_ok
theorem pow_wrap (k : Nat) (h : k < 8) : (2 : Int) ^ k % 256 = ((2 ^ k : Nat) : Int) := by
 have h1 : 2 ^ k < 256 := Nat.lt_of_lt_of_le (Nat.pow_lt_pow_right (by decide) h) (by decide)
 rw [Int.natCast_pow]
 exact Int.emod_eq_of_lt (Int.le_of_lt (Int.pow_pos (by decide))) (by exact_mod_cast h1)
theorem bit_lt (k : Nat) (h : k < 8) : 2 ^ k < 256 := Nat.lt_of_lt_of_le (Nat.pow_lt_pow_right (by decide) h) (by decide)
def tb (x : UInt8) (k : Nat) : UInt8 := UInt8.ofNat (x.toNat ^^^ 2 ^ k)
theorem tb_val (x : UInt8) (k : Nat) (h : k < 8) : (tb x k).toNat = x.toNat ^^^ 2 ^ k := by
 have h1 := bit_lt k h
 have h2 := UInt8.toNat_lt x
 have h3 : x.toNat ^^^ 2 ^ k < 256 := Nat.xor_lt_two_pow (n := 8) (by omega) (by omega)
 unfold tb
 rw [UInt8.toNat_ofNat']
 omega
theorem tb_run (x : UInt8) (k : Nat) (h : k < 8) : bits .xor .u8 ((x.toNat : Nat) : Int) ((2 ^ k : Nat) : Int) = (((tb x k).toNat : Nat) : Int) := by
 rw [tb_val x k h, u8_xor_nat _ _ (UInt8.toNat_lt x) (bit_lt k h)]
section
variable {H : Type} {enc : TypeId × Value → H} {w : World} {base : Nat} {spare : Nat → Bool} {held : Bool}
theorem open_lm {v : Value} {d : DataW H} {p : List MemPlace} {r : _} {base' : Nat} (hv : Value.okWide Tryz.prog w r base' 31 v) (h : DataW.Trod enc Tryz.prog w base spare held 31 v d p) : ∃ s : LmS, v = .agg (lmC s) ∧ s.Ok := by
 have hu := Tryz.underlying31
 have h32 := Tryz.underlying23
 have h8 := Tryz.underlying5
 have hd := Tryz.underlying29
 have c32 : Tryz.prog.cellsOf 23 = 1 := by kernel_rfl
 have c8 : Tryz.prog.cellsOf 5 = 1 := by kernel_rfl
 have cd : Tryz.prog.cellsOf 29 = 32 := by kernel_rfl
 have c36 : Tryz.prog.cellsOf 31 = 36 := by kernel_rfl
 obtain ⟨cs, rfl, hsz⟩ := okWide_struct hu hv
 obtain ⟨fuel, hf⟩ := h
 obtain ⟨xs, n, rfl, _, hl, hxl, hfs⟩ := DataW.trod_struct hu hf
 rw [c36] at hsz
 match xs, hxl with
 | [x0, x1, x2, x3, x4], _ =>
  have g0 := hfs 0 _ rfl
  have g1 := hfs 1 _ rfl
  have g2 := hfs 2 _ rfl
  have g3 := hfs 3 _ rfl
  have g4 := hfs 4 _ rfl
  simp only [Value.cells] at g0 g1 g2 g3 g4
  obtain ⟨l0, q0, e0⟩ := trod_arr8 hd h8 c8 cd g0
  obtain ⟨n1, b1, e1⟩ := trod_n32 h32 g1
  obtain ⟨n2, e2⟩ := trod_n8 h8 g2
  obtain ⟨n3, b3, e3⟩ := trod_n32 h32 g3
  obtain ⟨n4, b4, e4⟩ := trod_n32 h32 g4
  refine ⟨⟨l0, n1, n2, n3, n4⟩, ?_, ⟨q0, b1, b3, b4⟩⟩
  change List.take (Tryz.prog.cellsOf 29) _ = _ at e0
  rw [cd] at e0
  change List.take (Tryz.prog.cellsOf 23) _ = _ at e1
  rw [c32] at e1
  change List.take (Tryz.prog.cellsOf 5) _ = _ at e2
  rw [c8] at e2
  change List.take (Tryz.prog.cellsOf 23) _ = _ at e3
  rw [c32] at e3
  change List.take (Tryz.prog.cellsOf 23) _ = _ at e4
  rw [c32] at e4
  clear g0 g1 g2 g3 g4 hfs hf hl hv
  obtain ⟨L⟩ := cs
  have hL : L.length = 36 := by simpa using hsz
  have e0 : List.take 32 (List.drop 0 L) = vbs l0 := e0
  have e1 : List.take 1 (List.drop (0 + 32) L) = [n32v n1] := e1
  have e2 : List.take 1 (List.drop (32 + 1) L) = [vb n2] := e2
  have e3 : List.take 1 (List.drop (33 + 1) L) = [n32v n3] := e3
  have e4 : List.take 1 (List.drop (34 + 1) L) = [n32v n4] := e4
  have d5 : L.drop (35 + 1) = [] := List.drop_eq_nil_of_le (by omega)
  have d4 : L.drop (34 + 1) = [n32v n4] ++ [] := by rw [cutL L (34 + 1) 1, e4, d5]
  have d3 : L.drop (33 + 1) = [n32v n3] ++ ([n32v n4] ++ []) := by rw [cutL L (33 + 1) 1, e3, d4]
  have d2 : L.drop (32 + 1) = [vb n2] ++ ([n32v n3] ++ ([n32v n4] ++ [])) := by rw [cutL L (32 + 1) 1, e2, d3]
  have d1 : L.drop (0 + 32) = [n32v n1] ++ ([vb n2] ++ ([n32v n3] ++ ([n32v n4] ++ []))) := by rw [cutL L (0 + 32) 1, e1, d2]
  have d0 : L.drop 0 = vbs l0 ++ ([n32v n1] ++ ([vb n2] ++ ([n32v n3] ++ ([n32v n4] ++ [])))) := by rw [cutL L 0 32, e0, d1]
  congr 1
  apply Array.toList_inj.1
  show L = _
  rw [List.drop_zero] at d0
  rw [d0, List.append_nil]
  rfl
end
end Cv
end Go.Proofs.YtjdebgbiockafaaGreatDoor
