/- The law PacketMatches: whether any bytes, in any parts, are the image that a packet tells of. -/
import Derived.Test.YtgkofpfjbjnhfaaDoorMt1
import Derived.Test.YtgkofpfjbjnhfaaDoorLaidS
import Derived.Laws.CopyRow
import Derived.Test.YtgkofpfjbjnhfaaDoorCards
import Derived.Test.YtgkofpfjbjnhfaaDoorTie
import Derived.Deep.DeepHandedRow
import Derived.Lib.LaidTab
namespace Go.Proofs.YtgkofpfjbjnhfaaDoor
open Go.ChangeShapes Go.WideShapes Go.ChangeAt Go.RowKit
set_option linter.unusedVariables false
set_option linter.unusedSimpArgs false

theorem wpList_store_sp {P : Program} {ops : Array Oper} {rest : List Oper} {o : Oper} {a : Act} {w : World} {Q : Exit → Act → World → Prop} {F : SP} (hgd : o.guard = Option.none) (ty : TypeId) (x y : Operand) (ho : o.op = .store ty x y)
    (g off : Nat) (cells : List Value) (hx : a.eval x = .pointer (some ⟨g, off, Option.none⟩)) (hy : (a.eval y).cells = cells.toArray) (t : TypeId) (old : Array Value) (H : (blk g (.cells old t (0, 0)) * F).on w) (hi : (P.info? ty).map (·.size) = some cells.length)
    (hl : off + cells.length ≤ old.size) (h1 : ∀ v ∈ cells, v.oneCell' = true) (new : Array Value) (hn : old.toList.take off ++ cells ++ old.toList.drop (off + cells.length) = new.toList)
    (h : ∀ w', (blk g (.cells new t (0, 0)) * F).on w' → Str w w' → wpList P ops Q rest (a.put o.dst undef) w') : wpList P ops Q (o :: rest) a w :=
  wpList_plain hgd fun _ hK => by
    have hs := run_storeCells_at (P := P) g off t cells 0 old w (on_blk_mul H) (by simpa using hl) h1
    simp only [Nat.add_zero, hn, Array.toArray_toList] at hs
    have hv : (storeVar ty ⟨g, off, Option.none⟩ (a.eval y)).run P w = .ok () (w.setRow g new) := by
      cases hq : P.info? ty with
      | none => simp [hq] at hi
      | some i =>
        have hz : cells.length = i.size := by simp [hq] at hi; omega
        simp [storeVar, sizeOf, typeInfo, hq, hy, hz, hs]
    unfold Oper.wp execOp
    simp only [ho, hx, Instr.storeAt, Instr.sureAddr, Sem.run_bind, Sem.run_pure, Result.andThen_ok, hv]
    exact hK _ _ (h _ (H.setRow new) ((Str.refl w).setRow g new))
theorem pk_new_sz (p : PkS) (n : Nat) : (pkC p).toList.take 3 ++ [.int .u32 n] ++ (pkC p).toList.drop (3 + [Value.int .u32 n].length) = (pkC { p with sz := n }).toList := rfl
theorem pkC_3 (p : PkS) (n : Nat) : (pkC p).setIfInBounds 3 (.int .u32 n) = pkC { p with sz := n } := by simp [pkC, pkL]
theorem rp_splice_hash (p : PkS) (h : p.hash.length = 32) (l : List UInt8) (hl : l.length = 32) : splice (rpL p) 4 (vbs l) = rpL { p with hash := l } := by
  unfold splice rpL
  have e1 : (vbs l).length = 32 := by simp [hl]
  have e2 : (vbs p.hash).length = 32 := by simp [h]
  rw [e1, List.take_left' (by rfl), show 4 + 32 = 4 + 32 from rfl, ← List.drop_drop, List.drop_left' (by rfl), List.drop_left' e2]
theorem pk_new_hash (p : PkS) (h : p.hash.length = 32) (l : List UInt8) (hl : l.length = 32) : (pkC p).toList.take 4 ++ vbs l ++ (pkC p).toList.drop (4 + (vbs l).length) = (pkC { p with hash := l }).toList := by
  have := splice_hash p h l hl
  unfold splice at this
  exact this
theorem build_sz (n : Nat) (w : World) : (Instr.build 77 #[(2, .int .u32 n)]).run Tryd.prog w = .ok (.agg (rpC { zP with sz := n })) w := by kernel_rfl
theorem wpList_build_sz {ops : Array Oper} {rest : List Oper} {o : Oper} {a : Act} {w : World} {Q : Exit → Act → World → Prop} (hgd : o.guard = Option.none) (x0 : Operand) (ho : o.op = .build 77 #[(2, x0)]) (n : Nat)
    (h0 : a.eval x0 = .int .u32 n) (hk : wpList Tryd.prog ops Q rest (a.put o.dst (.agg (rpC { zP with sz := n }))) w) : wpList Tryd.prog ops Q (o :: rest) a w := by
  have hr : (execOp a.eval o).run Tryd.prog w = .ok (.value (.agg (rpC { zP with sz := n }))) w := by
    unfold execOp
    rw [ho]
    simp only [List.map_toArray, List.map_cons, List.map_nil, h0]
    rw [Sem.run_bind, build_sz]
    rfl
  exact wpList_plain hgd fun _ hK => by
    unfold Oper.wp
    simp only [hr]
    exact hK _ _ hk

/-- what the law says behind the packet's setting -/
theorem tabs_of_laid {W : World} (hL : laidMetH Tryd.prog Rows.packetMatchesRow.laid W) : Lens W ∧ Sha32.Tab W := by
  have h0 : laidMetH Tryd.prog [("bosun/shortsum.first", Rows.laid_bosun_shortsum_first), ("bosun/shortsum.rounds", Rows.laid_bosun_shortsum_rounds), ("bosun/packet.lengths", Rows.laid_bosun_packet_lengths)] W := hL
  rw [MakeChecks.laidMetH_plain _ _ _ (by kernel_rfl)] at h0
  have h1 : laidMet Tryd.prog [("bosun/packet.lengths", Rows.laid_bosun_packet_lengths)] W := laidMet.filter (fun x => x.1 == "bosun/packet.lengths") h0
  have h2 : laidMet Tryd.prog [("bosun/shortsum.first", Rows.laid_bosun_shortsum_first), ("bosun/shortsum.rounds", Rows.laid_bosun_shortsum_rounds)] W := laidMet.filter (fun x => x.1 != "bosun/packet.lengths") h0
  refine ⟨lens_of_laid ?_, Sha32.tab_of_laid ?_⟩
  · rw [MakeChecks.laidMetH_plain _ _ _ (by kernel_rfl)]
    exact h1
  · rw [MakeChecks.laidMetH_plain _ _ _ (by kernel_rfl)]
    exact h2

set_option maxRecDepth 100000 in
set_option maxHeartbeats 16000000 in
theorem walk_PacketMatches (w : World) (hL : laidMetH Tryd.prog Rows.packetMatchesRow.laid w) (p : PkS) (hpk : p.Ok) (va : Value) (a : List UInt8) (ha : IsBytes w va a) (ma : a.length ≤ 140737488351232) (vc : Value) (b : List UInt8) (hb : IsBytes w vc b) (mb : b.length ≤ 140737488351232) :
    Calls Tryd.prog 11 #[.agg (pkC p), va, vc] w fun e w' => e = .returned (.bool true) ∧ Below w.heap.size w w' := by
  obtain ⟨hLens, hTab⟩ := tabs_of_laid hL
  clear hL
  have hup := Tryd.underlying75
  have hu := Tryd.underlying63
  have HL := hide hLens
  have HT := hide hTab
  have Ha := hide ha
  have Hb := hide hb
  obtain ⟨xa, ca, rfl, hca, hma, _, _⟩ := ha
  obtain ⟨xb, cb, rfl, hcb, hmb, _, _⟩ := hb
  unfold maxLen at hma hmb
  have H1 := hide ((on_all w).alloc (.cells (pkC p) 75))
  have HS1 := hide ((Str.refl w).alloc (.cells (pkC p) 75))
  have hLv := lives12_any (w.alloc (.cells (pkC p) 75)) (hLens.below (all_below H1.out.right HS1.out))
  clear hLens hTab
  by_cases h1000 : 1000 < a.length + b.length
  · generalize hC : pkC p = C at *
    clear hC
    go_enter Tryd.func11, Tryd.ntmps11
    go_wp2_with fail
    refine hLv.mono ?_
    clear hLv
    rintro e w2 ⟨rfl, hb2⟩
    have HB2 := hide ((all_below H1.out.right HS1.out).trans (hb2.mono HS1.out.size))
    have hLv := lives12_any w2 (HL.out.below HB2.out)
    clear hb2
    go_wp2_with fail
    refine hLv.mono ?_
    clear hLv
    rintro e w3 ⟨rfl, hb3⟩
    have HB3 := hide (HB2.out.trans (hb3.mono HB2.out.size))
    clear hb3
    go_wp2_with fail
    go_ret
    exact ⟨rfl, HB3.out⟩
  · have hk : a.length + b.length ≤ 1000 := by omega
    have Hpk := hide hpk
    clear h1000 hpk
    generalize hC : pkC p = C at *
    have HC := hide hC
    clear hC
    go_enter Tryd.func11, Tryd.ntmps11
    go_wp2_with fail
    refine hLv.mono ?_
    clear hLv
    rintro e w2 ⟨rfl, hb2⟩
    have H2 := hide (H1.out.below hb2)
    have HS2 := hide (HS1.out.trans (Str.below hb2))
    have H0 := hide (own_new 5 1 0 [] H2.out rfl (by decide))
    clear hb2 H1 HS1
    obtain ⟨ab, hab⟩ : ∃ ab, ab = a ++ b := ⟨_, rfl⟩
    have lab : ab.length ≤ 1000 := by rw [hab, List.length_append]; exact hk
    have Hab := hide hab
    clear hab
    have Hsz : Hid ((Tryd.prog.info? 75).map (·.size) = some C.size) := hide (by rw [← HC.out, pkC_size Hpk.out]; kernel_rfl)
    by_cases v2 : p.ver % 2 = 0
    · have hv2 : (((p.ver : Int) % 2) == 0) = true := by simp only [beq_iff_eq]; omega
      obtain ⟨q, hq⟩ : ∃ q : PkS, q = { p with sz := ab.length } := ⟨_, rfl⟩
      have Hok2 : Hid q.Ok := hide (by rw [hq]; exact ⟨Hpk.out.hw, Hpk.out.ver, by show ab.length < 4294967296; omega, Hpk.out.hash, Hpk.out.sig⟩)
      obtain ⟨C2, hC2⟩ : ∃ C2, C2 = pkC { p with sz := ab.length } := ⟨_, rfl⟩
      have HC2 : Hid (pkC { p with sz := ab.length } = C2) := hide hC2.symm
      have HC2q : Hid (pkC q = C2) := hide (by rw [hq]; exact hC2.symm)
      have Hsz2 : Hid ((Tryd.prog.info? 75).map (·.size) = some C2.size) := hide (by rw [← HC2q.out, pkC_size Hok2.out]; kernel_rfl)
      have Hq := hide hq
      clear hC2 hq
      by_cases v4 : p.ver % 4 = 0
      · have hv4 : (((p.ver : Int) % 4) == 0) = true := by simp only [beq_iff_eq]; omega
        clear v2 v4
        have hz2 := rp_hz
        obtain ⟨hd, hhd⟩ : ∃ r : PkS, r = { zP with sz := ab.length } := ⟨_, rfl⟩
        have Hhd := hide hhd
        have Hokh : Hid hd.Ok := hide (by rw [hhd]; exact ⟨by show (0 : Nat) < 4294967296; decide, by show (0 : Nat) < 4294967296; decide, by show ab.length < 4294967296; omega, rfl, rfl⟩)
        have Hone := hide (rpC_one hd)
        have Hszr : Hid ((Tryd.prog.info? 77).map (·.size) = some (rpC hd).size) := hide (by rw [rpC_size Hokh.out]; kernel_rfl)
        have Hzz : Hid ((rpC zP).size = (rpC hd).size) := hide (by rw [rpC_size Hokh.out]; rfl)
        clear hhd
        generalize hZ : rpC zP = Z2 at *
        have HZ := hide hZ
        clear hZ
        generalize hRZ : rpC hd = RZ at *
        have HRZ := hide hRZ
        clear hRZ
        go_wp2_with (first
          | (refine wpList_store_row rfl _ _ _ rfl w5.heap.size RZ rfl rfl _ _ hr6 Hszr.out Hzz.out Hone.out ?_; rw [HW7.out])
          | (refine wpList_build_sz rfl _ rfl ab.length rfl ?_; rw [← Hhd.out, HRZ.out])
          | (refine wpList_store_sp (F := own 5 1 (.slice oa4 ab.length oc4) ab.length (vbs ab) * all w) rfl _ _ _ rfl w.heap.size 3 [.int .u32 (ab.length : Nat)] rfl rfl _ C H4.out (by kernel_rfl) (by rw [← HC.out, pkC_size Hpk.out]; show 3 + 1 ≤ 100; omega) (by intro v hv; simp at hv; rw [hv]; rfl) C2 (by rw [← HC.out, ← HC2.out]; exact pk_new_sz p ab.length) ?_; intro w5 h5 hs5; have H5 := hide h5; have HS5 := hide (HS4.out.trans hs5); have hg5 := on_blk_mul h5; have k5 := pk_cells { p with sz := ab.length } w5 w.heap.size _ (by rw [HC2.out]; exact on_blk_mul h5); have c25 := k5.2.2.1; have c35 := k5.2.2.2; clear k5 h5 hs5 c2 hg4; have hr6 := heap_alloc_new w5 (.cells Z2 77); have H7 := hide ((H5.out.alloc (.cells Z2 77)).setRow RZ); have HS7 := hide ((HS5.out.alloc (.cells Z2 77)).setRow w5.heap.size RZ); have HB7 := hide (below_setRow ((Below.refl w5.heap.size w5).alloc (Nat.le_refl _) (.cells Z2 77)) (Nat.le_refl _) RZ); generalize hW7 : (w5.alloc (.cells Z2 77)).setRow w5.heap.size RZ = w7 at *; have HW7 := hide hW7; clear hW7)
          | (at_builtin; refine wpList_append_bytes (F := blk w.heap.size (.cells C 75 (0, 0)) * all w) rfl _ _ 63 rfl 5 hu infoT _ a b rfl Ho3.out _ rfl (Hb.out.below (all_below Ho3.out.right.right Hs3.out)) (by omega) ?_; intro v4 w4 ho4 hs4; rw [← Hab.out] at ho4; obtain ⟨oa4, oc4, rfl, _, _, _, _⟩ := own_value ho4; have h4 := ho4; rw [SP.mul_left_comm] at h4; have H4 := hide h4; have HS4 := hide (Hs3.out.trans hs4); have c2 : w4.cell? ⟨w.heap.size, 2, Option.none⟩ = some (.int .u32 (p.ver : Nat)) := (pk_cells p w4 w.heap.size _ (by rw [HC.out]; exact on_blk_mul h4)).2.2.1; have hg4 := on_blk_mul h4; clear ho4 hs4 h4)
          | (at_builtin; refine wpList_append_bytes (F := blk w.heap.size (.cells C 75 (0, 0)) * all w) rfl _ _ 63 rfl 5 hu infoT _ [] a rfl H0.out _ rfl (Ha.out.below ((all_below H2.out.right HS2.out).alloc HS2.out.size _)) (by simp; omega) ?_; intro v3 w3 ho3 hs3; rw [List.nil_append] at ho3; obtain ⟨oa3, oc3, rfl, _, _, _, _⟩ := own_value ho3; have Ho3 := hide ho3; have Hs3 := hide ((HS2.out.alloc _).trans hs3); clear ho3 hs3))
        have hud := Tryd.underlying48
        refine wp_region_tail 4 [isV (.pointer (some ⟨w5.heap.size, 4, Option.none⟩)), isV (.slice (some ⟨w5.heap.size, 4, Option.none⟩) 32 32), isV (.slice oa4 ab.length oc4), fun v X => IsBytes X v (Sha32.digest ab)]
          (by simp only [List.take_succ_cons, List.take_zero]; rfl) (by simp only [List.drop_succ_cons, List.drop_zero]; rfl) (by kernel_rfl) (by kernel_rfl) (by kernel_rfl) (by decide) rfl ?keep ?todo ?rest
        case keep => exact ⟨Keep.isV _, Keep.isV _, Keep.isV _, fun _ _ _ h k => IsBytes.below h k, trivial⟩
        case todo =>
          refine ⟨?_, ?_, ?_, ?_, trivial⟩
          · intro ev X hT hb hk hf
            have e0 : ev (.tmp 8) = .pointer (some ⟨w5.heap.size, 0, Option.none⟩) := hk.1
            exact OpOk.run (v := .pointer (some ⟨w5.heap.size, 4, Option.none⟩)) (W' := X) (by simp [execOp, e0, hb.1, go_sem]) ⟨rfl, Stay.refl _⟩
          · intro ev X hT hb hk hf
            have e0 : ev (.tmp 41) = .pointer (some ⟨w5.heap.size, 4, Option.none⟩) := hf.1
            exact OpOk.run (v := .slice (some ⟨w5.heap.size, 4, Option.none⟩) 32 32) (W' := X) (by have h9 := arr_whole 48 32 hud w5.heap.size 4 X; simp [execOp, e0, hb.1, h9, go_sem]) ⟨rfl, Stay.refl _⟩
          · intro ev X hT hb hk hf
            have e0 : ev (.tmp 7) = .slice oa4 ab.length oc4 := hk.1
            exact OpOk.move rfl e0 ⟨rfl, Stay.refl _⟩
          · intro ev X hT hb hk hf
            have e0 : ev (.tmp 43) = .slice oa4 ab.length oc4 := hf.1
            refine OpOk.enters (f := 51) (args := #[.slice oa4 ab.length oc4]) (W' := X) (by simp [execOp, resolve, invoke, e0, hb.1, hb.2.1, go_sem]) ((hash12_any _ ab X (own_bytes (H7.out.right.right.below hT)) (by omega)).mono ?_)
            rintro e X2 ⟨v5, rfl, h5, h6⟩
            exact ⟨_, rfl, own_bytes h5, all_below h5.right h6⟩
        case rest =>
          intro X hT
          rintro _ rfl _ rfl _ rfl v3 h3
          have h3' : IsBytes X v3 (Sha32.digest ab) := h3
          obtain ⟨xa8, xc8, rfl, _, _, hlx, _⟩ := h3'
          have h8 := H7.out.below hT
          have hs8 := HS7.out.trans (Str.below hT)
          have hgX := on_blk_mul h8
          have hln := Sha32.digest_len ab
          have hTs := hT
          clear h3 hT
          go_wp2
          refine Rest.done ?_
          have hA : (vbs (Sha32.digest ab)).length = Nat.min 32 32 := by rw [show (vbs (Sha32.digest ab)).length = (Sha32.digest ab).length by simp, hln]; rfl
          have hB : 4 + (vbs (Sha32.digest ab)).length ≤ (rpL hd).length := by
            rw [show (vbs (Sha32.digest ab)).length = 32 by simp [hln]]
            have h9 := rpC_size Hokh.out
            have h10 : (rpC hd).size = (rpL hd).length := by simp [rpC]
            omega
          rw [← HRZ.out] at hgX
          refine wpList_copy_splice rfl _ _ _ _ rfl 5 Tryd.underlying63 (by kernel_rfl) _ _ _ _ _ _ rfl rfl w5.heap.size 4 (rpL hd) 77 hgX (vbs (Sha32.digest ab)) hA ?_ hB (vbs_one _) w5.heap.size w5 (HB7.out.trans (hTs.mono HB7.out.size)) (Nat.le_refl _) ?_
          · intro hpos
            obtain ⟨b9, off9, rfl⟩ := hlx.isAddr 0 hpos
            refine ⟨rfl, _, rfl, ?_⟩
            intro j v hv
            have := Lay.cell hlx j hv
            have ea : (⟨b9, off9, Option.none⟩ : Addr).add j = ⟨b9, off9 + j, Option.none⟩ := addr_add0 b9 off9 j
            rw [ea]; exact this
          · intro w10 hg10 hbb10
            have hg9 := hg10.out
            rw [rp_splice_hash hd Hokh.out.hash _ hln] at hg9
            have h10 := H5.out.below hbb10
            have H10 := hide h10
            have HS10 := hide (HS5.out.trans (Str.below hbb10))
            obtain ⟨dg, hdg⟩ : ∃ dg, dg = Sha32.digest ab := ⟨_, rfl⟩
            rw [← hdg] at hg9 hln
            have Hla : Hid (∀ j v, (vbs dg).toArray[j]? = some v → w10.cell? ⟨w5.heap.size, 4 + j, Option.none⟩ = some v) := hide fun j v hj => Lay.cell (rp_hash (p := { hd with hash := dg }) ⟨Hokh.out.hw, Hokh.out.ver, Hokh.out.sz, hln, Hokh.out.sig⟩ w10 w5.heap.size _ hg9) j (by simpa using hj)
            have Hsd : Hid ((Tryd.prog.info? 48).map (·.size) = some (vbs dg).toArray.size) := hide (by rw [show (vbs dg).toArray.size = 32 by simp [hln]]; kernel_rfl)
            have Hln := hide hln
            obtain ⟨r, hr⟩ : ∃ r : PkS, r = { q with hash := dg } := ⟨_, rfl⟩
            have Hokr : Hid r.Ok := hide (by rw [hr]; exact ⟨Hok2.out.hw, Hok2.out.ver, Hok2.out.sz, hln, Hok2.out.sig⟩)
            obtain ⟨C3, hC3⟩ : ∃ C3, C3 = pkC r := ⟨_, rfl⟩
            have HC3 : Hid (pkC r = C3) := hide hC3.symm
            have Hr := hide hr
            have Hsz3 : Hid ((Tryd.prog.info? 75).map (·.size) = some C3.size) := hide (by rw [← HC3.out, pkC_size Hokr.out]; kernel_rfl)
            have Hnew : Hid (C2.toList.take 4 ++ vbs dg ++ C2.toList.drop (4 + (vbs dg).length) = C3.toList) := hide (by rw [← HC2q.out, ← HC3.out, Hr.out]; exact pk_new_hash q Hok2.out.hash dg hln)
            have Hlen2 : Hid (4 + (vbs dg).length ≤ C2.size) := hide (by rw [← HC2q.out, pkC_size Hok2.out, show (vbs dg).length = 32 by simp [hln]]; decide)
            clear hg9 h10 hbb10 hg10 hdg hln hC3 hr hlx hgX h8 hs8 hA hB hTs hg5 c25 c35
            generalize hD : (vbs dg).toArray = DA at *
            have HD := hide hD
            clear hD
            simp only [wpList]
            go_wp2_with (first
              | (refine wpList_load_row rfl _ _ rfl w.heap.size rfl _ C3 _ _ hg11 hup rfl Hsz3.out ?_)
              | (refine wpList_store_sp (F := own 5 1 (.slice oa4 ab.length oc4) ab.length (vbs ab) * all w) rfl _ _ _ rfl w.heap.size 4 (vbs dg) rfl HD.out.symm _ C2 H10.out (by rw [show (vbs dg).length = 32 by simp [Hln.out]]; kernel_rfl) Hlen2.out (vbs_one _) C3 Hnew.out ?_; intro w11 h11 hs11; have H11 := hide h11; have HS11 := hide (HS10.out.trans hs11); have hg11 := on_blk_mul h11; clear h11 hs11)
              | (refine wpList_load_part rfl _ _ rfl w5.heap.size 4 rfl DA _ Hla.out hud rfl Hsd.out ?_))
            have hE := pmatch_any r Hokr.out (.slice (some ⟨w11.heap.size, 0, Option.none⟩) 2 2) [a, b] (w11.alloc (.cells #[.slice xa a.length ca, .slice xb b.length cb] 63)) (IsRows.new2 (Ha.out.below (all_below H11.out.right.right HS11.out)) (Hb.out.below (all_below H11.out.right.right HS11.out)) _) (HT.out.below ((all_below H11.out.right.right HS11.out).alloc HS11.out.size _)) (by simp) (by rw [show [a, b].flatten = ab by rw [Hab.out]; simp]; omega)
            rw [show [a, b].flatten = ab by rw [Hab.out]; simp, HC3.out] at hE
            obtain ⟨mn, hmn⟩ : ∃ mn, mn = matchN r ab := ⟨_, rfl⟩
            rw [← hmn] at hE
            have Hmn := hide hmn
            clear hmn
            refine hE.mono ?_
            clear hE
            rintro e x2 ⟨rfl, hbx⟩
            have G2 := hide ((H11.out.alloc' (.cells #[.slice xa a.length ca, .slice xb b.length cb] 63)).below hbx)
            have GS2 := hide ((HS11.out.alloc (.cells #[.slice xa a.length ca, .slice xb b.length cb] 63)).trans (Str.below hbx))
            have gg2 := on_blk_mul G2.out
            have hE := of12_any r Hokr.out x2
            rw [HC3.out] at hE
            obtain ⟨RC, hRC⟩ : ∃ RC, RC = rpC r := ⟨_, rfl⟩
            rw [← hRC] at hE
            have HRC := hide hRC
            clear hRC hbx
            go_wp2_with (refine wpList_load_row rfl _ _ rfl w.heap.size rfl _ C3 _ _ gg2 hup rfl Hsz3.out ?_)
            refine hE.mono ?_
            clear hE gg2
            rintro e x3 ⟨rfl, hbx⟩
            have G3 := hide (G2.out.below hbx)
            have GS3 := hide (GS2.out.trans (Str.below hbx))
            have hE := rmatch_any r Hokr.out (.slice oa4 ab.length oc4) ab x3 (own_bytes G3.out.right) (by omega)
            rw [← HRC.out, ← Hmn.out] at hE
            clear hbx
            go_wp2_with fail
            refine hE.mono ?_
            clear hE
            rintro e x4 ⟨rfl, hbx⟩
            have G4 := hide (G3.out.below hbx)
            have GS4 := hide (GS3.out.trans (Str.below hbx))
            have gg4 := on_blk_mul G4.out
            have hbb : (((mn : Nat) : Int) == ((mn : Nat) : Int)) = true := by simp
            have hE := pmatch_any r Hokr.out (.slice (some ⟨x4.heap.size, 0, Option.none⟩) 1 1) [ab] (x4.alloc (.cells #[.slice oa4 ab.length oc4] 63)) (IsRows.one (own_bytes G4.out.right) _) (HT.out.below ((all_below G4.out.right.right GS4.out).alloc GS4.out.size _)) (by simp) (by simp; omega)
            rw [show [ab].flatten = ab by simp, HC3.out, ← Hmn.out] at hE
            clear hbx
            go_wp2_with (refine wpList_load_row_g12 rfl _ _ rfl w.heap.size rfl _ C3 _ _ gg4 hup rfl Hsz3.out ?_)
            refine hE.mono ?_
            clear hE gg4
            rintro e x5 ⟨rfl, hbx⟩
            have GB := hide (((all_below G4.out.right.right GS4.out).alloc GS4.out.size (.cells #[.slice oa4 ab.length oc4] 63)).trans (hbx.mono (GS4.out.alloc (.cells #[.slice oa4 ab.length oc4] 63)).size))
            clear hbx
            go_wp2_with fail
            go_ret
            exact ⟨rfl, GB.out⟩
      · have hv4 : (((p.ver : Int) % 4) == 0) = false := by rw [beq_eq_false_iff_ne]; omega
        clear v2 v4
        go_wp2_with (first
          | (refine wpList_load_row rfl _ _ rfl w.heap.size rfl _ C2 _ _ hg5 hup rfl Hsz2.out ?_)
          | (refine wpList_store_sp (F := own 5 1 (.slice oa4 ab.length oc4) ab.length (vbs ab) * all w) rfl _ _ _ rfl w.heap.size 3 [.int .u32 (ab.length : Nat)] rfl rfl _ C H4.out (by kernel_rfl) (by rw [← HC.out, pkC_size Hpk.out]; show 3 + 1 ≤ 100; omega) (by intro v hv; simp at hv; rw [hv]; rfl) C2 (by rw [← HC.out, ← HC2.out]; exact pk_new_sz p ab.length) ?_; intro w5 h5 hs5; have H5 := hide h5; have HS5 := hide (HS4.out.trans hs5); have hg5 := on_blk_mul h5; have k5 := pk_cells { p with sz := ab.length } w5 w.heap.size _ (by rw [HC2.out]; exact on_blk_mul h5); have c25 := k5.2.2.1; have c35 := k5.2.2.2; clear k5 h5 hs5 c2 hg4)
          | (at_builtin; refine wpList_append_bytes (F := blk w.heap.size (.cells C 75 (0, 0)) * all w) rfl _ _ 63 rfl 5 hu infoT _ a b rfl Ho3.out _ rfl (Hb.out.below (all_below Ho3.out.right.right Hs3.out)) (by omega) ?_; intro v4 w4 ho4 hs4; rw [← Hab.out] at ho4; obtain ⟨oa4, oc4, rfl, _, _, _, _⟩ := own_value ho4; have h4 := ho4; rw [SP.mul_left_comm] at h4; have H4 := hide h4; have HS4 := hide (Hs3.out.trans hs4); have c2 : w4.cell? ⟨w.heap.size, 2, Option.none⟩ = some (.int .u32 (p.ver : Nat)) := (pk_cells p w4 w.heap.size _ (by rw [HC.out]; exact on_blk_mul h4)).2.2.1; have hg4 := on_blk_mul h4; clear ho4 hs4 h4)
          | (at_builtin; refine wpList_append_bytes (F := blk w.heap.size (.cells C 75 (0, 0)) * all w) rfl _ _ 63 rfl 5 hu infoT _ [] a rfl H0.out _ rfl (Ha.out.below ((all_below H2.out.right HS2.out).alloc HS2.out.size _)) (by simp; omega) ?_; intro v3 w3 ho3 hs3; rw [List.nil_append] at ho3; obtain ⟨oa3, oc3, rfl, _, _, _, _⟩ := own_value ho3; have Ho3 := hide ho3; have Hs3 := hide ((HS2.out.alloc _).trans hs3); clear ho3 hs3))
        have hE := pmatch_any q Hok2.out (.slice (some ⟨w5.heap.size, 0, Option.none⟩) 2 2) [a, b] (w5.alloc (.cells #[.slice xa a.length ca, .slice xb b.length cb] 63)) (IsRows.new2 (Ha.out.below (all_below H5.out.right.right HS5.out)) (Hb.out.below (all_below H5.out.right.right HS5.out)) _) (HT.out.below ((all_below H5.out.right.right HS5.out).alloc HS5.out.size _)) (by simp) (by rw [show [a, b].flatten = ab by rw [Hab.out]; simp]; omega)
        rw [show [a, b].flatten = ab by rw [Hab.out]; simp, HC2q.out] at hE
        obtain ⟨mn, hmn⟩ : ∃ mn, mn = matchN q ab := ⟨_, rfl⟩
        rw [← hmn] at hE
        have Hmn := hide hmn
        clear hmn
        refine hE.mono ?_
        clear hE
        rintro e x2 ⟨rfl, hbx⟩
        have G2 := hide ((H5.out.alloc' (.cells #[.slice xa a.length ca, .slice xb b.length cb] 63)).below hbx)
        have GS2 := hide ((HS5.out.alloc (.cells #[.slice xa a.length ca, .slice xb b.length cb] 63)).trans (Str.below hbx))
        have gg2 := on_blk_mul G2.out
        have hE := of12_any q Hok2.out x2
        rw [HC2q.out] at hE
        obtain ⟨RC, hRC⟩ : ∃ RC, RC = rpC q := ⟨_, rfl⟩
        rw [← hRC] at hE
        have HRC := hide hRC
        clear hRC hbx
        go_wp2_with (refine wpList_load_row rfl _ _ rfl w.heap.size rfl _ C2 _ _ gg2 hup rfl Hsz2.out ?_)
        refine hE.mono ?_
        clear hE gg2
        rintro e x3 ⟨rfl, hbx⟩
        have G3 := hide (G2.out.below hbx)
        have GS3 := hide (GS2.out.trans (Str.below hbx))
        have hE := rmatch_any q Hok2.out (.slice oa4 ab.length oc4) ab x3 (own_bytes G3.out.right) (by omega)
        rw [← HRC.out, ← Hmn.out] at hE
        clear hbx
        go_wp2_with fail
        refine hE.mono ?_
        clear hE
        rintro e x4 ⟨rfl, hbx⟩
        have G4 := hide (G3.out.below hbx)
        have GS4 := hide (GS3.out.trans (Str.below hbx))
        have gg4 := on_blk_mul G4.out
        have hbb : (((mn : Nat) : Int) == ((mn : Nat) : Int)) = true := by simp
        have hE := pmatch_any q Hok2.out (.slice (some ⟨x4.heap.size, 0, Option.none⟩) 1 1) [ab] (x4.alloc (.cells #[.slice oa4 ab.length oc4] 63)) (IsRows.one (own_bytes G4.out.right) _) (HT.out.below ((all_below G4.out.right.right GS4.out).alloc GS4.out.size _)) (by simp) (by simp; omega)
        rw [show [ab].flatten = ab by simp, HC2q.out, ← Hmn.out] at hE
        clear hbx
        go_wp2_with (refine wpList_load_row_g12 rfl _ _ rfl w.heap.size rfl _ C2 _ _ gg4 hup rfl Hsz2.out ?_)
        refine hE.mono ?_
        clear hE gg4
        rintro e x5 ⟨rfl, hbx⟩
        have GB := hide (((all_below G4.out.right.right GS4.out).alloc GS4.out.size (.cells #[.slice oa4 ab.length oc4] 63)).trans (hbx.mono (GS4.out.alloc (.cells #[.slice oa4 ab.length oc4] 63)).size))
        clear hbx
        go_wp2_with fail
        go_ret
        exact ⟨rfl, GB.out⟩
    · have hv2 : (((p.ver : Int) % 2) == 0) = false := by rw [beq_eq_false_iff_ne]; omega
      have hv4 : (((p.ver : Int) % 4) == 0) = false := by rw [beq_eq_false_iff_ne]; omega
      clear v2
      go_wp2_with (first
        | (refine wpList_load_row rfl _ _ rfl w.heap.size rfl _ C _ _ hg4 hup rfl Hsz.out ?_)
        | (at_builtin; refine wpList_append_bytes (F := blk w.heap.size (.cells C 75 (0, 0)) * all w) rfl _ _ 63 rfl 5 hu infoT _ a b rfl Ho3.out _ rfl (Hb.out.below (all_below Ho3.out.right.right Hs3.out)) (by omega) ?_; intro v4 w4 ho4 hs4; rw [← Hab.out] at ho4; obtain ⟨oa4, oc4, rfl, _, _, _, _⟩ := own_value ho4; have h4 := ho4; rw [SP.mul_left_comm] at h4; have H4 := hide h4; have HS4 := hide (Hs3.out.trans hs4); have c2 : w4.cell? ⟨w.heap.size, 2, Option.none⟩ = some (.int .u32 (p.ver : Nat)) := (pk_cells p w4 w.heap.size _ (by rw [HC.out]; exact on_blk_mul h4)).2.2.1; have hg4 := on_blk_mul h4; clear ho4 hs4 h4)
        | (at_builtin; refine wpList_append_bytes (F := blk w.heap.size (.cells C 75 (0, 0)) * all w) rfl _ _ 63 rfl 5 hu infoT _ [] a rfl H0.out _ rfl (Ha.out.below ((all_below H2.out.right HS2.out).alloc HS2.out.size _)) (by simp; omega) ?_; intro v3 w3 ho3 hs3; rw [List.nil_append] at ho3; obtain ⟨oa3, oc3, rfl, _, _, _, _⟩ := own_value ho3; have Ho3 := hide ho3; have Hs3 := hide ((HS2.out.alloc _).trans hs3); clear ho3 hs3))
      have hE := pmatch_any p Hpk.out (.slice (some ⟨w4.heap.size, 0, Option.none⟩) 2 2) [a, b] (w4.alloc (.cells #[.slice xa a.length ca, .slice xb b.length cb] 63)) (IsRows.new2 (Ha.out.below (all_below H4.out.right.right HS4.out)) (Hb.out.below (all_below H4.out.right.right HS4.out)) _) (HT.out.below ((all_below H4.out.right.right HS4.out).alloc HS4.out.size _)) (by simp) (by rw [show [a, b].flatten = ab by rw [Hab.out]; simp]; omega)
      rw [show [a, b].flatten = ab by rw [Hab.out]; simp, HC.out] at hE
      obtain ⟨mn, hmn⟩ : ∃ mn, mn = matchN p ab := ⟨_, rfl⟩
      rw [← hmn] at hE
      have Hmn := hide hmn
      clear hmn
      refine hE.mono ?_
      clear hE
      rintro e x2 ⟨rfl, hbx⟩
      have G2 := hide ((H4.out.alloc' (.cells #[.slice xa a.length ca, .slice xb b.length cb] 63)).below hbx)
      have GS2 := hide ((HS4.out.alloc (.cells #[.slice xa a.length ca, .slice xb b.length cb] 63)).trans (Str.below hbx))
      have gg2 := on_blk_mul G2.out
      have hE := of12_any p Hpk.out x2
      rw [HC.out] at hE
      obtain ⟨RC, hRC⟩ : ∃ RC, RC = rpC p := ⟨_, rfl⟩
      rw [← hRC] at hE
      have HRC := hide hRC
      clear hRC hbx
      go_wp2_with (refine wpList_load_row rfl _ _ rfl w.heap.size rfl _ C _ _ gg2 hup rfl Hsz.out ?_)
      refine hE.mono ?_
      clear hE gg2
      rintro e x3 ⟨rfl, hbx⟩
      have G3 := hide (G2.out.below hbx)
      have GS3 := hide (GS2.out.trans (Str.below hbx))
      have hE := rmatch_any p Hpk.out (.slice oa4 ab.length oc4) ab x3 (own_bytes G3.out.right) (by omega)
      rw [← HRC.out, ← Hmn.out] at hE
      clear hbx
      go_wp2_with fail
      refine hE.mono ?_
      clear hE
      rintro e x4 ⟨rfl, hbx⟩
      have G4 := hide (G3.out.below hbx)
      have GS4 := hide (GS3.out.trans (Str.below hbx))
      have gg4 := on_blk_mul G4.out
      have hbb : (((mn : Nat) : Int) == ((mn : Nat) : Int)) = true := by simp
      have hE := pmatch_any p Hpk.out (.slice (some ⟨x4.heap.size, 0, Option.none⟩) 1 1) [ab] (x4.alloc (.cells #[.slice oa4 ab.length oc4] 63)) (IsRows.one (own_bytes G4.out.right) _) (HT.out.below ((all_below G4.out.right.right GS4.out).alloc GS4.out.size _)) (by simp) (by simp; omega)
      rw [show [ab].flatten = ab by simp, HC.out, ← Hmn.out] at hE
      clear hbx
      go_wp2_with (refine wpList_load_row_g12 rfl _ _ rfl w.heap.size rfl _ C _ _ gg4 hup rfl Hsz.out ?_)
      refine hE.mono ?_
      clear hE gg4
      rintro e x5 ⟨rfl, hbx⟩
      have GB := hide (((all_below G4.out.right.right GS4.out).alloc GS4.out.size (.cells #[.slice oa4 ab.length oc4] 63)).trans (hbx.mono (GS4.out.alloc (.cells #[.slice oa4 ab.length oc4] 63)).size))
      clear hbx
      go_wp2_with fail
      go_ret
      exact ⟨rfl, GB.out⟩
namespace lawPacketMatches
theorem own : ownKnob Tryd.prog.godebug = Option.none := by kernel_rfl
theorem laidOut : laidOutB Tryd.prog = true := by kernel_rfl

set_option maxRecDepth 100000 in
theorem contract (H : Type) (enc : TypeId × Value → H) (W : World) (base : Nat) (args : Array Value) (ds gs : List (DataW H)) (before : List MemPlace)
    (hval0 : ∀ (j : Nat) t v, Tryd.f11.params[j]? = some t → args[j]? = some v → Value.okWide Tryd.prog W .any base t v)
    (hW : DataW.Whole enc Tryd.prog Tryd.f11.params.toList Rows.packetMatchesSpec.vars false W args.toList ds gs before) (hsz : (DataW.weightsEach Tryd.prog (Tryd.f11.params.toList ++ (OpenSpec.ofChange Rows.packetMatchesSpec).bare.plain.varTypes Tryd.prog) (ds ++ gs)).all (· ≤ reachBytes) = true) (hL : laidMetH Tryd.prog Rows.packetMatchesRow.laid W) :
    Calls Tryd.prog 11 args W fun e W' => ∃ v, e = .returned v ∧ Rows.packetMatchesSpec.post enc Tryd.prog Tryd.f11 false true false false W args v W' := by
  have hval : ∀ (j : Nat) t v, Tryd.f11.params[j]? = some t → args[j]? = some v → Value.okWide Tryd.prog W .any base t v := hval0
  have hW' := hW
  obtain ⟨p, q, hA0, hV, rfl, hfz, hnd⟩ := hW
  have hA : DataW.TrodAll enc Tryd.prog W 0 (fun _ => true) true Tryd.f11.params.toList args.toList ds p := hA0
  rw [Tryd.params11] at hA hval
  obtain ⟨v0, vs0, d0, ds0, p0, q0, hargs, rfl, rfl, h0, r0⟩ := trodAll_cons hA
  obtain ⟨v1, vs1, d1, ds1, p1, q1, rfl, rfl, rfl, h1, r1⟩ := trodAll_cons r0
  obtain ⟨v2, vs2, d2, ds2, p2, q2, rfl, rfl, rfl, h2, r2⟩ := trodAll_cons r1
  obtain ⟨rfl, rfl, rfl⟩ := trodAll_nil r2
  obtain rfl : args = #[v0, v1, v2] := by cases args; simp_all
  obtain ⟨rfl, rfl⟩ := trodVars_none hV
  have k0 := h0
  have lt0 : ∀ x ∈ p0, x.block < W.heap.size := by obtain ⟨m, hm⟩ := k0; exact DataW.trod_lt m _ _ _ hm
  obtain ⟨s0, rfl, nn0⟩ := open_pk (hval 0 75 v0 rfl rfl) h0
  have k1 := h1
  have lt1 : ∀ x ∈ p1, x.block < W.heap.size := by obtain ⟨m, hm⟩ := k1; exact DataW.trod_lt m _ _ _ hm
  obtain ⟨l1, b1, n1⟩ := open_bytes Tryd.underlying63 Tryd.underlying5 (by kernel_rfl) (hval 1 63 v1 rfl rfl) h1
  have m1 := n1.reach hsz (j := 1) rfl rfl Tryd.underlying63 (show 1 ≤ Tryd.prog.bytesOf 5 from by rw [show Tryd.prog.bytesOf 5 = 1 by kernel_rfl]; decide)
  have k2 := h2
  have lt2 : ∀ x ∈ p2, x.block < W.heap.size := by obtain ⟨m, hm⟩ := k2; exact DataW.trod_lt m _ _ _ hm
  obtain ⟨l2, b2, n2⟩ := open_bytes Tryd.underlying63 Tryd.underlying5 (by kernel_rfl) (hval 2 63 v2 rfl rfl) h2
  have m2 := n2.reach hsz (j := 2) rfl rfl Tryd.underlying63 (show 1 ≤ Tryd.prog.bytesOf 5 from by rw [show Tryd.prog.bytesOf 5 = 1 by kernel_rfl]; decide)
  clear hA0 hval0 hsz
  refine (walk_PacketMatches W hL s0 nn0 v1 l1 b1 m1 v2 l2 b2 m2).mono fun e W' ⟨he, bel⟩ => ?_
  subst he
  exact ⟨_, rfl, _, _, _, [], _, [], hW', trodAll_mk1 (shut_bool Tryd.underlying4 _), (trodAll_cons_mk (Below.trod laidOut (by kernel_rfl) (of_decide_eq_true (by kernel_rfl)) k0 bel lt0) (trodAll_cons_mk (Below.trod laidOut (by kernel_rfl) (of_decide_eq_true (by kernel_rfl)) k1 bel lt1) (trodAll_cons_mk (Below.trod laidOut (by kernel_rfl) (of_decide_eq_true (by kernel_rfl)) k2 bel lt2) trodAll_mk0))), rfl, bel.frame _, fun h => by cases h⟩

/-- a world for the witness: the settled one, the listed variables holding what their initialisers lay -/
def litCells (d : DataW Unit) : Array Value := match d with
  | .agg l => (l.filterMap fun x => match x with | .lit (.int k n) => some (Value.int k n) | _ => Option.none).toArray
  | _ => #[]
noncomputable def laidWorld (os : Os) : World :=
  { World.holding Tryd.prog os ⟨#[], #[], []⟩ with heap := ((((World.holding Tryd.prog os ⟨#[], #[], []⟩).heap.modify 6 fun
      | .cells _ t frozen => .cells (litCells Rows.laid_bosun_shortsum_first) t frozen
      | o => o).modify 7 fun
      | .cells _ t frozen => .cells (litCells Rows.laid_bosun_shortsum_rounds) t frozen
      | o => o).modify 5 fun
      | .cells _ t frozen => .cells (litCells Rows.laid_bosun_packet_lengths) t frozen
      | o => o) }
theorem laid_met (os : Os) : laidMet Tryd.prog Rows.packetMatchesRow.laid ((laidWorld os).forCall (fun _ _ => 0) ⟨#[], #[.agg (pkC zP), .slice Option.none 0 0, .slice Option.none 0 0], []⟩).memory :=
  laidMet_of_run' 8 (by kernel_rfl) (by kernel_rfl)
theorem reads (os : Os) {H : Type} (enc : TypeId × Value → H) : ∃ places, DataW.whole enc Tryd.prog ((laidWorld os).forCall (fun _ _ => 0) ⟨#[], #[.agg (pkC zP), .slice Option.none 0 0, .slice Option.none 0 0], []⟩).memory Tryd.f11.params.toList Rows.packetMatchesSpec.vars false (#[.agg (pkC zP), .slice Option.none 0 0, .slice Option.none 0 0] : Array Value).toList 8 = some ([.agg [.lit (.int .u32 0), .lit (.int .u8 0), .lit (.int .u32 0), .lit (.int .u32 0), .agg (List.replicate 32 (.lit (.int .u8 0))), .agg (List.replicate 64 (.lit (.int .u8 0)))], .nil, .nil], [], places) :=
  ⟨[], by kernel_rfl⟩

set_option maxRecDepth 100000 in
theorem lifted (os : Os) (started : os.Started) (H : Type) (enc : TypeId × Value → H) (F : Stop.Interp) :
    ReturnsInHanded {} Tryd.checked os 11 .any ((OpenSpec.ofChange Rows.packetMatchesSpec).preRow enc Tryd.prog Tryd.f11 Rows.packetMatchesRow.domain false Rows.packetMatchesRow.laid) (((OpenSpec.ofChange Rows.packetMatchesSpec).at F).post enc Tryd.prog Tryd.f11 false true false false) := by
  obtain ⟨places, hx⟩ := reads os enc
  refine returnsInHanded_of_row (C := Tryd.checked) (s := OpenSpec.ofChange Rows.packetMatchesSpec) own started (by kernel_rfl) Tryd.func11
    (witness_row_at (enc := enc) (C := Tryd.checked) false (laidWorld os) #[.agg (pkC zP), .slice Option.none 0 0, .slice Option.none 0 0] rfl (by kernel_rfl) (by kernel_rfl) (by kernel_rfl)
      (OpenSpec.preRow_of_cond 8 hx (by kernel_rfl) (fun k hk => by cases hk) (by kernel_rfl) (laid_met os))) ?_
  intro W base args ds gs before hval hW _ _ hsz hL _ _
  exact contract H enc W base args ds gs before hval hW hsz hL

theorem said : Rows.PacketMatchesSaid :=
  OpenClaim.holds_of_cond 11 Tryd.f11 rfl rfl rfl rfl rfl rfl rfl ⟨rfl, rfl, rfl, rfl, rfl⟩ rfl rfl rfl rfl rfl (by kernel_rfl) Tryd.func11 (by kernel_rfl)
    (of_decide_eq_true (by kernel_rfl)) (by unfold Func.isWrapper; first | (rw [if_pos (by decide +kernel)]; kernel_rfl) | (rw [if_neg (by decide +kernel)]; exact ⟨rfl, rfl⟩))
    (fun os started H enc _ F => by rw [OpenClaim.pre_eq_preRow]; exact lifted os started H enc F)

theorem plain (f : FuncId) (fn : Func) (hf : Tryd.pinned.checked.prog.funcNamed "bosun/bosunlaw12.PacketMatches" = some f) (hfn : Tryd.pinned.checked.prog.funcs[f]? = some fn) :
    false = Tryd.pinned.checked.prog.looks [] ∧ ∀ (j : Nat) t, fn.params[j]? = some t → Tryd.pinned.checked.prog.wantsStandIn t = false := by
  obtain rfl : f = 11 := Option.some.inj ((show Tryd.prog.funcNamed "bosun/bosunlaw12.PacketMatches" = some 11 by kernel_rfl).symm.trans hf) |>.symm
  obtain rfl : fn = Tryd.f11 := (Option.some.inj (Tryd.func11.symm.trans hfn)).symm
  refine ⟨by kernel_rfl, fun j t ht => ?_⟩
  rw [Tryd.params11] at ht
  have hm : t ∈ [75, 63, 63] := by simpa using Array.mem_of_getElem? ht
  have hall : ∀ t ∈ [75, 63, 63], Tryd.prog.wantsStandIn t = false := by
    intro t ht
    simp only [List.mem_cons, List.not_mem_nil, or_false] at ht
    rcases ht with rfl | rfl | rfl <;> kernel_rfl
  exact hall t hm

theorem proved : Rows.PacketMatchesCardSaid :=
  Claim7.holds_tied_plain_at .later [] _ _ _ _ said (fun _ h => by cases h) (by kernel_rfl) (fun _ h => by cases h) packetMatches_row_tie rfl ⟨rfl, rfl⟩ (by kernel_rfl) rfl plain (by kernel_rfl)
end lawPacketMatches
end Go.Proofs.YtgkofpfjbjnhfaaDoor
