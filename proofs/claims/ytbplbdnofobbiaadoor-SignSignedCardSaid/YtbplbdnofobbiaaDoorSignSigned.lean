/- The law SignSigned: what is signed by any secret bytes is told as such; with a bit turned anywhere, as the document says. -/
import Derived.Test.YtbplbdnofobbiaaDoorSg8
import Derived.Test.YtbplbdnofobbiaaDoorCards
import Derived.Test.YtbplbdnofobbiaaDoorTie
import Derived.Deep.DeepHandedRow
set_option linter.unusedVariables false
set_option linter.unusedSimpArgs false
set_option maxRecDepth 100000
set_option maxHeartbeats 8000000
namespace Go.Proofs.YtbplbdnofobbiaaDoor
namespace Cv
open Fe
open Go.ChangeShapes Go.WideShapes Go.ChangeAt Go.RowKit
theorem star_2_1 (P Q R : SP) : P * (Q * R) = Q * (P * R) := SP.mul_left_comm P Q R
theorem bv_blk2 {v1 v2 : Value} {o1 o2 : Obj} {F : SP} {w : World} (h : (Multi2.bv v1 o1 * (Multi2.bv v2 o2 * F)).on w) :
  ∃ g1 g2, v1 = .pointer (some ⟨g1, 0, .none⟩) ∧ v2 = .pointer (some ⟨g2, 0, .none⟩) ∧ (blk g1 o1 * (blk g2 o2 * F)).on w := by
 obtain ⟨g1, e1, h⟩ := Multi2.bv_blk h
 rw [SP.mul_left_comm] at h
 obtain ⟨g2, e2, h⟩ := Multi2.bv_blk h
 exact ⟨g1, g2, e1, e2, by rw [SP.mul_left_comm]; exact h⟩
def tC (a b c : Int) : Array Value := #[.int .i64 a, .int .i64 b, .int .i64 c]
theorem tInfo (a b c : Int) : (Tryd.prog.info? 59).map (·.size) = some (tC a b c).size := by kernel_rfl
theorem tOne (a b c : Int) : (tC a b c).all (·.oneCell') = true := by simp [tC, Value.oneCell']
theorem tSize (a b c d e f : Int) : (tC a b c).size = (tC d e f).size := rfl
theorem tZero (w : World) : (zeroValue 59).run Tryd.prog w = .ok (.agg (tC 0 0 0)) w := by kernel_rfl
theorem um (t : Int) (c : Nat) (hc : 0 < c) : ∃ k : Nat, k < c ∧ (IntKind.u64.wrap t).tmod (c : Int) = (k : Int) := by
 have h0 : 0 ≤ IntKind.u64.wrap t := by rw [IntKind.wrap_u64]; omega
 have h1 := Int.emod_lt_of_pos (IntKind.u64.wrap t) (show (0 : Int) < (c : Int) by omega)
 have h2 := Int.emod_nonneg (IntKind.u64.wrap t) (show (c : Int) ≠ 0 by omega)
 refine ⟨((IntKind.u64.wrap t) % (c : Int)).toNat, by omega, ?_⟩
 rw [Int.tmod_eq_emod_of_nonneg h0]
 omega
theorem pow_wrap (k : Nat) (h : k < 8) : (2 : Int) ^ k % 256 = ((2 ^ k : Nat) : Int) := by
 have h1 : 2 ^ k < 256 := Nat.lt_of_lt_of_le (Nat.pow_lt_pow_right (by decide) h) (by decide)
 rw [Int.natCast_pow]
 exact Int.emod_eq_of_lt (Int.le_of_lt (Int.pow_pos (by decide))) (by exact_mod_cast h1)
theorem eqz (b : Bool) : (verE b == 0) = b := by cases b <;> rfl
theorem bit_lt (k : Nat) (h : k < 8) : 2 ^ k < 256 := Nat.lt_of_lt_of_le (Nat.pow_lt_pow_right (by decide) h) (by decide)
def tb (x : UInt8) (k : Nat) : UInt8 := UInt8.ofNat (x.toNat ^^^ 2 ^ k)
theorem tb_val (x : UInt8) (k : Nat) (h : k < 8) : (tb x k).toNat = x.toNat ^^^ 2 ^ k := by
 have h1 := bit_lt k h
 have h2 := UInt8.toNat_lt x
 have h3 : x.toNat ^^^ 2 ^ k < 256 := Nat.xor_lt_two_pow (n := 8) (by omega) (by omega)
 unfold tb
 rw [UInt8.toNat_ofNat']
 omega
theorem tb_run (x : UInt8) (k : Nat) (h : k < 8) : bits .xor .u8 ((x.toNat : Nat) : Int) ((2 ^ k : Nat) : Int) = (((tb x k).toNat : Nat) : Int) := by
 rw [tb_val x k h, u8_xor_nat _ _ (UInt8.toNat_lt x) (bit_lt k h)]
section
variable {H : Type} {enc : TypeId × Value → H} {w : World} {base : Nat} {spare : Nat → Bool} {held : Bool}
theorem trodS_i {P : Program} {t : TypeId} {fuel : Nat} {cs : List Value} {x : DataW H × List MemPlace} (ht : P.underlying t = some (.int .i64)) (h : DataW.trod enc P w base spare held fuel t cs = some x) : ∃ c : Int, cs = [.int .i64 c] := by
 obtain ⟨n, rfl, _, hw⟩ := DataW.trod_int ht h
 exact ⟨n, rfl⟩
theorem allS_i : ∀ (cs : List Value), (∀ i, i < cs.length → ∃ c : Int, cs[i]? = some (.int .i64 c)) → ∃ l : List Int, cs = l.map (Value.int .i64)
 | [], _ => ⟨[], rfl⟩
 | v :: cs, h => by
  obtain ⟨c, hc⟩ := h 0 (by simp)
  obtain ⟨l, rfl⟩ := allS_i cs (fun i hi => by have := h (i + 1) (by simp; omega); simpa using this)
  simp at hc
  exact ⟨c :: l, by rw [hc]; rfl⟩
theorem trodS_arri {P : Program} {t e : TypeId} {n fuel : Nat} {cs : List Value} {x : DataW H × List MemPlace} (ht : P.underlying t = some (.array n e)) (he : P.underlying e = some (.int .i64)) (hc : P.cellsOf e = 1) (hn : P.cellsOf t = n)
  (h : DataW.trod enc P w base spare held fuel t cs = some x) : ∃ l : List Int, l.length = n ∧ cs = l.map (Value.int .i64) := by
 obtain ⟨xs, m, _, _, hl, hxl, hf⟩ := DataW.trod_array ht h
 rw [hn] at hl
 obtain ⟨l, rfl⟩ := allS_i cs (fun i hi => by
  have h1 := hf i (by omega)
  rw [hc, Nat.mul_one] at h1
  rw [List.getElem?_eq_getElem (by omega)] at h1
  obtain ⟨c, e⟩ := trodS_i he h1
  have h2 := congrArg (fun l => l[0]?) e
  simp only [List.getElem?_take, List.getElem?_drop, Nat.add_zero, Nat.zero_lt_one, if_true] at h2
  exact ⟨c, by simpa using h2⟩)
 exact ⟨l, by simpa using hl, rfl⟩
theorem open_i3 {v : Value} {d : DataW H} {p : List MemPlace} {r : _} {base' : Nat} (hv : Value.okWide Tryd.prog w r base' 59 v) (h : DataW.Trod enc Tryd.prog w base spare held 59 v d p) : ∃ s : Int × Int × Int, v = .agg (tC s.1 s.2.1 s.2.2) ∧ True := by
 obtain ⟨cs, rfl, hsz⟩ := okS_array Tryd.underlying59 hv
 obtain ⟨fuel, hf⟩ := h
 obtain ⟨l, hl, e⟩ := trodS_arri Tryd.underlying59 Tryd.underlying3 (by kernel_rfl) (by kernel_rfl) hf
 have e' : cs.toList = l.map (Value.int .i64) := e
 match l, hl with
 | [a, b, c], _ =>
  refine ⟨(a, b, c), ?_, trivial⟩
  show _ = Value.agg #[.int .i64 a, .int .i64 b, .int .i64 c]
  congr 1
  exact Array.toList_inj.1 e'
end
theorem ss_nat (w : World) (hT : TabS w) (n : Nat) (hn : n < 256 ^ 32) (v : Value) (m : List UInt8) (hb : IsBytes w v m) (t0 t1 t2 : Int) :
  Calls Tryd.prog 6 #[.agg (zB n), v, .agg (tC t0 t1 t2)] w fun e w' => e = .returned (.bool true) ∧ Below w.heap.size w w' := by
 have hub := Tryd.underlying38
 have hut := Tryd.underlying59
 have huh := Tryd.underlying61
 have hzB := zBZero
 have hzT := tZero
 have hzH := hZero
 have h0 := ((on_all w).alloc (.cells (zB n) 38)).alloc (.cells (tC t0 t1 t2) 59)
 have s0 := ((Str.refl w).alloc (.cells (zB n) 38)).alloc (.cells (tC t0 t1 t2) 59)
 try simp only [World.size_alloc] at h0
 have H1 := hide h0
 have S1 := hide s0
 clear h0 s0
 have hu8s := Tryd.underlying56
 have hu8 := Tryd.underlying5
 have hi8 : (Tryd.prog.info? 5).map (fun i => (i.zero, i.size, i.bytes)) = some (some (.int .u8 0), 1, 1) := by kernel_rfl
 have Hi8 := hide hi8
 clear hi8
 have hk0 := hide (fun X (h1 : Below w.heap.size w X) => lives08_any X (hT.below h1))
 have HM := hide hb
 obtain ⟨ma, mc, rfl, hmc, hmm, _, _⟩ := hb
 unfold maxLen at hmm
 have k1 := fun X => mpublic_any n hn X
 have k2 := fun (hm : m.length ≤ 200) X (h1 : Below w.heap.size w X) => msign_any n hn _ m X (HM.out.below h1) (by omega)
 have kl := bl_len (pubN n)
 have sl := gC_len (sigRN n m) (Sg.sigT (bl n) m)
 have k3 := fun (hm : m.length ≤ 200) u X (h1 : Below w.heap.size w X) (hr2 : IsRows X u [m]) (hz : ∀ n c, u = .slice Option.none n c → c = 0) => sver_l (bl (pubN n)) (bl (sigRN n m) ++ bl (Sg.sigT (bl n) m)) kl sl u [m] X hr2 hz (hT.below h1) (by simp) (by simp; omega)
 rw [show ([m] : List (List UInt8)).flatten = m by simp, show Sg.verB (bl (pubN n)) (bl (sigRN n m) ++ bl (Sg.sigT (bl n) m)) m = true from Sg.signed_ok (bl n) m, show verE true = 0 from rfl] at k3
 change ∀ (_ : m.length ≤ 200) u X (_ : Below w.heap.size w X) (_ : IsRows X u [m]) (_ : ∀ n c, u = .slice Option.none n c → c = 0), Calls Tryd.prog 33 #[.agg (zB (pubN n)), .agg (gC (sigRN n m) (Sg.sigT (bl n) m)), u] X fun e w' => e = .returned (.int .i64 0) ∧ Below X.heap.size X w' at k3
 have hk1 := hide k1
 have hk2 := hide k2
 have hk3 := hide k3
 have Hver := hide (fun key sig hk hs u X m' (h1 : Below w.heap.size w X) hr2 hz (hm : m'.length ≤ 200) => sver_l key sig hk hs u [m'] X hr2 hz (hT.below h1) (by simp) (by simp; omega))
 have Hrver := hide (fun key sig hk hs u X m' hb (hm : m'.length ≤ 200) => rver_l key sig hk hs u m' X hb (by omega))
 have HcT0 : Hid ((tC t0 t1 t2)[0]? = some (.int .i64 t0)) := hide rfl
 have HcT1 : Hid ((tC t0 t1 t2)[1]? = some (.int .i64 t1)) := hide rfl
 have HcT2 : Hid ((tC t0 t1 t2)[2]? = some (.int .i64 t2)) := hide rfl
 have Hkl := hide kl
 have Hsl := hide sl
 have HKA0 : Hid (zb (bl (pubN n)) = zB (pubN n)) := hide rfl
 have HSA0 : Hid (zb (bl (sigRN n m) ++ bl (Sg.sigT (bl n) m)) = gC (sigRN n m) (Sg.sigT (bl n) m)) := hide rfl
 have HcK : Hid (∀ (i : Nat) (x : UInt8), (bl (pubN n))[i]? = some x → (zB (pubN n))[i]? = some (vb x)) := hide (fun i x h => zb_get _ i x h)
 have HcS : Hid (∀ (i : Nat) (x : UInt8), (bl (sigRN n m) ++ bl (Sg.sigT (bl n) m))[i]? = some x → (gC (sigRN n m) (Sg.sigT (bl n) m))[i]? = some (vb x)) := hide (fun i x h => zb_get _ i x h)
 have hui := Tryd.underlying3
 have huu := Tryd.underlying64
 clear k1 k2 k3 hn hT kl sl
 generalize bl (sigRN n m) ++ bl (Sg.sigT (bl n) m) = sL at *
 generalize bl (pubN n) = kL at *
 obtain ⟨HsSs, HoSs, HzSs⟩ := b3 (zBInfo n) (zBOne n) (zBSize 0 n)
 obtain ⟨HsTt, HoTt, HzTt⟩ := b3 (tInfo t0 t1 t2) (tOne t0 t1 t2) (tSize 0 0 0 t0 t1 t2)
 obtain ⟨HsPb, HoPb, HzPb⟩ := b3 (zBInfo (pubN n)) (zBOne (pubN n)) (zBSize 0 (pubN n))
 obtain ⟨HsGs, HoGs, HzGs⟩ := b3 (hInfo (sigRN n m) (Sg.sigT (bl n) m)) (gOne (sigRN n m) (Sg.sigT (bl n) m)) (gSize 0 0 (sigRN n m) (Sg.sigT (bl n) m))
 generalize zB n = Ss at *
 generalize tC t0 t1 t2 = Tt at *
 generalize zB (pubN n) = Pb at *
 generalize gC (sigRN n m) (Sg.sigT (bl n) m) = Gs at *
 generalize zB 0 = ZB at *
 generalize tC 0 0 0 = ZT at *
 generalize gC 0 0 = ZH at *
 go_enter Tryd.func6, Tryd.ntmps6
 refine wp_seq_h fun K1 hK1 => ?_
 go_wp2_with fail
 refine hK1.out _ _ ?_
 clear hK1 K1
 generalize (w.alloc (.cells Ss 38)).alloc (.cells Tt 59) = w1 at *
 go_wp2_with fail
 refine (hk0.out _ (all_below H1.out.right.right S1.out)).mono ?_
 rintro e w2 ⟨rfl, hB⟩
 obtain ⟨H2, S2⟩ := nx H1.out S1.out hB
 clear hB H1 S1
 by_cases hlen : 200 < m.length
 ·skip
  go_wp2_with fail
  refine (hk0.out _ (all_below H2.out.right.right S2.out)).mono ?_
  rintro e w3 ⟨rfl, hB⟩
  obtain ⟨H3, S3⟩ := nx H2.out S2.out hB
  clear hB H2 S2
  have HB := hide (all_below H3.out.right.right S3.out)
  go_wp2_with fail
  go_ret
  exact ⟨rfl, HB.out⟩
 ·have h200 : m.length ≤ 200 := by omega
  have H200 := hide h200
  clear h200
  go_wp2_with fail
  refine Multi2.wp_region_multi [5, 6, 7, 8] [5, 6] [7, 8] [isV (.agg Ss), isV (.agg Pb), isV (.agg Ss), isV (.slice ma m.length mc), isV (.agg Gs), (fun _ _ => True), (fun _ _ => True), (fun _ _ => True), (fun _ _ => True)]
   (by kernel_rfl) (by kernel_rfl) (by kernel_rfl) ⟨rfl, rfl, trivial⟩ (fun f s X => (Multi2.opt (f 5) (Multi2.bv (s 5) (.cells (if f 7 = true then Pb else ZB) 38 (0, 0))) * (Multi2.opt (f 6) (Multi2.bv (s 6) (.cells (if f 8 = true then Gs else ZH) 61 (0, 0))) * ((blk (w.heap.size + 1) (.cells Tt 59 (0, 0)) * (blk (w.heap.size) (.cells Ss 38 (0, 0)) * all w))))).on X ∧ Str w X) (fun _ => ⟨on_emp_mul.2 (on_emp_mul.2 (SP.on.drew H2.out)), Str.drew S2.out⟩) (fun f s a b h st => ⟨h.1.below st, h.2.trans (Str.below st)⟩) (fun f g s t X h h9 hI => by
   have e5 := h 5 rfl
   have e6 := h 6 rfl
   have e7 := h 7 rfl
   have e8 := h 8 rfl
   have i5 := h9 5 rfl
   have i6 := h9 6 rfl
   rw [← e5, ← e6, ← e7, ← e8]
   refine ⟨?_, hI.2⟩
   have := hI.1
   revert this i5 i6
   cases f 5 <;> cases f 6 <;> intro i5 i6 <;> simp_all [Multi2.opt]) ?keep ?todo ?r128 (by decide) (by decide)
  case keep => exact ⟨Keep.isV _, Keep.isV _, Keep.isV _, Keep.isV _, Keep.isV _, fun _ _ _ h _ => h, fun _ _ _ h _ => h, fun _ _ _ h _ => h, fun _ _ _ h _ => h, trivial⟩
  case todo =>
   refine ⟨?_, ?_, ?_, ?_, ?_, ?_, ?_, ?_, ?_, trivial⟩
   ·intro f hf0 hw hn ev X hT hb hk hf
    have e0 : ev (.tmp 3) = .pointer (some ⟨w.heap.size, 0, .none⟩) := by have h9 := hk.1; rw [if_pos (by kernel_rfl)] at h9; exact h9
    exact OpOk.load_row _ _ rfl _ e0 _ Ss (0, 0) _ (on_blk_mul hT.1.right.right.right) hub rfl HsSs.out (Multi2.ended_stay rfl rfl (Stay.refl _))
   ·intro f hf0 hw hn ev X hT hb hk hf
    have e0 : ev (.tmp 19) = _ := hf.1
    refine OpOk.enters (f := 31) (args := #[.agg Ss]) (W' := X) (by simp [execOp, resolve, invoke, e0, hb.1, hb.2.1, go_sem]) ((hk1.out X).mono ?_)
    rintro e _ ⟨rfl, hB⟩
    exact ⟨_, rfl, Multi2.ended_stay rfl rfl hB⟩
   ·intro f hf0 hw hn ev X hT hb hk hf
    have e0 : ev (.tmp 3) = .pointer (some ⟨w.heap.size, 0, .none⟩) := by have h9 := hk.1; rw [if_pos (by kernel_rfl)] at h9; exact h9
    exact OpOk.load_row _ _ rfl _ e0 _ Ss (0, 0) _ (on_blk_mul hT.1.right.right.right) hub rfl HsSs.out (Multi2.ended_stay rfl rfl (Stay.refl _))
   ·intro f hf0 hw hn ev X hT hb hk hf
    have e0 : ev (.tmp 1) = .slice ma m.length mc := by have h9 := hk.1; rw [if_pos (by kernel_rfl)] at h9; exact h9
    exact OpOk.move rfl e0 (Multi2.ended_stay rfl rfl (Stay.refl _))
   ·intro f hf0 hw hn ev X hT hb hk hf
    have e0 : ev (.tmp 21) = _ := hf.1
    have e1 : ev (.tmp 22) = _ := hf.2.1
    refine OpOk.enters (f := 32) (args := #[.agg Ss, .slice ma m.length mc]) (W' := X) (by simp [execOp, resolve, invoke, e0, e1, hb.1, hb.2.1, go_sem]) ((hk2.out H200.out X (all_below hT.1.right.right.right.right hT.2)).mono ?_)
    rintro e _ ⟨rfl, hB⟩
    exact ⟨_, rfl, Multi2.ended_stay rfl rfl hB⟩
   ·intro f hf0 hw hn ev X hT hb hk hf
    have fs : f 7 = false := hn 7 (by kernel_rfl)
    have hX := hT.1
    rw [hf0, Multi2.opt_false] at hX
    have hX2 := (on_emp_mul.1 hX).alloc (.cells ZB 38 (0, 0))
    exact OpOk.run (v := .pointer (some ⟨X.heap.size, 0, .none⟩)) (W' := X.alloc (.cells ZB 38)) (by simp [execOp, hzB, go_sem]) (Multi2.ended_turn rfl trivial ⟨by
     show (Multi2.opt true (Multi2.bv (.pointer (some ⟨X.heap.size, 0, .none⟩)) (.cells (if f 7 = true then Pb else ZB) 38 (0, 0))) * _).on _
     rw [fs]
     exact Multi2.blk_bv hX2, hT.2.alloc _⟩ (Multi2.free_keep (by
     intro P hP
     simp only [List.mem_cons, List.not_mem_nil, or_false] at hP
     rcases hP with rfl | rfl | rfl | rfl | rfl | rfl | rfl | rfl | rfl <;> exact fun _ _ _ h => h) _ _))
   ·intro f hf0 hw hn ev X hT hb hk hf
    have fs : f 8 = false := hn 8 (by kernel_rfl)
    have hX := hT.1
    rw [hf0, Multi2.opt_false, star_2_1] at hX
    have hX2 := (on_emp_mul.1 hX).alloc (.cells ZH 61 (0, 0))
    exact OpOk.run (v := .pointer (some ⟨X.heap.size, 0, .none⟩)) (W' := X.alloc (.cells ZH 61)) (by simp [execOp, hzH, go_sem]) (Multi2.ended_turn rfl trivial ⟨by
     show (_ * (Multi2.opt true (Multi2.bv (.pointer (some ⟨X.heap.size, 0, .none⟩)) (.cells (if f 8 = true then Gs else ZH) 61 (0, 0))) * _)).on _
     rw [fs, star_2_1]
     exact Multi2.blk_bv hX2, hT.2.alloc _⟩ (Multi2.free_keep (by
     intro P hP
     simp only [List.mem_cons, List.not_mem_nil, or_false] at hP
     rcases hP with rfl | rfl | rfl | rfl | rfl | rfl | rfl | rfl | rfl <;> exact fun _ _ _ h => h) _ _))
   ·intro f hf0 hw hn ev X hT hb hk hf
    have e0 := hf.1
    have e1 : ev (.tmp 20) = _ := hf.2.1
    have fa : f 5 = true := hw 5 (by kernel_rfl)
    have hX := hT.1
    rw [fa, hf0] at hX
    have hX' : (Multi2.bv (ev (.tmp 7)) (.cells ZB 38 (0, 0)) * _).on X := hX
    obtain ⟨g, hg, hX2⟩ := Multi2.bv_blk hX'
    exact OpOk.store_agg _ _ _ rfl g Pb hg e1 _ ZB hX2 HsPb.out HzPb.out HoPb.out (fun h3 => Multi2.ended_turn rfl trivial ⟨by
     show (Multi2.opt (f 5) (Multi2.bv (ev (.tmp 7)) (.cells Pb 38 (0, 0))) * _).on _
     rw [fa, hg]
     exact Multi2.blk_bv h3, hT.2.setRow _ _⟩ (Multi2.free_keep (by
     intro P hP
     simp only [List.mem_cons, List.not_mem_nil, or_false] at hP
     rcases hP with rfl | rfl | rfl | rfl | rfl | rfl | rfl | rfl | rfl <;> exact fun _ _ _ h => h) _ _))
   ·intro f hf0 hw hn ev X hT hb hk hf
    have e0 := hf.1
    have e1 : ev (.tmp 23) = _ := hf.2.1
    have fa : f 6 = true := hw 6 (by kernel_rfl)
    have hX := hT.1
    rw [fa, hf0, star_2_1] at hX
    have hX' : (Multi2.bv (ev (.tmp 8)) (.cells ZH 61 (0, 0)) * _).on X := hX
    obtain ⟨g, hg, hX2⟩ := Multi2.bv_blk hX'
    exact OpOk.store_agg _ _ _ rfl g Gs hg e1 _ ZH hX2 HsGs.out HzGs.out HoGs.out (fun h3 => Multi2.ended_turn rfl trivial ⟨by
     show (_ * (Multi2.opt (f 6) (Multi2.bv (ev (.tmp 8)) (.cells Gs 61 (0, 0))) * _)).on _
     rw [fa, hg, star_2_1]
     exact Multi2.blk_bv h3, hT.2.setRow _ _⟩ (Multi2.free_keep (by
     intro P hP
     simp only [List.mem_cons, List.not_mem_nil, or_false] at hP
     rcases hP with rfl | rfl | rfl | rfl | rfl | rfl | rfl | rfl | rfl <;> exact fun _ _ _ h => h) _ _))
  intro X s hI
  rintro _ ⟨-, -⟩ _ ⟨-, -⟩ _ ⟨-, -⟩ _ ⟨-, -⟩ _ ⟨-, -⟩ v5 ⟨k5, -⟩ v6 ⟨k6, -⟩ _ - _ -
  obtain ⟨hX, hSX⟩ := hI
  have hX0 : ((Multi2.bv (s 5) (.cells Pb 38 (0, 0))) * ((Multi2.bv (s 6) (.cells Gs 61 (0, 0))) * (blk (w.heap.size + 1) (.cells Tt 59 (0, 0)) * (blk (w.heap.size) (.cells Ss 38 (0, 0)) * all w)))).on X := hX
  clear hX
  have h9 := k5 rfl
  rw [← h9] at hX0
  clear h9 k5
  have h9 := k6 rfl
  rw [← h9] at hX0
  clear h9 k6
  obtain ⟨g7, g8, rfl, rfl, hY⟩ := bv_blk2 hX0
  have H3 := hide hY
  have S3 := hide hSX
  clear hX0 hY hSX H2 S2
  go_wp2
  refine Rest.done ?_
  try clear s
  generalize X = w3 at *
  have gK := on_blk_mul H3.out
  have gG := on_blk_mul H3.out.right
  go_wp2_with (first
   | (refine wL gK hub HsPb ?_)
   | (refine wL gG huh HsGs ?_))
  clear gK gG
  have hr := IsRows.one (w := w3) (HM.out.below (all_below H3.out.right.right.right.right S3.out)) 56
  have H4 := hide (SP.on.alloc' H3.out (.cells #[.slice ma m.length mc] 56))
  have S4 := hide (S3.out.alloc (.cells #[.slice ma m.length mc] 56))
  generalize w3.alloc (.cells #[.slice ma m.length mc] 56) = w4 at *
  clear H3 S3
  have hz : ∀ n c, (Value.slice (some ⟨w3.heap.size, 0, .none⟩) 1 1) = .slice Option.none n c → c = 0 := fun n c e => by injection e with e1; cases e1
  refine (hk3.out H200.out _ _ (all_below H4.out.right.right.right.right S4.out) hr hz).mono ?_
  rintro e w5 ⟨rfl, hB⟩
  obtain ⟨H5, S5⟩ := nx H4.out S4.out hB
  clear hB H4 S4
  clear hr hz
  have h8 : ∃ k : Nat, k < 8 ∧ (IntKind.u64.wrap t1).tmod 8 = (k : Int) := um t1 8 (by decide)
  obtain ⟨k, hk8, hq8⟩ := h8
  have h3 : ∃ k : Nat, k < 3 ∧ (IntKind.u64.wrap t0).tmod 3 = (k : Int) := um t0 3 (by decide)
  obtain ⟨d, hd3, hq3⟩ := h3
  have hd : d = 0 ∨ d = 1 ∨ d = 2 := by omega
  have hp := pow_wrap k hk8
  have Hxr := hide (fun x => tb_run x k hk8)
  generalize 2 ^ k = p at hp Hxr
  have Hp := hide hp
  have hpw : IntKind.u8.wrap ((2 : Int) ^ k) = (p : Int) := by rw [IntKind.wrap_u8]; exact hp
  have Hpw := hide hpw
  clear hp hpw
  have HmL := H200
  have hc1 := (cell_of_row w5 (w.heap.size + 1) 1 Tt _ _ (on_blk_mul H5.out.right.right)).trans HcT1.out
  have H0 := hide (own_new 5 1 0 [] H5.out rfl (by decide))
  have HB5 := hide (all_below H0.out.right.right.right.right.right (S5.out.alloc _))
  rcases hd with rfl | rfl | rfl
  ·have hq30 : (IntKind.u64.wrap t0).tmod 3 = 0 := hq3
   clear hq3
   skip
   go_wp2_with (first
    | (at_builtin; refine wpList_append_bytes (F := (blk (g7) (.cells Pb 38 (0, 0)) * (blk (g8) (.cells Gs 61 (0, 0)) * (blk (w.heap.size + 1) (.cells Tt 59 (0, 0)) * (blk (w.heap.size) (.cells Ss 38 (0, 0)) * all w))))) rfl _ _ 56 rfl 5 hu8s Hi8.out _ [] m rfl H0.out _ rfl (HM.out.below HB5.out) (by simp; omega) ?_; intro v10 w6 ho hs; rw [List.nil_append] at ho; obtain ⟨oa, oc, rfl, _, _, _, _⟩ := own_value ho; have H6 := hide ho; have S6 := hide ((S5.out.alloc _).trans hs); have hc0 := (cell_of_row w6 (w.heap.size + 1) 0 Tt _ _ (on_blk_mul H6.out.right.right.right)).trans HcT0.out; clear ho hs))
   clear hc0 hc1 H0 HB5 H5 S5
   have HKA := HKA0
   have h9 : ∃ i : Nat, i < 64 ∧ (IntKind.u64.wrap t2).tmod 64 = (i : Int) := um t2 64 (by decide)
   obtain ⟨i, hi, hq2⟩ := h9
   have s9 : IntKind.i64.wrap (i : Int) = (i : Int) := IntWalk.i64_in _ (by omega)
   obtain ⟨x, hx⟩ : ∃ x, (sL)[i]? = some x := ⟨_, List.getElem?_eq_getElem (by rw [Hsl.out]; exact hi)⟩
   have hcx := HcS.out i x hx
   have hxr := Hxr.out x
   have hset : (zb (sL)).setIfInBounds i (vb (tb x k)) = zb ((sL).set i (tb x k)) := zb_set _ _ _
   rw [HSA0.out] at hset
   have hln : ((sL).set i (tb x k)).length = 64 := by rw [List.length_set]; exact Hsl.out
   obtain ⟨NA, hNA⟩ : ∃ a, a = zb ((sL).set i (tb x k)) := ⟨_, rfl⟩
   rw [← hNA] at hset
   have HSA := hide hNA.symm
   have Hln := hide hln
   have Hset := hide hset
   have Hcx := hide hcx
   generalize hN2 : (sL).set i (tb x k) = nL at *
   generalize tb x k = y at *
   have Hxr2 := hide hxr
   have Hi := hide hi
   have hiI : (i : Int) < 64 := by omega
   have Hq2 := hide hq2
   clear hx hxr hset hcx hN2 hNA hln hq2
   refine wp_tail 11 [isV (.pointer (some ⟨w.heap.size + 1, 2, .none⟩)), isV (.int .i64 t2), isV (.int .u64 (IntKind.u64.wrap t2)), isV (.int .u64 (i : Int)), isV (.int .i64 (i : Int)), isV (.pointer (some ⟨g8, i, .none⟩)), isV (vb x), isV (.int .i64 (k : Int)), isV (.int .u8 (p : Int)), isV (vb y), isV (.pointer (some ⟨g8, i, .none⟩))] ?keep ?todo ?r129
   case keep => repeat (first | exact trivial | refine ⟨Keep.isV _, ?_⟩)
   case todo =>
    refine ⟨?_, ?_, ?_, ?_, ?_, ?_, ?_, ?_, ?_, ?_, ?_, trivial⟩
    ·intro ev X hT hb hk hf
     have e0 : ev (.tmp 5) = .pointer (some ⟨w.heap.size + 1, 0, .none⟩) := hk.1
     exact OpOk.r (by simp [execOp, e0, hb.1, hut, go_sem])
    ·intro ev X hT hb hk hf
     have e0 : ev (.tmp 62) = _ := hf.1
     have cW := (cell_of_row X (w.heap.size + 1) 2 Tt _ _ (on_blk_mul (H6.out.below hT).right.right.right)).trans HcT2.out
     exact OpOk.r (by simp [execOp, e0, cW, go_sem])
    ·intro ev X hT hb hk hf
     have e0 : ev (.tmp 63) = _ := hf.1
     exact OpOk.r (by simp [execOp, e0, hb.1, hui, huu, go_sem])
    ·intro ev X hT hb hk hf
     have e0 : ev (.tmp 64) = _ := hf.1
     exact OpOk.r (by have h9 := Hq2.out; simp [execOp, e0, hb.1, h9, go_sem])
    ·intro ev X hT hb hk hf
     have e0 : ev (.tmp 65) = _ := hf.1
     exact OpOk.r (by simp [execOp, e0, hb.1, hui, huu, s9, go_sem])
    ·intro ev X hT hb hk hf
     have e0 : ev (.tmp 8) = .pointer (some ⟨g8, 0, .none⟩) := hk.1
     have e1 : ev (.tmp 66) = _ := hf.1
     exact OpOk.r (by simp [execOp, e0, e1, hb.1, huh, hiI, go_sem]; try (intro h; omega))
    ·intro ev X hT hb hk hf
     have e0 : ev (.tmp 67) = _ := hf.1
     have cW := (cell_of_row X g8 i Gs _ _ (on_blk_mul (H6.out.below hT).right.right)).trans Hcx.out
     exact OpOk.r (by simp [execOp, e0, cW, go_sem])
    ·exact fun _ _ _ _ hk hf => OpOk.m rfl hk.1
    ·intro ev X hT hb hk hf
     have e0 : ev (.tmp 69) = _ := hf.1
     exact OpOk.r (by have h9 := Hpw.out; simp [execOp, e0, hb.1, hk8, h9, go_sem])
    ·intro ev X hT hb hk hf
     have e0 : ev (.tmp 68) = _ := hf.1
     have e1 : ev (.tmp 70) = _ := hf.2.1
     exact OpOk.r (by have h9 := Hxr2.out; simp [execOp, e0, e1, h9, go_sem])
    ·intro ev X hT hb hk hf
     have e0 : ev (.tmp 8) = .pointer (some ⟨g8, 0, .none⟩) := hk.1
     have e1 : ev (.tmp 66) = _ := hf.1
     exact OpOk.r (by simp [execOp, e0, e1, hb.1, huh, hiI, go_sem]; try (intro h; omega))
   intro w7 hX
   rintro _ rfl _ rfl _ rfl _ rfl _ rfl _ rfl _ rfl _ rfl _ rfl _ rfl _ rfl
   obtain ⟨H7, S7⟩ := nx H6.out S6.out hX
   clear hX H6 S6
   go_wp2
   refine Rest.done ?_
   have h9 := H7.out
   rw [show (own 5 1 (.slice oa m.length oc) m.length (vbs m) * (blk (g7) (.cells Pb 38 (0, 0)) * (blk (g8) (.cells Gs 61 (0, 0)) * (blk (w.heap.size + 1) (.cells Tt 59 (0, 0)) * (blk (w.heap.size) (.cells Ss 38 (0, 0)) * all w))))) = (blk (g8) (.cells Gs 61 (0, 0)) * (own 5 1 (.slice oa m.length oc) m.length (vbs m) * (blk (g7) (.cells Pb 38 (0, 0)) * (blk (w.heap.size + 1) (.cells Tt 59 (0, 0)) * (blk (w.heap.size) (.cells Ss 38 (0, 0)) * all w))))) by ac_rfl] at h9
   have hcell := (cell_of_row w7 g8 i Gs _ _ (on_blk_mul h9)).trans Hcx.out
   have hfz := frozen_of_row w7 g8 i _ _ (on_blk_mul h9)
   have hst := SP.on.setCell (i := i) h9 (vb y)
   rw [Hset.out] at hst
   have H8 := hide hst
   have S8 := hide (S7.out.setCell ⟨g8, i, .none⟩ (vb y))
   clear hst h9
   go_wp2_with fail
   generalize w7.setCell ⟨g8, i, .none⟩ (vb y) = w8 at *
   clear hcell hfz H7 S7
   have HsNA : Hid ((Tryd.prog.info? 61).map (·.size) = some NA.size) := hide (by rw [← HSA.out]; exact z64Info nL Hln.out)
   obtain ⟨bb, hbb⟩ : ∃ b, b = Sg.verB (kL) (nL) m := ⟨_, rfl⟩
   have q1 := fun u X h1 hr2 hz => Hver.out (kL) (nL) Hkl.out Hln.out u X m h1 hr2 hz HmL.out
   have q2 := fun u X hb => Hrver.out (kL) (nL) Hkl.out Hln.out u X m hb HmL.out
   rw [show ([m] : List (List UInt8)).flatten = m by simp, ← hbb, HKA.out, HSA.out] at q1
   rw [← hbb, HKA.out, HSA.out] at q2
   have hebb := eqz bb
   generalize verE bb = ee at *
   have Hebb := hide hebb
   have hq1 := hide q1
   have hq2 := hide q2
   clear q1 q2 hbb hebb
   refine wp_tail 11 [isV (.agg Pb), isV (.agg NA), isV (.slice oa m.length oc), fun v X => IsRows X v [m] ∧ ∀ n c, v = .slice Option.none n c → c = 0, isV (.int .i64 ee), isV (.bool bb), isV (.agg Pb), isV (.slice oa m.length oc), isV (.agg NA), isV (.bool bb), isV (.bool true)] ?keep ?todo ?r130
   case keep => exact ⟨Keep.isV _, Keep.isV _, Keep.isV _, fun _ _ _ h k => ⟨IsRows.below h.1 k, h.2⟩, Keep.isV _, Keep.isV _, Keep.isV _, Keep.isV _, Keep.isV _, Keep.isV _, Keep.isV _, trivial⟩
   case todo =>
    refine ⟨?_, ?_, ?_, ?_, ?_, ?_, ?_, ?_, ?_, ?_, ?_, trivial⟩
    ·exact fun ev X hT hb hk hf => OpOk.l (x := .tmp 7) hk.1 (on_blk_mul (H8.out.below hT).right.right) hub HsPb.out
    ·exact fun ev X hT hb hk hf => OpOk.l (x := .tmp 8) hk.1 (on_blk_mul (H8.out.below hT)) huh HsNA.out
    ·exact fun _ _ _ _ hk hf => OpOk.m rfl hk.1
    ·intro ev X hT hb hk hf
     have e0 : ev (.tmp 88) = _ := hf.1
     exact OpOk.run (v := .slice (some ⟨X.heap.size, 0, .none⟩) 1 1) (W' := X.alloc (.cells #[.slice oa m.length oc] 56)) (by simp [execOp, e0, go_sem]) ⟨⟨IsRows.one (own_bytes ((H8.out.below hT).right)) 56, fun n c e => by injection e with e1; cases e1⟩, (Below.refl X.heap.size X).alloc (Nat.le_refl _) _⟩
    ·intro ev X hT hb hk hf
     have e0 : ev (.tmp 86) = _ := hf.1
     have e1 : ev (.tmp 87) = _ := hf.2.1
     have e2 : IsRows X (ev (.tmp 89)) [m] ∧ ∀ n c, (ev (.tmp 89)) = .slice Option.none n c → c = 0 := hf.2.2.1
     have e9 : IsRows X (ev (.tmp 89)) [m] ∧ ∀ n c, ev (.tmp 89) = .slice Option.none n c → c = 0 := hf.2.2.1
     exact OpOk.c (by simp [execOp, resolve, invoke, e0, e1, hb.1, hb.2.1, go_sem]) (hq1.out _ X (all_below (H8.out.below hT).right.right.right.right.right (S8.out.trans (Str.below hT))) e9.1 e9.2)
    ·intro ev X hT hb hk hf
     have e0 : ev (.tmp 90) = _ := hf.1
     exact OpOk.r (by have h9 := Hebb.out; simp [execOp, e0, hb.1, h9, go_sem])
    ·exact fun ev X hT hb hk hf => OpOk.l (x := .tmp 7) hk.1 (on_blk_mul (H8.out.below hT).right.right) hub HsPb.out
    ·exact fun _ _ _ _ hk hf => OpOk.m rfl hk.1
    ·exact fun ev X hT hb hk hf => OpOk.l (x := .tmp 8) hk.1 (on_blk_mul (H8.out.below hT)) huh HsNA.out
    ·intro ev X hT hb hk hf
     have e0 : ev (.tmp 92) = _ := hf.1
     have e1 : ev (.tmp 93) = _ := hf.2.1
     have e2 : ev (.tmp 94) = _ := hf.2.2.1
     exact OpOk.c (by simp [execOp, resolve, invoke, e0, e1, e2, hb.1, hb.2.1, go_sem]) (hq2.out _ X (own_bytes ((H8.out.below hT).right)))
    ·intro ev X hT hb hk hf
     have e0 : ev (.tmp 91) = _ := hf.1
     have e1 : ev (.tmp 95) = _ := hf.2.1
     exact OpOk.r (by simp [execOp, e0, e1, go_sem])
   intro w9 hX
   rintro _ rfl _ rfl _ rfl _ - _ rfl _ rfl _ rfl _ rfl _ rfl _ rfl _ rfl
   obtain ⟨H9, S9⟩ := nx H8.out S8.out hX
   clear hX H8 S8
   go_wp2
   refine Rest.done ?_
   have HB := hide (all_below H9.out.right.right.right.right.right S9.out)
   go_wp2_with fail
   go_ret
   exact ⟨rfl, HB.out⟩
  ·have hq30 : (IntKind.u64.wrap t0).tmod 3 = 1 := hq3
   clear hq3
   skip
   go_wp2_with (first
    | (at_builtin; refine wpList_append_bytes (F := (blk (g7) (.cells Pb 38 (0, 0)) * (blk (g8) (.cells Gs 61 (0, 0)) * (blk (w.heap.size + 1) (.cells Tt 59 (0, 0)) * (blk (w.heap.size) (.cells Ss 38 (0, 0)) * all w))))) rfl _ _ 56 rfl 5 hu8s Hi8.out _ [] m rfl H0.out _ rfl (HM.out.below HB5.out) (by simp; omega) ?_; intro v10 w6 ho hs; rw [List.nil_append] at ho; obtain ⟨oa, oc, rfl, _, _, _, _⟩ := own_value ho; have H6 := hide ho; have S6 := hide ((S5.out.alloc _).trans hs); have hc0 := (cell_of_row w6 (w.heap.size + 1) 0 Tt _ _ (on_blk_mul H6.out.right.right.right)).trans HcT0.out; clear ho hs))
   clear hc0 hc1 H0 HB5 H5 S5
   have HSA := HSA0
   have h9 : ∃ i : Nat, i < 32 ∧ (IntKind.u64.wrap t2).tmod 32 = (i : Int) := um t2 32 (by decide)
   obtain ⟨i, hi, hq2⟩ := h9
   have s9 : IntKind.i64.wrap (i : Int) = (i : Int) := IntWalk.i64_in _ (by omega)
   obtain ⟨x, hx⟩ : ∃ x, (kL)[i]? = some x := ⟨_, List.getElem?_eq_getElem (by rw [Hkl.out]; exact hi)⟩
   have hcx := HcK.out i x hx
   have hxr := Hxr.out x
   have hset : (zb (kL)).setIfInBounds i (vb (tb x k)) = zb ((kL).set i (tb x k)) := zb_set _ _ _
   rw [HKA0.out] at hset
   have hln : ((kL).set i (tb x k)).length = 32 := by rw [List.length_set]; exact Hkl.out
   obtain ⟨NA, hNA⟩ : ∃ a, a = zb ((kL).set i (tb x k)) := ⟨_, rfl⟩
   rw [← hNA] at hset
   have HKA := hide hNA.symm
   have Hln := hide hln
   have Hset := hide hset
   have Hcx := hide hcx
   generalize hN2 : (kL).set i (tb x k) = nL at *
   generalize tb x k = y at *
   have Hxr2 := hide hxr
   have Hi := hide hi
   have hiI : (i : Int) < 32 := by omega
   have Hq2 := hide hq2
   clear hx hxr hset hcx hN2 hNA hln hq2
   refine wp_tail 11 [isV (.pointer (some ⟨w.heap.size + 1, 2, .none⟩)), isV (.int .i64 t2), isV (.int .u64 (IntKind.u64.wrap t2)), isV (.int .u64 (i : Int)), isV (.int .i64 (i : Int)), isV (.pointer (some ⟨g7, i, .none⟩)), isV (vb x), isV (.int .i64 (k : Int)), isV (.int .u8 (p : Int)), isV (vb y), isV (.pointer (some ⟨g7, i, .none⟩))] ?keep ?todo ?r131
   case keep => repeat (first | exact trivial | refine ⟨Keep.isV _, ?_⟩)
   case todo =>
    refine ⟨?_, ?_, ?_, ?_, ?_, ?_, ?_, ?_, ?_, ?_, ?_, trivial⟩
    ·intro ev X hT hb hk hf
     have e0 : ev (.tmp 5) = .pointer (some ⟨w.heap.size + 1, 0, .none⟩) := hk.1
     exact OpOk.r (by simp [execOp, e0, hb.1, hut, go_sem])
    ·intro ev X hT hb hk hf
     have e0 : ev (.tmp 75) = _ := hf.1
     have cW := (cell_of_row X (w.heap.size + 1) 2 Tt _ _ (on_blk_mul (H6.out.below hT).right.right.right)).trans HcT2.out
     exact OpOk.r (by simp [execOp, e0, cW, go_sem])
    ·intro ev X hT hb hk hf
     have e0 : ev (.tmp 76) = _ := hf.1
     exact OpOk.r (by simp [execOp, e0, hb.1, hui, huu, go_sem])
    ·intro ev X hT hb hk hf
     have e0 : ev (.tmp 77) = _ := hf.1
     exact OpOk.r (by have h9 := Hq2.out; simp [execOp, e0, hb.1, h9, go_sem])
    ·intro ev X hT hb hk hf
     have e0 : ev (.tmp 78) = _ := hf.1
     exact OpOk.r (by simp [execOp, e0, hb.1, hui, huu, s9, go_sem])
    ·intro ev X hT hb hk hf
     have e0 : ev (.tmp 7) = .pointer (some ⟨g7, 0, .none⟩) := hk.1
     have e1 : ev (.tmp 79) = _ := hf.1
     exact OpOk.r (by simp [execOp, e0, e1, hb.1, hub, hiI, go_sem]; try (intro h; omega))
    ·intro ev X hT hb hk hf
     have e0 : ev (.tmp 80) = _ := hf.1
     have cW := (cell_of_row X g7 i Pb _ _ (on_blk_mul (H6.out.below hT).right)).trans Hcx.out
     exact OpOk.r (by simp [execOp, e0, cW, go_sem])
    ·exact fun _ _ _ _ hk hf => OpOk.m rfl hk.1
    ·intro ev X hT hb hk hf
     have e0 : ev (.tmp 82) = _ := hf.1
     exact OpOk.r (by have h9 := Hpw.out; simp [execOp, e0, hb.1, hk8, h9, go_sem])
    ·intro ev X hT hb hk hf
     have e0 : ev (.tmp 81) = _ := hf.1
     have e1 : ev (.tmp 83) = _ := hf.2.1
     exact OpOk.r (by have h9 := Hxr2.out; simp [execOp, e0, e1, h9, go_sem])
    ·intro ev X hT hb hk hf
     have e0 : ev (.tmp 7) = .pointer (some ⟨g7, 0, .none⟩) := hk.1
     have e1 : ev (.tmp 79) = _ := hf.1
     exact OpOk.r (by simp [execOp, e0, e1, hb.1, hub, hiI, go_sem]; try (intro h; omega))
   intro w7 hX
   rintro _ rfl _ rfl _ rfl _ rfl _ rfl _ rfl _ rfl _ rfl _ rfl _ rfl _ rfl
   obtain ⟨H7, S7⟩ := nx H6.out S6.out hX
   clear hX H6 S6
   go_wp2
   refine Rest.done ?_
   have h9 := H7.out
   rw [show (own 5 1 (.slice oa m.length oc) m.length (vbs m) * (blk (g7) (.cells Pb 38 (0, 0)) * (blk (g8) (.cells Gs 61 (0, 0)) * (blk (w.heap.size + 1) (.cells Tt 59 (0, 0)) * (blk (w.heap.size) (.cells Ss 38 (0, 0)) * all w))))) = (blk (g7) (.cells Pb 38 (0, 0)) * (own 5 1 (.slice oa m.length oc) m.length (vbs m) * (blk (g8) (.cells Gs 61 (0, 0)) * (blk (w.heap.size + 1) (.cells Tt 59 (0, 0)) * (blk (w.heap.size) (.cells Ss 38 (0, 0)) * all w))))) by ac_rfl] at h9
   have hcell := (cell_of_row w7 g7 i Pb _ _ (on_blk_mul h9)).trans Hcx.out
   have hfz := frozen_of_row w7 g7 i _ _ (on_blk_mul h9)
   have hst := SP.on.setCell (i := i) h9 (vb y)
   rw [Hset.out] at hst
   have H8 := hide hst
   have S8 := hide (S7.out.setCell ⟨g7, i, .none⟩ (vb y))
   clear hst h9
   go_wp2_with fail
   generalize w7.setCell ⟨g7, i, .none⟩ (vb y) = w8 at *
   clear hcell hfz H7 S7
   have HsNA : Hid ((Tryd.prog.info? 38).map (·.size) = some NA.size) := hide (by rw [← HKA.out]; exact bInfo nL Hln.out)
   obtain ⟨bb, hbb⟩ : ∃ b, b = Sg.verB (nL) (sL) m := ⟨_, rfl⟩
   have q1 := fun u X h1 hr2 hz => Hver.out (nL) (sL) Hln.out Hsl.out u X m h1 hr2 hz HmL.out
   have q2 := fun u X hb => Hrver.out (nL) (sL) Hln.out Hsl.out u X m hb HmL.out
   rw [show ([m] : List (List UInt8)).flatten = m by simp, ← hbb, HKA.out, HSA.out] at q1
   rw [← hbb, HKA.out, HSA.out] at q2
   have hebb := eqz bb
   generalize verE bb = ee at *
   have Hebb := hide hebb
   have hq1 := hide q1
   have hq2 := hide q2
   clear q1 q2 hbb hebb
   refine wp_tail 11 [isV (.agg NA), isV (.agg Gs), isV (.slice oa m.length oc), fun v X => IsRows X v [m] ∧ ∀ n c, v = .slice Option.none n c → c = 0, isV (.int .i64 ee), isV (.bool bb), isV (.agg NA), isV (.slice oa m.length oc), isV (.agg Gs), isV (.bool bb), isV (.bool true)] ?keep ?todo ?r132
   case keep => exact ⟨Keep.isV _, Keep.isV _, Keep.isV _, fun _ _ _ h k => ⟨IsRows.below h.1 k, h.2⟩, Keep.isV _, Keep.isV _, Keep.isV _, Keep.isV _, Keep.isV _, Keep.isV _, Keep.isV _, trivial⟩
   case todo =>
    refine ⟨?_, ?_, ?_, ?_, ?_, ?_, ?_, ?_, ?_, ?_, ?_, trivial⟩
    ·exact fun ev X hT hb hk hf => OpOk.l (x := .tmp 7) hk.1 (on_blk_mul (H8.out.below hT)) hub HsNA.out
    ·exact fun ev X hT hb hk hf => OpOk.l (x := .tmp 8) hk.1 (on_blk_mul (H8.out.below hT).right.right) huh HsGs.out
    ·exact fun _ _ _ _ hk hf => OpOk.m rfl hk.1
    ·intro ev X hT hb hk hf
     have e0 : ev (.tmp 88) = _ := hf.1
     exact OpOk.run (v := .slice (some ⟨X.heap.size, 0, .none⟩) 1 1) (W' := X.alloc (.cells #[.slice oa m.length oc] 56)) (by simp [execOp, e0, go_sem]) ⟨⟨IsRows.one (own_bytes ((H8.out.below hT).right)) 56, fun n c e => by injection e with e1; cases e1⟩, (Below.refl X.heap.size X).alloc (Nat.le_refl _) _⟩
    ·intro ev X hT hb hk hf
     have e0 : ev (.tmp 86) = _ := hf.1
     have e1 : ev (.tmp 87) = _ := hf.2.1
     have e2 : IsRows X (ev (.tmp 89)) [m] ∧ ∀ n c, (ev (.tmp 89)) = .slice Option.none n c → c = 0 := hf.2.2.1
     have e9 : IsRows X (ev (.tmp 89)) [m] ∧ ∀ n c, ev (.tmp 89) = .slice Option.none n c → c = 0 := hf.2.2.1
     exact OpOk.c (by simp [execOp, resolve, invoke, e0, e1, hb.1, hb.2.1, go_sem]) (hq1.out _ X (all_below (H8.out.below hT).right.right.right.right.right (S8.out.trans (Str.below hT))) e9.1 e9.2)
    ·intro ev X hT hb hk hf
     have e0 : ev (.tmp 90) = _ := hf.1
     exact OpOk.r (by have h9 := Hebb.out; simp [execOp, e0, hb.1, h9, go_sem])
    ·exact fun ev X hT hb hk hf => OpOk.l (x := .tmp 7) hk.1 (on_blk_mul (H8.out.below hT)) hub HsNA.out
    ·exact fun _ _ _ _ hk hf => OpOk.m rfl hk.1
    ·exact fun ev X hT hb hk hf => OpOk.l (x := .tmp 8) hk.1 (on_blk_mul (H8.out.below hT).right.right) huh HsGs.out
    ·intro ev X hT hb hk hf
     have e0 : ev (.tmp 92) = _ := hf.1
     have e1 : ev (.tmp 93) = _ := hf.2.1
     have e2 : ev (.tmp 94) = _ := hf.2.2.1
     exact OpOk.c (by simp [execOp, resolve, invoke, e0, e1, e2, hb.1, hb.2.1, go_sem]) (hq2.out _ X (own_bytes ((H8.out.below hT).right)))
    ·intro ev X hT hb hk hf
     have e0 : ev (.tmp 91) = _ := hf.1
     have e1 : ev (.tmp 95) = _ := hf.2.1
     exact OpOk.r (by simp [execOp, e0, e1, go_sem])
   intro w9 hX
   rintro _ rfl _ rfl _ rfl _ - _ rfl _ rfl _ rfl _ rfl _ rfl _ rfl _ rfl
   obtain ⟨H9, S9⟩ := nx H8.out S8.out hX
   clear hX H8 S8
   go_wp2
   refine Rest.done ?_
   have HB := hide (all_below H9.out.right.right.right.right.right S9.out)
   go_wp2_with fail
   go_ret
   exact ⟨rfl, HB.out⟩
  ·have hq30 : (IntKind.u64.wrap t0).tmod 3 = 2 := hq3
   clear hq3
   have HKA := HKA0
   have HSA := HSA0
   by_cases hm0 : m.length = 0
   ·have hmb : (((m.length : Nat) : Int) == 0) = true := by rw [hm0]; rfl
    clear hm0
    go_wp2_with (first
     | (at_builtin; refine wpList_append_bytes (F := (blk (g7) (.cells Pb 38 (0, 0)) * (blk (g8) (.cells Gs 61 (0, 0)) * (blk (w.heap.size + 1) (.cells Tt 59 (0, 0)) * (blk (w.heap.size) (.cells Ss 38 (0, 0)) * all w))))) rfl _ _ 56 rfl 5 hu8s Hi8.out _ [] m rfl H0.out _ rfl (HM.out.below HB5.out) (by simp; omega) ?_; intro v10 w6 ho hs; rw [List.nil_append] at ho; obtain ⟨oa, oc, rfl, _, _, _, _⟩ := own_value ho; have H6 := hide ho; have S6 := hide ((S5.out.alloc _).trans hs); have hc0 := (cell_of_row w6 (w.heap.size + 1) 0 Tt _ _ (on_blk_mul H6.out.right.right.right)).trans HcT0.out; clear ho hs))
    have HB := hide (all_below H6.out.right.right.right.right.right S6.out)
    go_ret
    exact ⟨rfl, HB.out⟩
   ·have hmI : ((m.length : Nat) : Int) ≠ 0 := by omega
    go_wp2_with (first
     | (at_builtin; refine wpList_append_bytes (F := (blk (g7) (.cells Pb 38 (0, 0)) * (blk (g8) (.cells Gs 61 (0, 0)) * (blk (w.heap.size + 1) (.cells Tt 59 (0, 0)) * (blk (w.heap.size) (.cells Ss 38 (0, 0)) * all w))))) rfl _ _ 56 rfl 5 hu8s Hi8.out _ [] m rfl H0.out _ rfl (HM.out.below HB5.out) (by simp; omega) ?_; intro v10 w6 ho hs; rw [List.nil_append] at ho; obtain ⟨oa, oc, rfl, _, _, _, _⟩ := own_value ho; have H6 := hide ho; have S6 := hide ((S5.out.alloc _).trans hs); have hc0 := (cell_of_row w6 (w.heap.size + 1) 0 Tt _ _ (on_blk_mul H6.out.right.right.right)).trans HcT0.out; clear ho hs))
    clear hc0 hc1 H0 HB5 H5 S5
    obtain ⟨og, cap, hv9, _, _⟩ := own_block H6.out (by omega)
    injection hv9 with hv1 hv2 hv3
    subst hv1 hv3
    have hml := HmL.out
    have h9 : ∃ i : Nat, i < m.length ∧ (IntKind.u64.wrap t2).tmod ((m.length : Nat) : Int) = (i : Int) := um t2 m.length (by omega)
    obtain ⟨i, hi, hq2⟩ := h9
    have s9 : IntKind.i64.wrap (i : Int) = (i : Int) := IntWalk.i64_in _ (by omega)
    have s10 : IntKind.u64.wrap ((m.length : Nat) : Int) = ((m.length : Nat) : Int) := wrapS _ (by omega)
    obtain ⟨x, hx⟩ : ∃ x, m[i]? = some x := ⟨_, List.getElem?_eq_getElem hi⟩
    have hcx : (vbs m)[i]? = some (vb x) := by simp only [vbs, List.getElem?_map, hx, Option.map_some]
    have Hxr2 := hide (Hxr.out x)
    have hvs : (vbs m).set i (vb (tb x k)) = vbs (m.set i (tb x k)) := by simp [vbs, List.map_set]
    have hln : (m.set i (tb x k)).length ≤ 200 := by rw [List.length_set]; exact hml
    have Hln := hide hln
    have Hvs := hide hvs
    have Hcx := hide hcx
    generalize hN2 : m.set i (tb x k) = nL at *
    generalize tb x k = y at *
    have hiI : (i : Int) < ((m.length : Nat) : Int) := by omega
    have Hq2 := hide hq2
    have Hi := hide hi
    clear hx hcx hN2 hln hvs hq2 hml
    refine wp_tail 15 [isV (.slice (some ⟨og, 0, .none⟩) m.length oc), isV (.pointer (some ⟨w.heap.size + 1, 2, .none⟩)), isV (.int .i64 t2), isV (.int .u64 (IntKind.u64.wrap t2)), isV (.slice (some ⟨og, 0, .none⟩) m.length oc), isV (.int .i64 ((m.length : Nat) : Int)), isV (.int .u64 ((m.length : Nat) : Int)), isV (.int .u64 (i : Int)), isV (.int .i64 (i : Int)), isV (.pointer (some ⟨og, i, .none⟩)), isV (vb x), isV (.int .i64 (k : Int)), isV (.int .u8 (p : Int)), isV (vb y), isV (.pointer (some ⟨og, i, .none⟩))] ?keep ?todo ?r133
    case keep => repeat (first | exact trivial | refine ⟨Keep.isV _, ?_⟩)
    case todo =>
     refine ⟨?_, ?_, ?_, ?_, ?_, ?_, ?_, ?_, ?_, ?_, ?_, ?_, ?_, ?_, ?_, trivial⟩
     ·exact fun _ _ _ _ hk hf => OpOk.m rfl hk.1
     ·intro ev X hT hb hk hf
      have e0 : ev (.tmp 5) = .pointer (some ⟨w.heap.size + 1, 0, .none⟩) := hk.1
      exact OpOk.r (by simp [execOp, e0, hb.1, hut, go_sem])
     ·intro ev X hT hb hk hf
      have e0 : ev (.tmp 46) = _ := hf.1
      have cW := (cell_of_row X (w.heap.size + 1) 2 Tt _ _ (on_blk_mul (H6.out.below hT).right.right.right)).trans HcT2.out
      exact OpOk.r (by simp [execOp, e0, cW, go_sem])
     ·intro ev X hT hb hk hf
      have e0 : ev (.tmp 47) = _ := hf.1
      exact OpOk.r (by simp [execOp, e0, hb.1, hui, huu, go_sem])
     ·exact fun _ _ _ _ hk hf => OpOk.m rfl hk.1
     ·intro ev X hT hb hk hf
      have e0 : ev (.tmp 49) = _ := hf.1
      exact OpOk.r (by simp [execOp, resolve, invoke, builtin, e0, hb.1, go_sem])
     ·intro ev X hT hb hk hf
      have e0 : ev (.tmp 50) = _ := hf.1
      exact OpOk.r (by simp [execOp, e0, hb.1, hui, huu, s10, go_sem])
     ·intro ev X hT hb hk hf
      have e0 : ev (.tmp 48) = _ := hf.1
      have e1 : ev (.tmp 51) = _ := hf.2.1
      exact OpOk.r (by have h9 := Hq2.out; simp [execOp, e0, e1, hb.1, hm0, hmI, h9, go_sem])
     ·intro ev X hT hb hk hf
      have e0 : ev (.tmp 52) = _ := hf.1
      exact OpOk.r (by simp [execOp, e0, hb.1, hui, huu, s9, go_sem])
     ·intro ev X hT hb hk hf
      have e0 : ev (.tmp 45) = _ := hf.1
      have e1 : ev (.tmp 53) = _ := hf.2.1
      exact OpOk.r (by simp [execOp, e0, e1, hb.1, hu8s, hiI, go_sem]; try (intro h; omega))
     ·intro ev X hT hb hk hf
      have e0 : ev (.tmp 54) = _ := hf.1
      have cW := own_cell (H6.out.below hT) i (vb x) Hcx.out
      exact OpOk.r (by simp [execOp, e0, cW, go_sem])
     ·exact fun _ _ _ _ hk hf => OpOk.m rfl hk.1
     ·intro ev X hT hb hk hf
      have e0 : ev (.tmp 56) = _ := hf.1
      exact OpOk.r (by have h9 := Hpw.out; simp [execOp, e0, hb.1, hk8, h9, go_sem])
     ·intro ev X hT hb hk hf
      have e0 : ev (.tmp 55) = _ := hf.1
      have e1 : ev (.tmp 57) = _ := hf.2.1
      exact OpOk.r (by have h9 := Hxr2.out; simp [execOp, e0, e1, h9, go_sem])
     ·intro ev X hT hb hk hf
      have e0 : ev (.tmp 45) = _ := hf.1
      have e1 : ev (.tmp 53) = _ := hf.2.1
      exact OpOk.r (by simp [execOp, e0, e1, hb.1, hu8s, hiI, go_sem]; try (intro h; omega))
    intro w7 hX
    rintro _ rfl _ rfl _ rfl _ rfl _ rfl _ rfl _ rfl _ rfl _ rfl _ rfl _ rfl _ rfl _ rfl _ rfl _ rfl
    obtain ⟨H7, S7⟩ := nx H6.out S6.out hX
    clear hX H6 S6
    go_wp2
    refine Rest.done ?_
    have hcell := own_cell H7.out i (vb x) Hcx.out
    have hfz := own_free H7.out i
    have hst := own_store H7.out (j := i) Hi.out (vb y)
    rw [Hvs.out] at hst
    have H8 := hide hst
    have S8 := hide (S7.out.setCell ⟨og, i, .none⟩ (vb y))
    clear hst
    go_wp2_with fail
    generalize w7.setCell ⟨og, i, .none⟩ (vb y) = w8 at *
    clear hcell hfz H7 S7 HmL
    have HmL := Hln
    obtain ⟨bb, hbb⟩ : ∃ b, b = Sg.verB (kL) (sL) nL := ⟨_, rfl⟩
    have q1 := fun u X h1 hr2 hz => Hver.out (kL) (sL) Hkl.out Hsl.out u X nL h1 hr2 hz HmL.out
    have q2 := fun u X hb => Hrver.out (kL) (sL) Hkl.out Hsl.out u X nL hb HmL.out
    rw [show ([nL] : List (List UInt8)).flatten = nL by simp, ← hbb, HKA.out, HSA.out] at q1
    rw [← hbb, HKA.out, HSA.out] at q2
    have hebb := eqz bb
    generalize verE bb = ee at *
    have Hebb := hide hebb
    have hq1 := hide q1
    have hq2 := hide q2
    clear q1 q2 hbb hebb
    refine wp_tail 11 [isV (.agg Pb), isV (.agg Gs), isV (.slice (some ⟨og, 0, .none⟩) m.length oc), fun v X => IsRows X v [nL] ∧ ∀ n c, v = .slice Option.none n c → c = 0, isV (.int .i64 ee), isV (.bool bb), isV (.agg Pb), isV (.slice (some ⟨og, 0, .none⟩) m.length oc), isV (.agg Gs), isV (.bool bb), isV (.bool true)] ?keep ?todo ?r134
    case keep => exact ⟨Keep.isV _, Keep.isV _, Keep.isV _, fun _ _ _ h k => ⟨IsRows.below h.1 k, h.2⟩, Keep.isV _, Keep.isV _, Keep.isV _, Keep.isV _, Keep.isV _, Keep.isV _, Keep.isV _, trivial⟩
    case todo =>
     refine ⟨?_, ?_, ?_, ?_, ?_, ?_, ?_, ?_, ?_, ?_, ?_, trivial⟩
     ·exact fun ev X hT hb hk hf => OpOk.l (x := .tmp 7) hk.1 (on_blk_mul (H8.out.below hT).right) hub HsPb.out
     ·exact fun ev X hT hb hk hf => OpOk.l (x := .tmp 8) hk.1 (on_blk_mul (H8.out.below hT).right.right) huh HsGs.out
     ·exact fun _ _ _ _ hk hf => OpOk.m rfl hk.1
     ·intro ev X hT hb hk hf
      have e0 : ev (.tmp 88) = _ := hf.1
      exact OpOk.run (v := .slice (some ⟨X.heap.size, 0, .none⟩) 1 1) (W' := X.alloc (.cells #[.slice (some ⟨og, 0, .none⟩) m.length oc] 56)) (by simp [execOp, e0, go_sem]) ⟨⟨IsRows.one (own_bytes ((H8.out.below hT))) 56, fun n c e => by injection e with e1; cases e1⟩, (Below.refl X.heap.size X).alloc (Nat.le_refl _) _⟩
     ·intro ev X hT hb hk hf
      have e0 : ev (.tmp 86) = _ := hf.1
      have e1 : ev (.tmp 87) = _ := hf.2.1
      have e2 : IsRows X (ev (.tmp 89)) [nL] ∧ ∀ n c, (ev (.tmp 89)) = .slice Option.none n c → c = 0 := hf.2.2.1
      have e9 : IsRows X (ev (.tmp 89)) [nL] ∧ ∀ n c, ev (.tmp 89) = .slice Option.none n c → c = 0 := hf.2.2.1
      exact OpOk.c (by simp [execOp, resolve, invoke, e0, e1, hb.1, hb.2.1, go_sem]) (hq1.out _ X (all_below (H8.out.below hT).right.right.right.right.right (S8.out.trans (Str.below hT))) e9.1 e9.2)
     ·intro ev X hT hb hk hf
      have e0 : ev (.tmp 90) = _ := hf.1
      exact OpOk.r (by have h9 := Hebb.out; simp [execOp, e0, hb.1, h9, go_sem])
     ·exact fun ev X hT hb hk hf => OpOk.l (x := .tmp 7) hk.1 (on_blk_mul (H8.out.below hT).right) hub HsPb.out
     ·exact fun _ _ _ _ hk hf => OpOk.m rfl hk.1
     ·exact fun ev X hT hb hk hf => OpOk.l (x := .tmp 8) hk.1 (on_blk_mul (H8.out.below hT).right.right) huh HsGs.out
     ·intro ev X hT hb hk hf
      have e0 : ev (.tmp 92) = _ := hf.1
      have e1 : ev (.tmp 93) = _ := hf.2.1
      have e2 : ev (.tmp 94) = _ := hf.2.2.1
      exact OpOk.c (by simp [execOp, resolve, invoke, e0, e1, e2, hb.1, hb.2.1, go_sem]) (hq2.out _ X (own_bytes ((H8.out.below hT))))
     ·intro ev X hT hb hk hf
      have e0 : ev (.tmp 91) = _ := hf.1
      have e1 : ev (.tmp 95) = _ := hf.2.1
      exact OpOk.r (by simp [execOp, e0, e1, go_sem])
    intro w9 hX
    rintro _ rfl _ rfl _ rfl _ - _ rfl _ rfl _ rfl _ rfl _ rfl _ rfl _ rfl
    obtain ⟨H9, S9⟩ := nx H8.out S8.out hX
    clear hX H8 S8
    go_wp2
    refine Rest.done ?_
    have HB := hide (all_below H9.out.right.right.right.right.right S9.out)
    go_wp2_with fail
    go_ret
    exact ⟨rfl, HB.out⟩
end Cv
open Go.ChangeShapes Go.WideShapes Go.ChangeAt Go.RowKit
theorem walk_SignSigned (w : World) (hL : laidMetH Tryd.prog Rows.signSignedRow.laid w) (sec : List UInt8) (hk : sec.length = 32) (v : Value) (m : List UInt8) (hb : IsBytes w v m) (t : Int × Int × Int) (_ : True) :
  Calls Tryd.prog 6 #[.agg (zb sec), v, .agg (Cv.tC t.1 t.2.1 t.2.2)] w fun e w' => e = .returned (.bool true) ∧ Below w.heap.size w w' := by
 have h := Cv.ss_nat w (Cv.tab_sign hL) (leN sec) (Cv.leN_lt8 sec hk) v m hb t.1 t.2.1 t.2.2
 rwa [← Cv.zb_of sec hk] at h
namespace lawSignSigned
theorem own : ownKnob Tryd.prog.godebug = Option.none := by kernel_rfl
theorem laidOut : laidOutB Tryd.prog = true := by kernel_rfl
theorem contract (H : Type) (enc : TypeId × Value → H) (W : World) (base : Nat) (args : Array Value) (ds gs : List (DataW H)) (before : List MemPlace)
  (hval0 : ∀ (j : Nat) t v, Tryd.f6.params[j]? = some t → args[j]? = some v → Value.okWide Tryd.prog W .any base t v)
  (hW : DataW.Whole enc Tryd.prog Tryd.f6.params.toList Rows.signSignedSpec.vars false W args.toList ds gs before) (hsz : (DataW.weightsEach Tryd.prog (Tryd.f6.params.toList ++ (OpenSpec.ofChange Rows.signSignedSpec).bare.plain.varTypes Tryd.prog) (ds ++ gs)).all (· ≤ reachBytes) = true) (hL : laidMetH Tryd.prog Rows.signSignedRow.laid W) :
  Calls Tryd.prog 6 args W fun e W' => ∃ v, e = .returned v ∧ Rows.signSignedSpec.post enc Tryd.prog Tryd.f6 false true false false W args v W' := by
 have hval : ∀ (j : Nat) t v, Tryd.f6.params[j]? = some t → args[j]? = some v → Value.okWide Tryd.prog W .any base t v := hval0
 have hW' := hW
 obtain ⟨p, q, hA0, hV, rfl, hfz, hnd⟩ := hW
 have hA : DataW.TrodAll enc Tryd.prog W 0 (fun _ => true) true Tryd.f6.params.toList args.toList ds p := hA0
 rw [Tryd.params6] at hA hval
 obtain ⟨v0, vs0, d0, ds0, p0, q0, hargs, rfl, rfl, h0, r0⟩ := trodAll_cons hA
 obtain ⟨v1, vs1, d1, ds1, p1, q1, rfl, rfl, rfl, h1, r1⟩ := trodAll_cons r0
 obtain ⟨v2, vs2, d2, ds2, p2, q2, rfl, rfl, rfl, h2, r2⟩ := trodAll_cons r1
 obtain ⟨rfl, rfl, rfl⟩ := trodAll_nil r2
 obtain rfl : args = #[v0, v1, v2] := by cases args; simp_all
 obtain ⟨rfl, rfl⟩ := trodVars_none hV
 have k0 := h0
 have lt0 : ∀ x ∈ p0, x.block < W.heap.size := by obtain ⟨m, hm⟩ := k0; exact DataW.trod_lt m _ _ _ hm
 obtain ⟨s0, rfl, b0⟩ := open_b32 (hval 0 38 v0 rfl rfl) h0
 have k1 := h1
 have lt1 : ∀ x ∈ p1, x.block < W.heap.size := by obtain ⟨m, hm⟩ := k1; exact DataW.trod_lt m _ _ _ hm
 obtain ⟨l1, b1, n1⟩ := open_bytes Tryd.underlying56 Tryd.underlying5 (by kernel_rfl) (hval 1 56 v1 rfl rfl) h1
 have k2 := h2
 have lt2 : ∀ x ∈ p2, x.block < W.heap.size := by obtain ⟨m, hm⟩ := k2; exact DataW.trod_lt m _ _ _ hm
 obtain ⟨s2, rfl, b2⟩ := Cv.open_i3 (hval 2 59 v2 rfl rfl) h2
 clear hA0 hval0 hsz
 refine (walk_SignSigned W hL s0 b0 v1 l1 b1 s2 b2).mono fun e W' ⟨he, bel⟩ => ?_
 subst he
 exact ⟨_, rfl, _, _, _, [], _, [], hW', trodAll_mk1 (shut_bool Tryd.underlying4 _), (trodAll_cons_mk (Below.trod laidOut (by kernel_rfl) (of_decide_eq_true (by kernel_rfl)) k0 bel lt0) (trodAll_cons_mk (Below.trod laidOut (by kernel_rfl) (of_decide_eq_true (by kernel_rfl)) k1 bel lt1) (trodAll_cons_mk (Below.trod laidOut (by kernel_rfl) (of_decide_eq_true (by kernel_rfl)) k2 bel lt2) trodAll_mk0))), rfl, bel.frame _, fun h => by cases h⟩
def litCells (d : DataW Unit) : Array Value := match d with
 | .agg l => (l.filterMap fun x => match x with | .lit (.int k n) => some (Value.int k n) | _ => Option.none).toArray
 | _ => #[]
noncomputable def laidWorld (os : Os) : World :=
 { World.holding Tryd.prog os ⟨#[], #[], []⟩ with heap := ((((((((((((World.holding Tryd.prog os ⟨#[], #[], []⟩).heap.modify 5 fun
   | .cells _ t frozen => .cells (litCells Rows.laid_bosun_field_modulus) t frozen
   | o => o).modify 6 fun
   | .cells _ t frozen => .cells (litCells Rows.laid_bosun_field_lessTwo) t frozen
   | o => o).modify 7 fun
   | .cells _ t frozen => .cells (litCells Rows.laid_bosun_field_eighth) t frozen
   | o => o).modify 8 fun
   | .cells _ t frozen => .cells (litCells Rows.laid_bosun_field_rootOfMinusOne) t frozen
   | o => o).modify 9 fun
   | .cells _ t frozen => .cells (litCells Rows.laid_bosun_longsum_first) t frozen
   | o => o).modify 10 fun
   | .cells _ t frozen => .cells (litCells Rows.laid_bosun_longsum_rounds) t frozen
   | o => o).modify 2 fun
   | .cells _ t frozen => .cells (litCells Rows.laid_bosun_scalar_order) t frozen
   | o => o).modify 4 fun
   | .cells _ t frozen => .cells (litCells Rows.laid_bosun_curve_d) t frozen
   | o => o).modify 3 fun
   | .cells _ t frozen => .cells (litCells Rows.laid_bosun_curve_dTwice) t frozen
   | o => o).modify 0 fun
   | .cells _ t frozen => .cells (litCells Rows.laid_bosun_curve_baseX) t frozen
   | o => o).modify 1 fun
   | .cells _ t frozen => .cells (litCells Rows.laid_bosun_curve_baseY) t frozen
   | o => o) }
theorem laid_met (os : Os) : laidMet Tryd.prog Rows.signSignedRow.laid ((laidWorld os).forCall (fun _ _ => 0) ⟨#[], #[.agg #[.int .u8 0, .int .u8 0, .int .u8 0, .int .u8 0, .int .u8 0, .int .u8 0, .int .u8 0, .int .u8 0, .int .u8 0, .int .u8 0, .int .u8 0, .int .u8 0, .int .u8 0, .int .u8 0, .int .u8 0, .int .u8 0, .int .u8 0, .int .u8 0, .int .u8 0, .int .u8 0, .int .u8 0, .int .u8 0, .int .u8 0, .int .u8 0, .int .u8 0, .int .u8 0, .int .u8 0, .int .u8 0, .int .u8 0, .int .u8 0, .int .u8 0, .int .u8 0], .slice Option.none 0 0, .agg #[.int .i64 0, .int .i64 0, .int .i64 0]], []⟩).memory :=
 laidMet_of_run' 8 (by kernel_rfl) (by kernel_rfl)
theorem reads (os : Os) {H : Type} (enc : TypeId × Value → H) : ∃ places, DataW.whole enc Tryd.prog ((laidWorld os).forCall (fun _ _ => 0) ⟨#[], #[.agg #[.int .u8 0, .int .u8 0, .int .u8 0, .int .u8 0, .int .u8 0, .int .u8 0, .int .u8 0, .int .u8 0, .int .u8 0, .int .u8 0, .int .u8 0, .int .u8 0, .int .u8 0, .int .u8 0, .int .u8 0, .int .u8 0, .int .u8 0, .int .u8 0, .int .u8 0, .int .u8 0, .int .u8 0, .int .u8 0, .int .u8 0, .int .u8 0, .int .u8 0, .int .u8 0, .int .u8 0, .int .u8 0, .int .u8 0, .int .u8 0, .int .u8 0, .int .u8 0], .slice Option.none 0 0, .agg #[.int .i64 0, .int .i64 0, .int .i64 0]], []⟩).memory Tryd.f6.params.toList Rows.signSignedSpec.vars false (#[.agg #[.int .u8 0, .int .u8 0, .int .u8 0, .int .u8 0, .int .u8 0, .int .u8 0, .int .u8 0, .int .u8 0, .int .u8 0, .int .u8 0, .int .u8 0, .int .u8 0, .int .u8 0, .int .u8 0, .int .u8 0, .int .u8 0, .int .u8 0, .int .u8 0, .int .u8 0, .int .u8 0, .int .u8 0, .int .u8 0, .int .u8 0, .int .u8 0, .int .u8 0, .int .u8 0, .int .u8 0, .int .u8 0, .int .u8 0, .int .u8 0, .int .u8 0, .int .u8 0], .slice Option.none 0 0, .agg #[.int .i64 0, .int .i64 0, .int .i64 0]] : Array Value).toList 8 = some ([.agg (List.replicate 32 (.lit (.int .u8 0))), .nil, .agg (List.replicate 3 (.lit (.int .i64 0)))], [], places) :=
 ⟨[], by kernel_rfl⟩
theorem lifted (os : Os) (started : os.Started) (H : Type) (enc : TypeId × Value → H) (F : Stop.Interp) :
  ReturnsInHanded {} Tryd.checked os 6 .any ((OpenSpec.ofChange Rows.signSignedSpec).preRow enc Tryd.prog Tryd.f6 Rows.signSignedRow.domain false Rows.signSignedRow.laid) (((OpenSpec.ofChange Rows.signSignedSpec).at F).post enc Tryd.prog Tryd.f6 false true false false) := by
 obtain ⟨places, hx⟩ := reads os enc
 refine returnsInHanded_of_row (C := Tryd.checked) (s := OpenSpec.ofChange Rows.signSignedSpec) own started (by kernel_rfl) Tryd.func6
  (witness_row_at (enc := enc) (C := Tryd.checked) false (laidWorld os) #[.agg #[.int .u8 0, .int .u8 0, .int .u8 0, .int .u8 0, .int .u8 0, .int .u8 0, .int .u8 0, .int .u8 0, .int .u8 0, .int .u8 0, .int .u8 0, .int .u8 0, .int .u8 0, .int .u8 0, .int .u8 0, .int .u8 0, .int .u8 0, .int .u8 0, .int .u8 0, .int .u8 0, .int .u8 0, .int .u8 0, .int .u8 0, .int .u8 0, .int .u8 0, .int .u8 0, .int .u8 0, .int .u8 0, .int .u8 0, .int .u8 0, .int .u8 0, .int .u8 0], .slice Option.none 0 0, .agg #[.int .i64 0, .int .i64 0, .int .i64 0]] rfl (by kernel_rfl) (by kernel_rfl) (by kernel_rfl)
   (OpenSpec.preRow_of_cond 8 hx (by kernel_rfl) (fun k hk => by cases hk) (by kernel_rfl) (laid_met os))) ?_
 intro W base args ds gs before hval hW _ _ hsz hL _ _
 exact contract H enc W base args ds gs before hval hW hsz hL
theorem said : Rows.SignSignedSaid :=
 OpenClaim.holds_of_cond 6 Tryd.f6 rfl rfl rfl rfl rfl rfl rfl ⟨rfl, rfl, rfl, rfl, rfl⟩ rfl rfl rfl rfl rfl (by kernel_rfl) Tryd.func6 (by kernel_rfl)
  (of_decide_eq_true (by kernel_rfl)) (by unfold Func.isWrapper; first | (rw [if_pos (by decide +kernel)]; kernel_rfl) | (rw [if_neg (by decide +kernel)]; exact ⟨rfl, rfl⟩))
  (fun os started H enc _ F => by rw [OpenClaim.pre_eq_preRow]; exact lifted os started H enc F)
theorem plain (f : FuncId) (fn : Func) (hf : Tryd.pinned.checked.prog.funcNamed "bosun/bosunlaw08.SignSigned" = some f) (hfn : Tryd.pinned.checked.prog.funcs[f]? = some fn) :
  false = Tryd.pinned.checked.prog.looks [] ∧ ∀ (j : Nat) t, fn.params[j]? = some t → Tryd.pinned.checked.prog.wantsStandIn t = false := by
 obtain rfl : f = 6 := Option.some.inj ((show Tryd.prog.funcNamed "bosun/bosunlaw08.SignSigned" = some 6 by kernel_rfl).symm.trans hf) |>.symm
 obtain rfl : fn = Tryd.f6 := (Option.some.inj (Tryd.func6.symm.trans hfn)).symm
 refine ⟨by kernel_rfl, fun j t ht => ?_⟩
 rw [Tryd.params6] at ht
 have hm : t ∈ [38, 56, 59] := by simpa using Array.mem_of_getElem? ht
 have hall : ∀ t ∈ [38, 56, 59], Tryd.prog.wantsStandIn t = false := by
  intro t ht
  simp only [List.mem_cons, List.not_mem_nil, or_false] at ht
  rcases ht with rfl | rfl | rfl <;> kernel_rfl
 exact hall t hm
theorem proved : Rows.SignSignedCardSaid :=
 Claim7.holds_tied_plain_at .later [] _ _ _ _ said (fun _ h => by cases h) (by kernel_rfl) (fun _ h => by cases h) signSigned_row_tie rfl ⟨rfl, rfl⟩ (by kernel_rfl) rfl plain (by kernel_rfl)
end lawSignSigned
end Go.Proofs.YtbplbdnofobbiaaDoor
