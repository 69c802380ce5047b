/- packet: the table of lengths, from the row's condition; equality of packets; a packet as an argument; the chapter's example. -/
import Derived.Test.YtgkofpfjbjnhfaaGreatDoorPk5
import Derived.Test.YtgkofpfjbjnhfaaGreatDoorOpen
import Derived.Test.YtgkofpfjbjnhfaaGreatDoorEqArr
import Derived.Lib.LaidTab
import Derived.LaidSub
import Derived.MakeChecks
import Derived.Laws.StructEq
namespace Go.Proofs.YtgkofpfjbjnhfaaGreatDoor
open Go.ChangeShapes Go.WideShapes Go.ChangeAt Go.RowKit
set_option linter.unusedVariables false
set_option linter.unusedSimpArgs false

set_option maxRecDepth 100000 in
theorem lens_of_tab {W : World} (hL : laidMet Tryz.prog [("bosun/packet.lengths", Lib.tabData .i64 lensL)] W) : Lens W := by
  have t1 := Lib.tabIs_of_head (g := 1) (t := 110) (e := 3) (n := 7) (by kernel_rfl) (by kernel_rfl) Tryz.underlying110 Tryz.underlying3 (by kernel_rfl) (by kernel_rfl) hL
  intro i hi
  have := t1.cell (g := 1) (by kernel_rfl) i (by show i < 7; exact hi)
  rw [this]
theorem lens_of_laid {W : World} (hL : laidMetH Tryz.prog [("bosun/packet.lengths", Rows.laid_bosun_packet_lengths)] W) : Lens W := by
  rw [MakeChecks.laidMetH_plain _ _ _ (by kernel_rfl)] at hL
  have e1 : (Rows.laid_bosun_packet_lengths : DataW Unit) = Lib.tabData .i64 lensL := by kernel_rfl
  rw [e1] at hL
  exact lens_of_tab hL

theorem run_part_arr {P : Program} (w : World) (e : TypeId) (n : Nat) (e' : TypeId) (he : P.underlying e = some (.array n e')) (hi : (P.info? e).map (·.size) = some n) (cs : Array Value) (i : Nat) : (part e cs i).run P w = .ok (.agg (cs.extract i (i + n))) w := by
  have hagg : (isAgg e).run P w = .ok true w := by
    unfold isAgg
    rw [Sem.run_bind, run_underlying he w]
    simp
  cases hq : P.info? e with
  | none => simp [hq] at hi
  | some inf =>
    have h1 : inf.size = n := by simpa [hq] using hi
    simp [part, hagg, sizeOf, typeInfo, hq, h1]
theorem pk_ext1 {p : PkS} (h : p.Ok) : (pkC p).extract 4 (4 + 32) = (vbs p.hash).toArray ∧ (rpC p).extract 4 (4 + 32) = (vbs p.hash).toArray := by
  constructor <;>
  · apply Array.toList_inj.1
    rw [Array.toList_extract]
    simp only [List.extract, pkC, rpC, pkL, rpL, drop4]
    exact List.take_left' (by simp [h.hash])
theorem pk_ext2 {p : PkS} (h : p.Ok) : (pkC p).extract 36 (36 + 64) = (vbs p.sig).toArray ∧ (rpC p).extract 36 (36 + 64) = (vbs p.sig).toArray := by
  constructor <;>
  · apply Array.toList_inj.1
    rw [Array.toList_extract]
    simp only [List.extract, pkC, rpC, pkL, rpL]
    rw [← List.append_assoc, List.drop_left' (by simp [h.hash])]
    exact List.take_of_length_le (by simp [h.sig])

theorem eqFields_true {P : Program} (w : World) (d : Nat) (xs ys : Array Value) : ∀ (fs : List Field), (∀ f ∈ fs, f.name ≠ "_" ∧ ∃ a b, (part f.type xs f.offset).run P w = .ok a w ∧ (part f.type ys f.offset).run P w = .ok b w ∧ (Op.equalIn d f.type a b).run P w = .ok true w) →
    (Op.eqFields d xs ys fs).run P w = .ok true w
  | [], _ => by simp [Op.eqFields]
  | f :: fs, h => by
    obtain ⟨hn, a, b, h1, h2, h3⟩ := h f (by simp)
    have ih := eqFields_true w d xs ys fs (fun g hg => h g (by simp [hg]))
    simp only [Op.eqFields, hn, ne_eq, not_false_eq_true, if_true, Sem.run_bind, h1, h2, h3, Result.andThen_ok, Bool.not_true, Bool.false_eq_true, if_false, ih]

set_option maxRecDepth 100000 in
set_option maxHeartbeats 4000000 in
theorem eq_pk_d (d : Nat) (w : World) (p : PkS) (h : p.Ok) : (Op.equalIn (d + 3) 37 (.agg (pkC p)) (.agg (pkC p))).run Tryz.prog w = .ok true w := by
  have hu := Tryz.underlying37
  have hs : Tryz.prog.stoodInHeld 37 = false := by kernel_rfl
  obtain ⟨x1, _⟩ := pk_ext1 h
  obtain ⟨x2, _⟩ := pk_ext2 h
  have p0 := run_part_int (P := Tryz.prog) w 22 .u32 Tryz.underlying22 (pkC p) 0 (.int .u32 p.hw) rfl
  have p1 := run_part_int (P := Tryz.prog) w 5 .u8 Tryz.underlying5 (pkC p) 1 (vb p.ty) rfl
  have p2 := run_part_int (P := Tryz.prog) w 22 .u32 Tryz.underlying22 (pkC p) 2 (.int .u32 p.ver) rfl
  have p3 := run_part_int (P := Tryz.prog) w 22 .u32 Tryz.underlying22 (pkC p) 3 (.int .u32 p.sz) rfl
  have p4 := run_part_arr (P := Tryz.prog) w 33 32 5 Tryz.underlying33 (by kernel_rfl) (pkC p) 4
  have p5 := run_part_arr (P := Tryz.prog) w 35 64 5 Tryz.underlying35 (by kernel_rfl) (pkC p) 36
  rw [x1] at p4
  rw [x2] at p5
  have q0 := run_eq_int (P := Tryz.prog) w (d + 1) 22 .u32 Tryz.underlying22 p.hw p.hw
  have q1 := run_eq_int (P := Tryz.prog) w (d + 1) 5 .u8 Tryz.underlying5 p.ty.toNat p.ty.toNat
  have q2 := run_eq_int (P := Tryz.prog) w (d + 1) 22 .u32 Tryz.underlying22 p.ver p.ver
  have q3 := run_eq_int (P := Tryz.prog) w (d + 1) 22 .u32 Tryz.underlying22 p.sz p.sz
  have q4 := run_eq_bytes (P := Tryz.prog) w d 33 5 32 Tryz.underlying33 Tryz.underlying5 (by kernel_rfl) p.hash p.hash h.hash h.hash
  have q5 := run_eq_bytes (P := Tryz.prog) w d 35 5 64 Tryz.underlying35 Tryz.underlying5 (by kernel_rfl) p.sig p.sig h.sig h.sig
  rw [decide_eq_true rfl] at q4 q5
  rw [beq_self_eq_true] at q0 q1 q2 q3
  have hf : Tryz.prog.underlying 37 = some (.struct (Tryz.prog.fieldsOf 37)) := by kernel_rfl
  have e := hf.symm.trans hu
  injection e with e
  injection e with e
  rw [run_equalIn_struct w (d + 2) _ _ _ hf hs, e]
  refine eqFields_true _ _ _ _ _ ?_
  intro f hm
  simp only [List.mem_cons, List.not_mem_nil, or_false] at hm
  rcases hm with rfl | rfl | rfl | rfl | rfl | rfl
  · exact ⟨by decide, _, _, p0, p0, q0⟩
  · exact ⟨by decide, _, _, p1, p1, q1⟩
  · exact ⟨by decide, _, _, p2, p2, q2⟩
  · exact ⟨by decide, _, _, p3, p3, q3⟩
  · exact ⟨by decide, _, _, p4, p4, q4⟩
  · exact ⟨by decide, _, _, p5, p5, q5⟩
theorem eq_pk (w : World) (p : PkS) (h : p.Ok) : (Op.equalIn 10000 37 (.agg (pkC p)) (.agg (pkC p))).run Tryz.prog w = .ok true w := eq_pk_d 9997 w p h
section
variable {H : Type} {enc : TypeId × Value → H} {w : World} {base : Nat} {spare : Nat → Bool} {held : Bool}
theorem trod_n32 {P : Program} {t : TypeId} {fuel : Nat} {cs : List Value} {x : DataW H × List MemPlace} (ht : P.underlying t = some (.int .u32)) (h : DataW.trod enc P w base spare held fuel t cs = some x) : ∃ c : Nat, c < 4294967296 ∧ cs = [n32v c] := by
  obtain ⟨n, rfl, _, hw⟩ := DataW.trod_int ht h
  obtain ⟨h0, h1⟩ := wf_u32 hw
  obtain ⟨m, rfl⟩ := Int.eq_ofNat_of_zero_le h0
  exact ⟨m, by omega, rfl⟩
theorem trod_n8 {P : Program} {t : TypeId} {fuel : Nat} {cs : List Value} {x : DataW H × List MemPlace} (ht : P.underlying t = some (.int .u8)) (h : DataW.trod enc P w base spare held fuel t cs = some x) : ∃ c : UInt8, cs = [vb c] := by
  obtain ⟨n, rfl, _, hw⟩ := DataW.trod_int ht h
  obtain ⟨h0, h1⟩ := wf_u8 hw
  refine ⟨UInt8.ofNat n.toNat, ?_⟩
  have : (UInt8.ofNat n.toNat).toNat = n.toNat := by simp; omega
  simp only [vb, this]
  rw [Int.toNat_of_nonneg h0]
theorem all_vb : ∀ (cs : List Value), (∀ i, i < cs.length → ∃ c : UInt8, cs[i]? = some (vb c)) → ∃ l : List UInt8, cs = vbs l
  | [], _ => ⟨[], rfl⟩
  | v :: cs, h => by
    obtain ⟨c, hc⟩ := h 0 (by simp)
    obtain ⟨l, rfl⟩ := all_vb cs (fun i hi => by have := h (i + 1) (by simp; omega); simpa using this)
    simp at hc
    exact ⟨c :: l, by rw [hc]; rfl⟩
theorem trod_arr8 {P : Program} {t e : TypeId} {n fuel : Nat} {cs : List Value} {x : DataW H × List MemPlace} (ht : P.underlying t = some (.array n e)) (he : P.underlying e = some (.int .u8)) (hc : P.cellsOf e = 1) (hn : P.cellsOf t = n)
    (h : DataW.trod enc P w base spare held fuel t cs = some x) : ∃ l : List UInt8, l.length = n ∧ cs = vbs l := by
  obtain ⟨xs, m, _, _, hl, hxl, hf⟩ := DataW.trod_array ht h
  rw [hn] at hl
  obtain ⟨l, rfl⟩ := all_vb cs (fun i hi => by
    have h1 := hf i (by omega)
    rw [hc, Nat.mul_one] at h1
    rw [List.getElem?_eq_getElem (by omega)] at h1
    obtain ⟨c, e⟩ := trod_n8 he h1
    have h2 := congrArg (fun l => l[0]?) e
    simp only [List.getElem?_take, List.getElem?_drop, Nat.add_zero, Nat.zero_lt_one, if_true] at h2
    exact ⟨c, by simpa using h2⟩)
  exact ⟨l, by simpa using hl, rfl⟩
theorem cutL (l : List Value) (a k : Nat) : l.drop a = (l.drop a).take k ++ l.drop (a + k) := by
  rw [← List.drop_drop]
  exact (List.take_append_drop _ _).symm

set_option maxRecDepth 100000 in
theorem open_pk {v : Value} {d : DataW H} {p : List MemPlace} {r : _} {base' : Nat} (hv : Value.okWide Tryz.prog w r base' 37 v) (h : DataW.Trod enc Tryz.prog w base spare held 37 v d p) : ∃ s : PkS, v = .agg (pkC s) ∧ s.Ok := by
  have hu := Tryz.underlying37
  have h32 := Tryz.underlying22
  have h8 := Tryz.underlying5
  have hd := Tryz.underlying33
  have hs := Tryz.underlying35
  have c32 : Tryz.prog.cellsOf 22 = 1 := by kernel_rfl
  have c8 : Tryz.prog.cellsOf 5 = 1 := by kernel_rfl
  have cd : Tryz.prog.cellsOf 33 = 32 := by kernel_rfl
  have cs' : Tryz.prog.cellsOf 35 = 64 := by kernel_rfl
  have c100 : Tryz.prog.cellsOf 37 = 100 := by kernel_rfl
  obtain ⟨cs, rfl, hsz⟩ := okWide_struct hu hv
  obtain ⟨fuel, hf⟩ := h
  obtain ⟨xs, n, rfl, _, hl, hxl, hfs⟩ := DataW.trod_struct hu hf
  rw [c100] at hsz
  match xs, hxl with
  | [x0, x1, x2, x3, x4, x5], _ =>
    have g0 := hfs 0 _ rfl
    have g1 := hfs 1 _ rfl
    have g2 := hfs 2 _ rfl
    have g3 := hfs 3 _ rfl
    have g4 := hfs 4 _ rfl
    have g5 := hfs 5 _ rfl
    simp only [Value.cells] at g0 g1 g2 g3 g4 g5
    obtain ⟨n0, b0, e0⟩ := trod_n32 h32 g0
    obtain ⟨n1, e1⟩ := trod_n8 h8 g1
    obtain ⟨n2, b2, e2⟩ := trod_n32 h32 g2
    obtain ⟨n3, b3, e3⟩ := trod_n32 h32 g3
    obtain ⟨l4, q4, e4⟩ := trod_arr8 hd h8 c8 cd g4
    obtain ⟨l5, q5, e5⟩ := trod_arr8 hs h8 c8 cs' g5
    refine ⟨⟨n0, n1, n2, n3, l4, l5⟩, ?_, ⟨b0, b2, b3, q4, q5⟩⟩
    change List.take (Tryz.prog.cellsOf 22) _ = _ at e0
    rw [c32] at e0
    change List.take (Tryz.prog.cellsOf 5) _ = _ at e1
    rw [c8] at e1
    change List.take (Tryz.prog.cellsOf 22) _ = _ at e2
    rw [c32] at e2
    change List.take (Tryz.prog.cellsOf 22) _ = _ at e3
    rw [c32] at e3
    change List.take (Tryz.prog.cellsOf 33) _ = _ at e4
    rw [cd] at e4
    change List.take (Tryz.prog.cellsOf 35) _ = _ at e5
    rw [cs'] at e5
    clear g0 g1 g2 g3 g4 g5 hfs hf hl hv
    obtain ⟨L⟩ := cs
    have hL : L.length = 100 := by simpa using hsz
    have e0 : List.take 1 (List.drop 0 L) = [n32v n0] := e0
    have e1 : List.take 1 (List.drop (0 + 1) L) = [vb n1] := e1
    have e2 : List.take 1 (List.drop (1 + 1) L) = [n32v n2] := e2
    have e3 : List.take 1 (List.drop (2 + 1) L) = [n32v n3] := e3
    have e4 : List.take 32 (List.drop (3 + 1) L) = vbs l4 := e4
    have e5 : List.take 64 (List.drop (4 + 32) L) = vbs l5 := e5
    have d100 : L.drop (36 + 64) = [] := List.drop_eq_nil_of_le (by omega)
    have d36 : L.drop (4 + 32) = vbs l5 ++ [] := by rw [cutL L (4 + 32) 64, e5, d100]
    have d4 : L.drop (3 + 1) = vbs l4 ++ (vbs l5 ++ []) := by rw [cutL L (3 + 1) 32, e4, d36]
    have d3 : L.drop (2 + 1) = [n32v n3] ++ (vbs l4 ++ (vbs l5 ++ [])) := by rw [cutL L (2 + 1) 1, e3, d4]
    have d2 : L.drop (1 + 1) = [n32v n2] ++ ([n32v n3] ++ (vbs l4 ++ (vbs l5 ++ []))) := by rw [cutL L (1 + 1) 1, e2, d3]
    have d1 : L.drop (0 + 1) = [vb n1] ++ ([n32v n2] ++ ([n32v n3] ++ (vbs l4 ++ (vbs l5 ++ [])))) := by rw [cutL L (0 + 1) 1, e1, d2]
    have d0 : L.drop 0 = [n32v n0] ++ ([vb n1] ++ ([n32v n2] ++ ([n32v n3] ++ (vbs l4 ++ (vbs l5 ++ []))))) := by rw [cutL L 0 1, e0, d1]
    congr 1
    apply Array.toList_inj.1
    show L = _
    rw [List.drop_zero] at d0
    rw [d0, List.append_nil]
    rfl
end
end Go.Proofs.YtgkofpfjbjnhfaaGreatDoor
