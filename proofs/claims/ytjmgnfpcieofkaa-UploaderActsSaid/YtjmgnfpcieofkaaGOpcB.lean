/- LAID TOGETHER: Opc4, OpcOpen, Opc6, Opc7. -/
import Derived.Test.YtjmgnfpcieofkaaGOpcA
import Derived.Test.YtjmgnfpcieofkaaGRecA
import Derived.Test.YtjmgnfpcieofkaaGRecB
import Derived.Test.YtjmgnfpcieofkaaSlice2
/- The Go functions of opcode: numbers as bytes; the chapter's example. -/
namespace Go.Proofs.Ytjmgnfpcieofkaa
open Go.ChangeShapes Go.WideShapes Go.ChangeAt Go.RowKit
set_option linter.unusedVariables false
set_option linter.unusedSimpArgs false

/-- a value reads as numbers -/
def IsWords (w : World) (v : Value) (l : List Nat) : Prop := ∃ a c, v = .slice a l.length c ∧ l.length ≤ c ∧ c ≤ maxLen ∧ Lay w a (l.map u32v) ∧ (a = Option.none → c = 0) ∧ ∀ n ∈ l, n < 4294967296
theorem IsWords.below {w w' : World} {v : Value} {l : List Nat} (h : IsWords w v l) (hb : Below w.heap.size w w') : IsWords w' v l := by
  obtain ⟨a, c, h1, h2, h3, h4, h5⟩ := h
  exact ⟨a, c, h1, h2, h3, h4.below hb, h5⟩
def numsB (l : List Nat) : List UInt8 := l.flatMap wordB
theorem numsB_take (l : List Nat) (k : Nat) (h : k < l.length) : numsB (l.take (k + 1)) = numsB (l.take k) ++ wordB l[k] := by
  unfold numsB
  rw [List.take_succ_eq_append_getElem h, List.flatMap_append]
  simp
theorem numsB_len (l : List Nat) : (numsB l).length = 4 * l.length := by
  induction l with
  | nil => rfl
  | cons n t ih => simp only [numsB, List.flatMap_cons, List.length_append, wordB_len, List.length_cons] at ih ⊢; omega
theorem wordB_cells (n : Nat) (h : n < 4294967296) : (vbs (wordB n)).toArray = #[.int .u8 ((n % 256 : Nat) : Int), .int .u8 ((n / 256 % 256 : Nat) : Int), .int .u8 ((n / 65536 % 256 : Nat) : Int), .int .u8 ((n / 16777216 : Nat) : Int)] := by
  have e : n / 16777216 % 256 = n / 16777216 := Nat.mod_eq_of_lt (by omega)
  simp only [vbs, vb, wordB, b4_toNat, List.map_cons, List.map_nil]
  rw [show 2 ^ (8 * 3) = 16777216 from rfl, e]
  simp

set_option maxRecDepth 100000 in
set_option maxHeartbeats 4000000 in
theorem numbers_any (v : Value) (l : List Nat) (w : World) (h : IsWords w v l) (hlen : l.length ≤ 1000000) :
    Calls Try.prog 114 #[v] w (Makes w fun v => ownR v (numsB l)) := by
  have hu := Try.underlying33
  have Hh := hide h
  obtain ⟨a, cap, rfl, hc, hm, _, _, hn⟩ := h
  unfold maxLen at hm
  have H0 := hide (own_nil 5 1 (on_all w))
  have Hn := hide hn
  clear hn
  go_enter Try.func114, Try.ntmps114
  go_wp2_with fail
  go_loopw [3, 8] (fun v i wr => ∃ k : Nat, k ≤ l.length ∧ i = .int .i64 k ∧ (ownR v (numsB (l.take k)) * all w).on wr ∧ Str w wr) (fun _ i _ => l.length - (intOf i).toNat)
  case atStart => exact ⟨0, by omega, rfl, H0.out, Str.refl _⟩
  case round =>
    obtain ⟨k, hk, rfl, how, hstr⟩ := hrel
    by_cases hlt : k < l.length
    · obtain ⟨_, _, e1, _, _, hl, _, _⟩ := Hh.out.below (all_below how.right hstr)
      simp only [Value.slice.injEq] at e1
      obtain ⟨e11, _, e12⟩ := e1
      subst e11 e12
      obtain ⟨bg, bo, rfl⟩ := hl.isAddr k (by simpa using hlt)
      have c1 := Lay.cell hl k (show (l.map u32v)[k]? = some (u32v l[k]) by simp [hlt])
      have HS := hide (numsB_take l k hlt)
      have hn1 := Hn.out l[k] (List.getElem_mem hlt)
      have hl2 : (numsB (l.take k)).length ≤ 4000000 := by rw [numsB_len, List.length_take]; omega
      generalize l[k] = n at *
      have Hv := hide (wordB_cells n hn1)
      generalize numsB (l.take k) = acc at *
      obtain ⟨oa, oc, rfl, _, _, _, _⟩ := own_value how
      have How := hide how
      have Hstr := hide hstr
      have hk0 : (0 : Int) ≤ (k : Int) := by omega
      have hkl : (k : Int) < (l.length : Int) := by omega
      clear how hstr hl
      go_wp2_with (at_builtin; refine wpList_append_bytes (F := all w) rfl _ _ 33 rfl 5 hu infoR _ acc (wordB n) rfl (How.out.alloc' _) _ rfl (by have h1 := IsBytes.new wr (wordB n) (by simp [maxLen, wordB_len]) 5; rw [Hv.out] at h1; exact h1) (by simp [wordB_len]; omega) ?_; intro v2 w2 ho2 hs2; rw [← HS.out] at ho2)
      exact ⟨⟨k + 1, by omega, by simp, ho2, (Hstr.out.alloc _).trans hs2⟩, by simp [intOf]; omega⟩
    · obtain rfl : k = l.length := by omega
      have How := hide how
      have Hstr := hide hstr
      clear how hstr
      go_wp2_with fail
      go_ret
      refine ⟨_, rfl, ?_, Hstr.out⟩
      have h := How.out
      rw [List.take_length] at h
      exact h
end Go.Proofs.Ytjmgnfpcieofkaa

/- Answers, requests, and lists of numbers as arguments. -/
namespace Go.Proofs.Ytjmgnfpcieofkaa
open Go.ChangeShapes Go.WideShapes Go.ChangeAt Go.RowKit
set_option linter.unusedVariables false
set_option linter.unusedSimpArgs false
section
variable {H : Type} {enc : TypeId × Value → H} {w : World} {base : Nat} {spare : Nat → Bool} {held : Bool}

end
end Go.Proofs.Ytjmgnfpcieofkaa

/- opcode: are two requests one; the same with the document's. -/
namespace Go.Proofs.Ytjmgnfpcieofkaa
open Go.ChangeShapes Go.WideShapes Go.ChangeAt Go.RowKit
set_option linter.unusedVariables false
set_option linter.unusedSimpArgs false

def reqSame (a b : ReqS) : Bool := decide (a.op = b.op ∧ a.type = b.type ∧ a.size = b.size ∧ a.data = b.data)
theorem eq8 {c d : UInt8} (h : c = d) : (((c.toNat : Nat) : Int) == ((d.toNat : Nat) : Int)) = true := by rw [h]; simp
theorem neq8 {c d : UInt8} (h : ¬c = d) : (((c.toNat : Nat) : Int) == ((d.toNat : Nat) : Int)) = false := by
  rw [beq_eq_false_iff_ne]
  intro e
  exact h (UInt8.toNat_inj.1 (by omega))

set_option maxRecDepth 100000 in
set_option maxHeartbeats 4000000 in
theorem osame_any (p q : ReqS) (v1 v2 : Value) (w : World) (h1 : IsBytes w v1 p.data) (h2 : IsBytes w v2 q.data) :
    Calls Try.prog 116 #[.agg (reqCells p v1), .agg (reqCells q v2)] w fun e w' => e = .returned (.bool (reqSame p q)) ∧ Below w.heap.size w w' := by
  have hb2 : Below w.heap.size w ((w.alloc (.cells (reqCells p v1) 159)).alloc (.cells (reqCells q v2) 159)) := alloc1.alloc (by simp) _
  have hq := equal_any _ _ _ _ ((w.alloc (.cells (reqCells p v1) 159)).alloc (.cells (reqCells q v2) 159)) (h1.below hb2) (h2.below hb2)
  obtain ⟨a1, c1, rfl, _, _, _, _⟩ := h1
  obtain ⟨a2, c2, rfl, _, _, _, _⟩ := h2
  have Hb2 := hide hb2
  clear hb2
  generalize p.data.length = n1 at *
  generalize q.data.length = n2 at *
  obtain ⟨op, ty, sz, da⟩ := p
  obtain ⟨op', ty', sz', da'⟩ := q
  simp only at *
  by_cases h1 : op = op'
  · by_cases h2 : ty = ty'
    · by_cases h3 : sz = sz'
      · have HR := hide (show reqSame ⟨op, ty, sz, da⟩ ⟨op', ty', sz', da'⟩ = decide (da = da') by simp [reqSame, h1, h2, h3])
        have e1 := eq8 h1
        have e2 := eq8 h2
        have e3 : ((sz : Int) == (sz' : Int)) = true := by rw [h3]; simp
        clear h1 h2 h3
        go_enter Try.func116, Try.ntmps116
        go_wp2_with fail
        refine hq.mono ?_
        rintro e _ ⟨rfl, rfl⟩
        go_wp2_with fail
        go_ret
        exact ⟨congrArg (fun b => Ending.returned (.bool b)) HR.out.symm, Hb2.out⟩
      · have HR := hide (show reqSame ⟨op, ty, sz, da⟩ ⟨op', ty', sz', da'⟩ = false by simp [reqSame, h3])
        have e1 := eq8 h1
        have e2 := eq8 h2
        have e3 : ((sz : Int) == (sz' : Int)) = false := by rw [beq_eq_false_iff_ne]; omega
        clear h1 h2 h3 hq
        go_enter Try.func116, Try.ntmps116
        go_wp2_with fail
        go_ret
        exact ⟨congrArg (fun b => Ending.returned (.bool b)) HR.out.symm, Hb2.out⟩
    · have HR := hide (show reqSame ⟨op, ty, sz, da⟩ ⟨op', ty', sz', da'⟩ = false by simp [reqSame, h2])
      have e1 := eq8 h1
      have e2 := neq8 h2
      clear h1 h2 hq
      go_enter Try.func116, Try.ntmps116
      go_wp2_with fail
      go_ret
      exact ⟨congrArg (fun b => Ending.returned (.bool b)) HR.out.symm, Hb2.out⟩
  · have HR := hide (show reqSame ⟨op, ty, sz, da⟩ ⟨op', ty', sz', da'⟩ = false by simp [reqSame, h1])
    have e1 := neq8 h1
    clear h1 hq
    go_enter Try.func116, Try.ntmps116
    go_wp2_with fail
    go_ret
    exact ⟨congrArg (fun b => Ending.returned (.bool b)) HR.out.symm, Hb2.out⟩

end Go.Proofs.Ytjmgnfpcieofkaa

/- opcode: a request's bytes. -/
namespace Go.Proofs.Ytjmgnfpcieofkaa
open Go.ChangeShapes Go.WideShapes Go.ChangeAt Go.RowKit
set_option linter.unusedVariables false
set_option linter.unusedSimpArgs false

def formD (c : UInt8) : Form := (formOf c).getD ⟨0, 0, 0, 0⟩
theorem formD_small (c : UInt8) : (formD c).kind ≤ 1 ∧ (formD c).size ≤ 4 := by
  unfold formD
  cases h : formOf c with
  | none => simp
  | some f => have := formOf_small h; exact ⟨this.1, this.2.1⟩
theorem formD_look (c : UInt8) : ((findN c.toNat formsE 0).map Prod.snd).getD (.agg zf) = .agg (formCells (formD c)) := by
  rw [findN_look]
  unfold formD
  cases formOf c with
  | none => simp [formCells, iv]
  | some f => rfl
def encBytes (q : ReqS) : List UInt8 := ([q.op] ++ (if (formD q.op).kind = 0 then [] else [q.type])) ++ (wordB q.size).take (formD q.op).size ++ q.data
def encOk (q : ReqS) : Bool := decide (reqErr (encBytes q) = 0) && reqSame (reqGot (encBytes q)) q
def OEncEnd (q : ReqS) (w : World) (e : Ending) (w' : World) : Prop := ∃ out, e = .returned (.tuple #[out, .int .i64 (if encOk q then 0 else 1)]) ∧ (ownR out (if encOk q then encBytes q else []) * all w).on w' ∧ Str w w'

theorem IsWords.one (w : World) (n : Nat) (h : n < 4294967296) (t : TypeId) : IsWords (w.alloc (.cells #[u32v n] t)) (.slice (some ⟨w.heap.size, 0, Option.none⟩) 1 1) [n] :=
  ⟨_, _, rfl, Nat.le_refl _, by decide, Lay.new w [u32v n] t, fun h => (nomatch h), fun m hm => by simp at hm; omega⟩
theorem numsB_one (n : Nat) : numsB [n] = wordB n := by simp [numsB]

set_option maxRecDepth 100000 in
set_option maxHeartbeats 16000000 in
theorem oencode_any (q : ReqS) (dv : Value) (w : World) (hsz : q.size < 4294967296) (h : IsBytes w dv q.data) (hlen : q.data.length ≤ 100000) :
    Calls Try.prog 97 #[.agg (reqCells q dv)] w (OEncEnd q w) := by
  have huq := Try.underlying159
  have hsq : (Try.prog.info? 159).map (·.size) = some 4 := by kernel_rfl
  have hsf : (Try.prog.info? 168).map (·.size) = some 4 := by kernel_rfl
  have hu := Try.underlying33
  have htm := Try.underlying169
  have hk8 := Try.underlying5
  have hz : ∀ w, (zeroValue 168).run Try.prog w = .ok (.agg zf) w := fun w => by kernel_rfl
  have Hd := hide h
  obtain ⟨da, dc, rfl, hdc, hdm, _, _⟩ := h
  unfold maxLen at hdm
  have hw0 := (on_all w).alloc (.cells (reqCells q (.slice da q.data.length dc)) 159)
  have c0 : (w.alloc (.cells (reqCells q (.slice da q.data.length dc)) 159)).cell? ⟨w.heap.size, 0, Option.none⟩ = some (vb q.op) := cell_of_row _ _ 0 _ _ _ (on_blk_mul hw0)
  have C0 : Hid (∀ X, Stay (w.alloc (.cells (reqCells q (.slice da q.data.length dc)) 159)) X → X.cell? ⟨w.heap.size, 0, Option.none⟩ = some (vb q.op)) := hide fun X hT => (hT.cell (p := ⟨w.heap.size, 0, Option.none⟩) (World.block_lt_of_cell? _ _ c0)).trans c0
  have Hw0 := hide hw0
  have Hs0 := hide ((Str.refl w).alloc (.cells (reqCells q (.slice da q.data.length dc)) 159))
  have Hlk := hide (formD_look q.op)
  obtain ⟨f1, f2⟩ := formD_small q.op
  have HEB := hide (show encBytes q = ([q.op] ++ (if (formD q.op).kind = 0 then [] else [q.type])) ++ (wordB q.size).take (formD q.op).size ++ q.data from rfl)
  generalize formD q.op = fo at *
  clear hw0 c0
  go_enter Try.func97, Try.ntmps97
  go_wp2_with fail
  refine wp_region_tail 5 [fun v X => ∃ m, v = .map (some m) ∧ (mapB m formsE).on X, isV (.pointer (some ⟨w.heap.size, 0, Option.none⟩)), isV (vb q.op), isV (.agg (formCells fo)), fun v X => ∃ g, v = .pointer (some ⟨g, 0, Option.none⟩) ∧ (blk g (.cells zf 168 (0, 0)) * (blk w.heap.size (.cells (reqCells q (.slice da q.data.length dc)) 159 (0, 0)) * all w)).on X]
    (by simp only [List.take_succ_cons, List.take_zero]; rfl) (by simp only [List.drop_succ_cons, List.drop_zero]; rfl) (by kernel_rfl) (by kernel_rfl) (by kernel_rfl) (by decide) rfl ?keep ?todo ?rest
  case keep => exact ⟨fun _ _ _ ⟨m, h1, h2⟩ k => ⟨m, h1, SP.on.below h2 k⟩, Keep.isV _, Keep.isV _, Keep.isV _, fun _ _ _ ⟨g, h0, h2⟩ k => ⟨g, h0, SP.on.below h2 k⟩, trivial⟩
  case todo =>
    refine ⟨?_, ?_, ?_, ?_, ?_, trivial⟩
    · intro ev X hT hb hk hf
      refine OpOk.enters (f := 113) (args := #[]) (W' := X) (by simp [execOp, resolve, invoke, hb.2.1, go_sem]) ((forms_any X).mono ?_)
      rintro e X2 ⟨m, rfl, h3, h4⟩
      exact ⟨_, rfl, ⟨m, rfl, h3.left⟩, all_below h3.right h4⟩
    · intro ev X hT hb hk hf
      have e0 : ev (.tmp 1) = .pointer (some ⟨w.heap.size, 0, Option.none⟩) := hk.1
      exact OpOk.run (v := .pointer (some ⟨w.heap.size, 0, Option.none⟩)) (W' := X) (by simp [execOp, e0, hb.1, go_sem]) ⟨rfl, Stay.refl _⟩
    · intro ev X hT hb hk hf
      have e0 : ev (.tmp 9) = .pointer (some ⟨w.heap.size, 0, Option.none⟩) := hf.1
      have cW := C0.out X hT
      exact OpOk.run (v := vb q.op) (W' := X) (by simp [execOp, e0, cW, go_sem]) ⟨rfl, Stay.refl _⟩
    · intro ev X hT hb hk hf
      have e0 := hf.1
      have e1 : ev (.tmp 10) = vb q.op := hf.2.1
      obtain ⟨m, em0, hm⟩ := e0
      have em : ev (.tmp 8) = .map (some m) := em0
      have hl := run_lookup_sp (P := Try.prog) (w := X) _ _ _ htm hk8 (.agg zf) (hz X) m formsE hm q.op.toNat false
      rw [Hlk.out] at hl
      exact OpOk.run (v := .agg (formCells fo)) (W' := X) (by have hl2 : (Instr.lookup 169 (.map (some m)) (.int .u8 (q.op.toNat : Int)) false).run Try.prog X = .ok (.agg (formCells fo)) X := hl; simp [execOp, em, e1, hl2, go_sem]) ⟨rfl, Stay.refl _⟩
    · intro ev X hT hb hk hf
      exact OpOk.run (v := .pointer (some ⟨X.heap.size, 0, Option.none⟩)) (W' := X.alloc (.cells zf 168)) (by simp [execOp, go_sem]) ⟨⟨_, rfl, (Hw0.out.below hT).alloc _⟩, (Below.refl _ _).alloc (Nat.le_refl _) _⟩
  case rest =>
    intro X hT
    rintro v0 - _ rfl _ rfl _ rfl _ ⟨g, rfl, hg⟩
    have hgr := on_blk_mul hg
    have h3 := hg.setRow (formCells fo)
    have hs3 := (Hs0.out.trans (Str.below hT)).setRow g (formCells fo)
    clear hT hg C0
    generalize hW3 : X.setRow g (formCells fo) = w3 at *
    have HW3 := hide hW3
    obtain ⟨K, S, Lm, M⟩ := fo
    obtain ⟨k0, k1, _, _⟩ := formBox (on_blk_mul h3)
    simp only at f1 f2
    have q0 : w3.cell? ⟨w.heap.size, 0, Option.none⟩ = some (vb q.op) := cell_of_row _ _ 0 _ _ _ (on_blk_mul h3.right)
    have H3 := hide h3
    have Hs3 := hide hs3
    clear hW3 h3 hs3 htm hk8 hz
    go_wp2
    refine Rest.done ?_
    rcases (show K = 0 ∨ K = 1 by omega) with hK | hK
    all_goals subst hK
    · have hp := own_new 5 1 1 (vbs [q.op]) H3.out rfl (by decide)
      have hv1 : (vbs [q.op]).toArray = #[vb q.op] := rfl
      rw [hv1] at hp
      have hsp := Hs3.out.alloc (.cells #[vb q.op] 5)
      obtain ⟨k0a, k1a, _, _⟩ := formBox (on_blk_mul hp.right)
      have HHp := hide hp
      have HHs := hide hsp
      clear hv1 hp hsp
      go_wp2_with (refine wpList_store_row rfl _ _ _ rfl g (formCells ⟨0, S, Lm, M⟩) rfl rfl _ _ hgr hsf (zf_size _) (zf_one _) ?_; rw [HW3.out])
      generalize w3.alloc (.cells #[vb q.op] 5) = wp at *
      have hp : (ownR (.slice (some ⟨w3.heap.size, 0, Option.none⟩) 1 1) [q.op] * (blk g (.cells (formCells ⟨0, S, Lm, M⟩) 168 (0, 0)) * (blk w.heap.size (.cells (reqCells q (.slice da q.data.length dc)) 159 (0, 0)) * all w))).on wp := HHp.out
      have hsp := HHs.out
      generalize hpre : [q.op] = pre at hp
      have Hpre := hide hpre
      have hpl : pre.length ≤ 2 := by rw [← hpre]; simp
      generalize hv5 : Value.slice (some ⟨w3.heap.size, 0, Option.none⟩) 1 1 = v5 at *
      clear hpre hv5 HHp HHs k0a k1a
      obtain ⟨pa, pc, rfl, _, _, _, _⟩ := own_value hp
      have z2 : wp.cell? ⟨w.heap.size, 2, Option.none⟩ = some (u32v q.size) := cell_of_row _ _ 2 _ _ _ (on_blk_mul hp.right.right)
      obtain ⟨_, kS, _, _⟩ := formBox (on_blk_mul hp.right)
      have CZ : Hid (∀ X', Stay wp X' → X'.cell? ⟨w.heap.size, 2, Option.none⟩ = some (u32v q.size)) := hide fun X' hT => (hT.cell (p := ⟨w.heap.size, 2, Option.none⟩) (World.block_lt_of_cell? wp _ z2)).trans z2
      have CS : Hid (∀ X', Stay wp X' → X'.cell? ⟨g, 1, Option.none⟩ = some (iv S)) := hide fun X' hT => (hT.cell (p := ⟨g, 1, Option.none⟩) (World.block_lt_of_cell? wp _ kS)).trans kS
      have Hp := hide hp
      have Hsp := hide hsp
      clear z2 kS hp hsp
      refine wp_region_tail 8 [isV (.slice pa pre.length pc), isV (.pointer (some ⟨w.heap.size, 2, Option.none⟩)), isV (u32v q.size), fun v X => IsWords X v [q.size], fun v X => IsBytes X v (wordB q.size), isV (.pointer (some ⟨g, 1, Option.none⟩)), isV (iv S), fun v X => IsBytes X v ((wordB q.size).take S)]
        (by simp only [List.take_succ_cons, List.take_zero]; rfl) (by simp only [List.drop_succ_cons, List.drop_zero]; rfl) (by kernel_rfl) (by kernel_rfl) (by kernel_rfl) (by decide) rfl ?keep ?todo ?rest
      case keep => exact ⟨Keep.isV _, Keep.isV _, Keep.isV _, fun _ _ _ h k => IsWords.below h k, fun _ _ _ h k => IsBytes.below h k, Keep.isV _, Keep.isV _, fun _ _ _ h k => IsBytes.below h k, trivial⟩
      case todo =>
        refine ⟨?_, ?_, ?_, ?_, ?_, ?_, ?_, ?_, trivial⟩
        · intro ev X' hT hb hk hf
          have e0 : ev (.tmp 5) = .slice pa pre.length pc := hk.1
          exact OpOk.move rfl e0 ⟨rfl, Stay.refl _⟩
        · intro ev X' hT hb hk hf
          have e0 : ev (.tmp 1) = .pointer (some ⟨w.heap.size, 0, Option.none⟩) := hk.1
          exact OpOk.run (v := .pointer (some ⟨w.heap.size, 2, Option.none⟩)) (W' := X') (by simp [execOp, e0, hb.1, go_sem]) ⟨rfl, Stay.refl _⟩
        · intro ev X' hT hb hk hf
          have e0 : ev (.tmp 24) = .pointer (some ⟨w.heap.size, 2, Option.none⟩) := hf.1
          have cW := CZ.out X' hT
          exact OpOk.run (v := u32v q.size) (W' := X') (by simp [execOp, e0, cW, go_sem]) ⟨rfl, Stay.refl _⟩
        · intro ev X' hT hb hk hf
          have e0 : ev (.tmp 25) = u32v q.size := hf.1
          exact OpOk.run (v := .slice (some ⟨X'.heap.size, 0, Option.none⟩) 1 1) (W' := X'.alloc (.cells #[u32v q.size] 32)) (by simp [execOp, e0, go_sem]) ⟨IsWords.one X' _ hsz _, (Below.refl _ _).alloc (Nat.le_refl _) _⟩
        · intro ev X' hT hb hk hf
          have e0 := hf.1
          have e0' : IsWords X' (ev (.tmp 26)) [q.size] := e0
          refine OpOk.enters (f := 114) (args := #[ev (.tmp 26)]) (W' := X') (by simp [execOp, resolve, invoke, hb.2.1, go_sem]) ((numbers_any _ _ X' e0' (by simp)).mono ?_)
          rintro e X2 ⟨v', rfl, h4, h5⟩
          rw [numsB_one] at h4
          exact ⟨_, rfl, own_bytes h4, all_below h4.right h5⟩
        · intro ev X' hT hb hk hf
          have e0 : ev (.tmp 4) = .pointer (some ⟨g, 0, Option.none⟩) := hk.1
          exact OpOk.run (v := .pointer (some ⟨g, 1, Option.none⟩)) (W' := X') (by simp [execOp, e0, hb.1, go_sem]) ⟨rfl, Stay.refl _⟩
        · intro ev X' hT hb hk hf
          have e0 : ev (.tmp 28) = .pointer (some ⟨g, 1, Option.none⟩) := hf.1
          have cW := CS.out X' hT
          exact OpOk.run (v := iv S) (W' := X') (by simp [execOp, e0, cW, go_sem]) ⟨rfl, Stay.refl _⟩
        · intro ev X' hT hb hk hf
          have e0 := hf.1
          have e1 : ev (.tmp 29) = iv S := hf.2.1
          have e0' : IsBytes X' (ev (.tmp 27)) (wordB q.size) := e0
          obtain ⟨v', hrun, hv'⟩ := run_slice_to (P := Try.prog) e0' S (by rw [wordB_len]; omega) _ _ hu infoR
          exact OpOk.run (v := v') (W' := X') (by simp [execOp, e1, hrun]) ⟨hv' _ e0', Stay.refl _⟩
      case rest =>
        intro X5 hT
        rintro _ rfl _ rfl _ rfl v3 - v4 - _ rfl _ rfl v7 h7
        have Hp5 := hide (Hp.out.below hT)
        have Hs5 := hide (Hsp.out.trans (Str.below hT))
        have H7 := hide (show IsBytes X5 v7 ((wordB q.size).take S) from h7)
        have hl7 : ((wordB q.size).take S).length ≤ 4 := by rw [List.length_take]; omega
        clear hT h7 CZ CS
        go_wp2
        refine Rest.done ?_
        have HE2 := hide (show (pre ++ (wordB q.size).take S) ++ q.data = encBytes q by rw [HEB.out, ← Hpre.out]; simp)
        have hbl : (encBytes q).length ≤ 200000 := by rw [← HE2.out]; simp only [List.length_append]; omega
        generalize (wordB q.size).take S = tk at *
        clear HEB
        obtain ⟨p2, hp2⟩ : ∃ p2, pre ++ tk = p2 := ⟨_, rfl⟩
        have hp2l : p2.length ≤ 6 := by rw [← hp2, List.length_append]; omega
        have HE3 : Hid (p2 ++ q.data = encBytes q) := hide (by rw [← hp2]; exact HE2.out)
        have Hp2 := hide hp2
        clear hp2
        go_wp2_with (first
          | (at_builtin; refine wpList_append_bytes (F := (blk g (.cells (formCells ⟨0, S, Lm, M⟩) 168 (0, 0)) * (blk w.heap.size (.cells (reqCells q (.slice da q.data.length dc)) 159 (0, 0)) * all w))) rfl _ _ 33 rfl 5 hu infoR _ p2 q.data rfl Ho1.out _ rfl Hd9.out (by omega) ?_; intro v10 w10 ho hs; rw [HE3.out] at ho; have Ho2 := hide ho; have Hs10 := hide (Hs9.out.trans hs); have hP := oparse_any _ _ w10 (own_bytes ho) (by omega); obtain ⟨xa, xc, rfl, _, _, _, _⟩ := own_value ho; clear ho hs)
          | (at_builtin; refine wpList_append_bytes (F := (blk g (.cells (formCells ⟨0, S, Lm, M⟩) 168 (0, 0)) * (blk w.heap.size (.cells (reqCells q (.slice da q.data.length dc)) 159 (0, 0)) * all w))) rfl _ _ 33 rfl 5 hu infoR _ pre tk rfl Hp5.out _ rfl H7.out (by omega) ?_; intro v9 w9 ho hs; rw [Hp2.out] at ho; have Ho1 := hide ho; have Hs9 := hide (Hs5.out.trans hs); have c3 : w9.cell? ⟨w.heap.size, 3, Option.none⟩ = some (.slice da q.data.length dc) := cell_of_row _ _ 3 _ _ _ (on_blk_mul ho.right.right); have Hd9 := hide (Hd.out.below (all_below ho.right.right.right Hs9.out)); obtain ⟨ya, yc, rfl, _, _, _, _⟩ := own_value ho; clear ho hs))
        refine hP.mono ?_
        clear hP
        rintro e w11 ⟨dv, rfl, hdv, hs11⟩
        have h11 := on_all_to hdv Ho2.out
        obtain ⟨ea, ec, rfl, _, _, _, _⟩ := own_value hdv
        have hr11 := heap_alloc_new w11 (.cells zq 159)
        have h12 := (h11.alloc (.cells zq 159)).setRow (reqCells (reqGot (encBytes q)) (.slice ea (reqGot (encBytes q)).data.length ec))
        have hs12 := ((Hs10.out.trans hs11).alloc (.cells zq 159)).setRow w11.heap.size (reqCells (reqGot (encBytes q)) (.slice ea (reqGot (encBytes q)).data.length ec))
        clear h11 hdv hs11 Ho2 Hs10
        generalize hW12 : (w11.alloc (.cells zq 159)).setRow w11.heap.size (reqCells (reqGot (encBytes q)) (.slice ea (reqGot (encBytes q)).data.length ec)) = w12 at *
        have HW12 := hide hW12
        clear hW12
        have g6 := on_blk_mul h12
        have g1 := on_blk_mul h12.right.right.right.right
        have HB12 := hide (all_below h12.right.right.right.right.right hs12)
        have hS := osame_any (reqGot (encBytes q)) q _ _ w12 (own_bytes h12.right) (Hd.out.below HB12.out)
        have HN := hide h12.right.right
        have HO := hide (show encOk q = (decide (reqErr (encBytes q) = 0) && reqSame (reqGot (encBytes q)) q) from rfl)
        clear h12
        generalize reqErr (encBytes q) = z at *
        by_cases hz : z = 0
        · subst hz
          cases hb : reqSame (reqGot (encBytes q)) q with
          | true =>
            have HO2 := hide (show encOk q = true by rw [HO.out, hb]; rfl)
            rw [hb] at hS
            clear hb
            go_wp2_with (first
              | (refine wpList_store_row rfl _ _ _ rfl w11.heap.size (reqCells (reqGot (encBytes q)) _) rfl rfl _ _ hr11 hsq (zq_size _ _) (req_one _ _ _ _) ?_; rw [HW12.out])
              | (refine wpList_load_row_g rfl _ _ rfl w11.heap.size rfl _ (reqCells (reqGot (encBytes q)) _) _ _ g6 huq rfl hsq ?_)
              | (refine wpList_load_row_g rfl _ _ rfl w.heap.size rfl _ (reqCells q _) _ _ g1 huq rfl hsq ?_))
            refine hS.mono ?_
            clear hS
            rintro e w13 ⟨rfl, hb13⟩
            go_wp2_with fail
            go_ret2
            refine ⟨.slice xa (encBytes q).length xc, by rw [HO2.out]; rfl, ?_, hs12.trans (Str.below hb13)⟩
            rw [HO2.out]
            exact (SP.le.mul (SP.le.refl _) ((SP.le_right _ _).trans (SP.le_right _ _))).on (HN.out.below hb13)
          | false =>
            have HO2 := hide (show encOk q = false by rw [HO.out, hb]; simp)
            rw [hb] at hS
            clear hb
            go_wp2_with (first
              | (refine wpList_store_row rfl _ _ _ rfl w11.heap.size (reqCells (reqGot (encBytes q)) _) rfl rfl _ _ hr11 hsq (zq_size _ _) (req_one _ _ _ _) ?_; rw [HW12.out])
              | (refine wpList_load_row_g rfl _ _ rfl w11.heap.size rfl _ (reqCells (reqGot (encBytes q)) _) _ _ g6 huq rfl hsq ?_)
              | (refine wpList_load_row_g rfl _ _ rfl w.heap.size rfl _ (reqCells q _) _ _ g1 huq rfl hsq ?_))
            refine hS.mono ?_
            clear hS
            rintro e w13 ⟨rfl, hb13⟩
            go_wp2_with fail
            go_ret2
            refine ⟨.slice Option.none 0 0, by rw [HO2.out]; rfl, ?_, hs12.trans (Str.below hb13)⟩
            rw [HO2.out]
            exact own_nil _ _ ((on_all w).below (HB12.out.trans (hb13.mono HB12.out.size)))
        · have hzn : (((z : Nat) : Int) != 0) = true := by simp; omega
          have HO2 := hide (show encOk q = false by rw [HO.out]; simp [hz])
          clear hz hS
          go_wp2_with (refine wpList_store_row rfl _ _ _ rfl w11.heap.size (reqCells (reqGot (encBytes q)) _) rfl rfl _ _ hr11 hsq (zq_size _ _) (req_one _ _ _ _) ?_; rw [HW12.out])
          go_ret2
          refine ⟨.slice Option.none 0 0, by rw [HO2.out]; rfl, ?_, hs12⟩
          rw [HO2.out]
          exact own_nil _ _ ((on_all w).below HB12.out)
    · have hp := own_new 5 1 1 (vbs [q.op]) H3.out rfl (by decide)
      have hv1 : (vbs [q.op]).toArray = #[vb q.op] := rfl
      rw [hv1] at hp
      have hsp := Hs3.out.alloc (.cells #[vb q.op] 5)
      obtain ⟨k0a, k1a, _, _⟩ := formBox (on_blk_mul hp.right)
      have t1 : (w3.alloc (.cells #[vb q.op] 5)).cell? ⟨w.heap.size, 1, Option.none⟩ = some (vb q.type) := cell_of_row _ _ 1 _ _ _ (on_blk_mul hp.right.right)
      have hnt := IsBytes.new (w3.alloc (.cells #[vb q.op] 5)) [q.type] (by simp [maxLen]) 5
      rw [World.size_alloc] at hnt
      have Hnt : Hid (IsBytes ((w3.alloc (.cells #[vb q.op] 5)).alloc (.cells #[vb q.type] 5)) (.slice (some ⟨w3.heap.size + 1, 0, Option.none⟩) 1 1) [q.type]) := hide hnt
      clear hnt
      obtain ⟨pre, hpre⟩ : ∃ pre, [q.op] ++ [q.type] = pre := ⟨_, rfl⟩
      have hpl : pre.length ≤ 2 := by rw [← hpre]; simp
      have Hpre := hide hpre
      clear hpre
      have HHp := hide hp
      have HHs := hide hsp
      clear hv1 hp hsp
      go_wp2_with (first
        | (refine wpList_store_row rfl _ _ _ rfl g (formCells ⟨1, S, Lm, M⟩) rfl rfl _ _ hgr hsf (zf_size _) (zf_one _) ?_; rw [HW3.out])
        | (at_builtin; refine wpList_append_bytes (F := (blk g (.cells (formCells ⟨1, S, Lm, M⟩) 168 (0, 0)) * (blk w.heap.size (.cells (reqCells q (.slice da q.data.length dc)) 159 (0, 0)) * all w))) rfl _ _ 33 rfl 5 hu infoR _ [q.op] [q.type] rfl (HHp.out.alloc' _) _ rfl Hnt.out (by show 1 + 1 ≤ 140737488355328; omega) ?_; intro v5 wp ho hs; have hsp := (HHs.out.alloc _).trans hs; rw [Hpre.out] at ho; have hp : (ownR v5 pre * (blk g (.cells (formCells ⟨1, S, Lm, M⟩) 168 (0, 0)) * (blk w.heap.size (.cells (reqCells q (.slice da q.data.length dc)) 159 (0, 0)) * all w))).on wp := ho; clear ho hs HHp HHs k0a k1a t1))
      obtain ⟨pa, pc, rfl, _, _, _, _⟩ := own_value hp
      have z2 : wp.cell? ⟨w.heap.size, 2, Option.none⟩ = some (u32v q.size) := cell_of_row _ _ 2 _ _ _ (on_blk_mul hp.right.right)
      obtain ⟨_, kS, _, _⟩ := formBox (on_blk_mul hp.right)
      have CZ : Hid (∀ X', Stay wp X' → X'.cell? ⟨w.heap.size, 2, Option.none⟩ = some (u32v q.size)) := hide fun X' hT => (hT.cell (p := ⟨w.heap.size, 2, Option.none⟩) (World.block_lt_of_cell? wp _ z2)).trans z2
      have CS : Hid (∀ X', Stay wp X' → X'.cell? ⟨g, 1, Option.none⟩ = some (iv S)) := hide fun X' hT => (hT.cell (p := ⟨g, 1, Option.none⟩) (World.block_lt_of_cell? wp _ kS)).trans kS
      have Hp := hide hp
      have Hsp := hide hsp
      clear z2 kS hp hsp
      refine wp_region_tail 8 [isV (.slice pa pre.length pc), isV (.pointer (some ⟨w.heap.size, 2, Option.none⟩)), isV (u32v q.size), fun v X => IsWords X v [q.size], fun v X => IsBytes X v (wordB q.size), isV (.pointer (some ⟨g, 1, Option.none⟩)), isV (iv S), fun v X => IsBytes X v ((wordB q.size).take S)]
        (by simp only [List.take_succ_cons, List.take_zero]; rfl) (by simp only [List.drop_succ_cons, List.drop_zero]; rfl) (by kernel_rfl) (by kernel_rfl) (by kernel_rfl) (by decide) rfl ?keep ?todo ?rest
      case keep => exact ⟨Keep.isV _, Keep.isV _, Keep.isV _, fun _ _ _ h k => IsWords.below h k, fun _ _ _ h k => IsBytes.below h k, Keep.isV _, Keep.isV _, fun _ _ _ h k => IsBytes.below h k, trivial⟩
      case todo =>
        refine ⟨?_, ?_, ?_, ?_, ?_, ?_, ?_, ?_, trivial⟩
        · intro ev X' hT hb hk hf
          have e0 : ev (.tmp 5) = .slice pa pre.length pc := hk.1
          exact OpOk.move rfl e0 ⟨rfl, Stay.refl _⟩
        · intro ev X' hT hb hk hf
          have e0 : ev (.tmp 1) = .pointer (some ⟨w.heap.size, 0, Option.none⟩) := hk.1
          exact OpOk.run (v := .pointer (some ⟨w.heap.size, 2, Option.none⟩)) (W' := X') (by simp [execOp, e0, hb.1, go_sem]) ⟨rfl, Stay.refl _⟩
        · intro ev X' hT hb hk hf
          have e0 : ev (.tmp 24) = .pointer (some ⟨w.heap.size, 2, Option.none⟩) := hf.1
          have cW := CZ.out X' hT
          exact OpOk.run (v := u32v q.size) (W' := X') (by simp [execOp, e0, cW, go_sem]) ⟨rfl, Stay.refl _⟩
        · intro ev X' hT hb hk hf
          have e0 : ev (.tmp 25) = u32v q.size := hf.1
          exact OpOk.run (v := .slice (some ⟨X'.heap.size, 0, Option.none⟩) 1 1) (W' := X'.alloc (.cells #[u32v q.size] 32)) (by simp [execOp, e0, go_sem]) ⟨IsWords.one X' _ hsz _, (Below.refl _ _).alloc (Nat.le_refl _) _⟩
        · intro ev X' hT hb hk hf
          have e0 := hf.1
          have e0' : IsWords X' (ev (.tmp 26)) [q.size] := e0
          refine OpOk.enters (f := 114) (args := #[ev (.tmp 26)]) (W' := X') (by simp [execOp, resolve, invoke, hb.2.1, go_sem]) ((numbers_any _ _ X' e0' (by simp)).mono ?_)
          rintro e X2 ⟨v', rfl, h4, h5⟩
          rw [numsB_one] at h4
          exact ⟨_, rfl, own_bytes h4, all_below h4.right h5⟩
        · intro ev X' hT hb hk hf
          have e0 : ev (.tmp 4) = .pointer (some ⟨g, 0, Option.none⟩) := hk.1
          exact OpOk.run (v := .pointer (some ⟨g, 1, Option.none⟩)) (W' := X') (by simp [execOp, e0, hb.1, go_sem]) ⟨rfl, Stay.refl _⟩
        · intro ev X' hT hb hk hf
          have e0 : ev (.tmp 28) = .pointer (some ⟨g, 1, Option.none⟩) := hf.1
          have cW := CS.out X' hT
          exact OpOk.run (v := iv S) (W' := X') (by simp [execOp, e0, cW, go_sem]) ⟨rfl, Stay.refl _⟩
        · intro ev X' hT hb hk hf
          have e0 := hf.1
          have e1 : ev (.tmp 29) = iv S := hf.2.1
          have e0' : IsBytes X' (ev (.tmp 27)) (wordB q.size) := e0
          obtain ⟨v', hrun, hv'⟩ := run_slice_to (P := Try.prog) e0' S (by rw [wordB_len]; omega) _ _ hu infoR
          exact OpOk.run (v := v') (W' := X') (by simp [execOp, e1, hrun]) ⟨hv' _ e0', Stay.refl _⟩
      case rest =>
        intro X5 hT
        rintro _ rfl _ rfl _ rfl v3 - v4 - _ rfl _ rfl v7 h7
        have Hp5 := hide (Hp.out.below hT)
        have Hs5 := hide (Hsp.out.trans (Str.below hT))
        have H7 := hide (show IsBytes X5 v7 ((wordB q.size).take S) from h7)
        have hl7 : ((wordB q.size).take S).length ≤ 4 := by rw [List.length_take]; omega
        clear hT h7 CZ CS
        go_wp2
        refine Rest.done ?_
        have HE2 := hide (show (pre ++ (wordB q.size).take S) ++ q.data = encBytes q by rw [HEB.out, ← Hpre.out]; simp)
        have hbl : (encBytes q).length ≤ 200000 := by rw [← HE2.out]; simp only [List.length_append]; omega
        generalize (wordB q.size).take S = tk at *
        clear HEB
        obtain ⟨p2, hp2⟩ : ∃ p2, pre ++ tk = p2 := ⟨_, rfl⟩
        have hp2l : p2.length ≤ 6 := by rw [← hp2, List.length_append]; omega
        have HE3 : Hid (p2 ++ q.data = encBytes q) := hide (by rw [← hp2]; exact HE2.out)
        have Hp2 := hide hp2
        clear hp2
        go_wp2_with (first
          | (at_builtin; refine wpList_append_bytes (F := (blk g (.cells (formCells ⟨1, S, Lm, M⟩) 168 (0, 0)) * (blk w.heap.size (.cells (reqCells q (.slice da q.data.length dc)) 159 (0, 0)) * all w))) rfl _ _ 33 rfl 5 hu infoR _ p2 q.data rfl Ho1.out _ rfl Hd9.out (by omega) ?_; intro v10 w10 ho hs; rw [HE3.out] at ho; have Ho2 := hide ho; have Hs10 := hide (Hs9.out.trans hs); have hP := oparse_any _ _ w10 (own_bytes ho) (by omega); obtain ⟨xa, xc, rfl, _, _, _, _⟩ := own_value ho; clear ho hs)
          | (at_builtin; refine wpList_append_bytes (F := (blk g (.cells (formCells ⟨1, S, Lm, M⟩) 168 (0, 0)) * (blk w.heap.size (.cells (reqCells q (.slice da q.data.length dc)) 159 (0, 0)) * all w))) rfl _ _ 33 rfl 5 hu infoR _ pre tk rfl Hp5.out _ rfl H7.out (by omega) ?_; intro v9 w9 ho hs; rw [Hp2.out] at ho; have Ho1 := hide ho; have Hs9 := hide (Hs5.out.trans hs); have c3 : w9.cell? ⟨w.heap.size, 3, Option.none⟩ = some (.slice da q.data.length dc) := cell_of_row _ _ 3 _ _ _ (on_blk_mul ho.right.right); have Hd9 := hide (Hd.out.below (all_below ho.right.right.right Hs9.out)); obtain ⟨ya, yc, rfl, _, _, _, _⟩ := own_value ho; clear ho hs))
        refine hP.mono ?_
        clear hP
        rintro e w11 ⟨dv, rfl, hdv, hs11⟩
        have h11 := on_all_to hdv Ho2.out
        obtain ⟨ea, ec, rfl, _, _, _, _⟩ := own_value hdv
        have hr11 := heap_alloc_new w11 (.cells zq 159)
        have h12 := (h11.alloc (.cells zq 159)).setRow (reqCells (reqGot (encBytes q)) (.slice ea (reqGot (encBytes q)).data.length ec))
        have hs12 := ((Hs10.out.trans hs11).alloc (.cells zq 159)).setRow w11.heap.size (reqCells (reqGot (encBytes q)) (.slice ea (reqGot (encBytes q)).data.length ec))
        clear h11 hdv hs11 Ho2 Hs10
        generalize hW12 : (w11.alloc (.cells zq 159)).setRow w11.heap.size (reqCells (reqGot (encBytes q)) (.slice ea (reqGot (encBytes q)).data.length ec)) = w12 at *
        have HW12 := hide hW12
        clear hW12
        have g6 := on_blk_mul h12
        have g1 := on_blk_mul h12.right.right.right.right
        have HB12 := hide (all_below h12.right.right.right.right.right hs12)
        have hS := osame_any (reqGot (encBytes q)) q _ _ w12 (own_bytes h12.right) (Hd.out.below HB12.out)
        have HN := hide h12.right.right
        have HO := hide (show encOk q = (decide (reqErr (encBytes q) = 0) && reqSame (reqGot (encBytes q)) q) from rfl)
        clear h12
        generalize reqErr (encBytes q) = z at *
        by_cases hz : z = 0
        · subst hz
          cases hb : reqSame (reqGot (encBytes q)) q with
          | true =>
            have HO2 := hide (show encOk q = true by rw [HO.out, hb]; rfl)
            rw [hb] at hS
            clear hb
            go_wp2_with (first
              | (refine wpList_store_row rfl _ _ _ rfl w11.heap.size (reqCells (reqGot (encBytes q)) _) rfl rfl _ _ hr11 hsq (zq_size _ _) (req_one _ _ _ _) ?_; rw [HW12.out])
              | (refine wpList_load_row_g rfl _ _ rfl w11.heap.size rfl _ (reqCells (reqGot (encBytes q)) _) _ _ g6 huq rfl hsq ?_)
              | (refine wpList_load_row_g rfl _ _ rfl w.heap.size rfl _ (reqCells q _) _ _ g1 huq rfl hsq ?_))
            refine hS.mono ?_
            clear hS
            rintro e w13 ⟨rfl, hb13⟩
            go_wp2_with fail
            go_ret2
            refine ⟨.slice xa (encBytes q).length xc, by rw [HO2.out]; rfl, ?_, hs12.trans (Str.below hb13)⟩
            rw [HO2.out]
            exact (SP.le.mul (SP.le.refl _) ((SP.le_right _ _).trans (SP.le_right _ _))).on (HN.out.below hb13)
          | false =>
            have HO2 := hide (show encOk q = false by rw [HO.out, hb]; simp)
            rw [hb] at hS
            clear hb
            go_wp2_with (first
              | (refine wpList_store_row rfl _ _ _ rfl w11.heap.size (reqCells (reqGot (encBytes q)) _) rfl rfl _ _ hr11 hsq (zq_size _ _) (req_one _ _ _ _) ?_; rw [HW12.out])
              | (refine wpList_load_row_g rfl _ _ rfl w11.heap.size rfl _ (reqCells (reqGot (encBytes q)) _) _ _ g6 huq rfl hsq ?_)
              | (refine wpList_load_row_g rfl _ _ rfl w.heap.size rfl _ (reqCells q _) _ _ g1 huq rfl hsq ?_))
            refine hS.mono ?_
            clear hS
            rintro e w13 ⟨rfl, hb13⟩
            go_wp2_with fail
            go_ret2
            refine ⟨.slice Option.none 0 0, by rw [HO2.out]; rfl, ?_, hs12.trans (Str.below hb13)⟩
            rw [HO2.out]
            exact own_nil _ _ ((on_all w).below (HB12.out.trans (hb13.mono HB12.out.size)))
        · have hzn : (((z : Nat) : Int) != 0) = true := by simp; omega
          have HO2 := hide (show encOk q = false by rw [HO.out]; simp [hz])
          clear hz hS
          go_wp2_with (refine wpList_store_row rfl _ _ _ rfl w11.heap.size (reqCells (reqGot (encBytes q)) _) rfl rfl _ _ hr11 hsq (zq_size _ _) (req_one _ _ _ _) ?_; rw [HW12.out])
          go_ret2
          refine ⟨.slice Option.none 0 0, by rw [HO2.out]; rfl, ?_, hs12⟩
          rw [HO2.out]
          exact own_nil _ _ ((on_all w).below HB12.out)
end Go.Proofs.Ytjmgnfpcieofkaa
