/- LAID TOGETHER: Opc, Opc2, Opc3. -/
import Derived.Test.YtgmpmlneoiagdaaGreatDoorMap
import Derived.Test.YtgmpmlneoiagdaaGreatDoorGRecA
import Derived.Test.YtgmpmlneoiagdaaGreatDoorGBase2
import Derived.Test.YtgmpmlneoiagdaaGreatDoorGRecB
import Derived.Test.YtgmpmlneoiagdaaGreatDoorSlice
/- The Go functions of opcode: the forms of requests. -/
namespace Go.Proofs.YtgmpmlneoiagdaaGreatDoor
open Go.ChangeShapes Go.WideShapes Go.ChangeAt Go.RowKit
set_option linter.unusedVariables false
set_option linter.unusedSimpArgs false

structure Form where
  kind : Nat
  size : Nat
  least : Nat
  most : Nat
abbrev iv (n : Nat) : Value := .int .i64 (n : Int)
abbrev formCells (f : Form) : Array Value := #[iv f.kind, iv f.size, iv f.least, iv f.most]
/-- the forms, in the text's order -/
def formsL : List (Nat × Form) := [(0, ⟨0, 0, 0, 0⟩), (1, ⟨1, 4, 0, 0⟩), (2, ⟨0, 2, 0, 0⟩), (3, ⟨0, 0, 0, 0⟩), (4, ⟨0, 0, 0, 0⟩), (6, ⟨1, 0, 0, 0⟩), (7, ⟨0, 0, 0, 0⟩), (8, ⟨0, 0, 1, 64⟩), (9, ⟨1, 0, 0, 0⟩), (12, ⟨0, 0, 0, 0⟩)]
def formsE : List (Nat × Value) := formsL.map fun p => (p.1, .agg (formCells p.2))
abbrev fv (k s l m : Int) : Value := .agg #[.int .i64 k, .int .i64 s, .int .i64 l, .int .i64 m]
theorem formsE_eq : formsE = [(0, fv 0 0 0 0), (1, fv 1 4 0 0), (2, fv 0 2 0 0), (3, fv 0 0 0 0), (4, fv 0 0 0 0), (6, fv 1 0 0 0), (7, fv 0 0 0 0), (8, fv 0 0 1 64), (9, fv 1 0 0 0), (12, fv 0 0 0 0)] := by
  simp [formsE, formsL, formCells, iv, fv]

set_option maxRecDepth 100000 in
set_option maxHeartbeats 4000000 in
theorem forms_any (w : World) : Calls Tryz.prog 75 #[] w fun e w' => ∃ b, e = .returned (.map (some b)) ∧ (mapB b formsE * all w).on w' ∧ Str w w' := by
  have hmm := @run_makeMap Tryz.prog
  have ht := Tryz.underlying142
  have hk := Tryz.underlying5
  have hm0 : (mapB w.heap.size [] * all w).on (w.alloc (.map #[] 0)) := (on_all w).alloc _
  have H0 := hide hm0
  have HS0 := hide ((Str.refl w).alloc (.map #[] 0))
  clear hm0
  go_enter Tryz.func75, Tryz.ntmps75
  go_wp2_with (first
    | (refine wpList_insert_sp (F := all w) rfl _ _ _ _ _ _ rfl ht hk w.heap.size _ H9.out rfl 12 rfl _ rfl rfl ?_; intro w10 h hs; have H10 := hide h; have HS10 := hide (HS9.out.trans hs); clear h hs)
    | (refine wpList_insert_sp (F := all w) rfl _ _ _ _ _ _ rfl ht hk w.heap.size _ H8.out rfl 9 rfl _ rfl rfl ?_; intro w9 h hs; have H9 := hide h; have HS9 := hide (HS8.out.trans hs); clear h hs)
    | (refine wpList_insert_sp (F := all w) rfl _ _ _ _ _ _ rfl ht hk w.heap.size _ H7.out rfl 8 rfl _ rfl rfl ?_; intro w8 h hs; have H8 := hide h; have HS8 := hide (HS7.out.trans hs); clear h hs)
    | (refine wpList_insert_sp (F := all w) rfl _ _ _ _ _ _ rfl ht hk w.heap.size _ H6.out rfl 7 rfl _ rfl rfl ?_; intro w7 h hs; have H7 := hide h; have HS7 := hide (HS6.out.trans hs); clear h hs)
    | (refine wpList_insert_sp (F := all w) rfl _ _ _ _ _ _ rfl ht hk w.heap.size _ H5.out rfl 6 rfl _ rfl rfl ?_; intro w6 h hs; have H6 := hide h; have HS6 := hide (HS5.out.trans hs); clear h hs)
    | (refine wpList_insert_sp (F := all w) rfl _ _ _ _ _ _ rfl ht hk w.heap.size _ H4.out rfl 4 rfl _ rfl rfl ?_; intro w5 h hs; have H5 := hide h; have HS5 := hide (HS4.out.trans hs); clear h hs)
    | (refine wpList_insert_sp (F := all w) rfl _ _ _ _ _ _ rfl ht hk w.heap.size _ H3.out rfl 3 rfl _ rfl rfl ?_; intro w4 h hs; have H4 := hide h; have HS4 := hide (HS3.out.trans hs); clear h hs)
    | (refine wpList_insert_sp (F := all w) rfl _ _ _ _ _ _ rfl ht hk w.heap.size _ H2.out rfl 2 rfl _ rfl rfl ?_; intro w3 h hs; have H3 := hide h; have HS3 := hide (HS2.out.trans hs); clear h hs)
    | (refine wpList_insert_sp (F := all w) rfl _ _ _ _ _ _ rfl ht hk w.heap.size _ H1.out rfl 1 rfl _ rfl rfl ?_; intro w2 h hs; have H2 := hide h; have HS2 := hide (HS1.out.trans hs); clear h hs)
    | (refine wpList_insert_sp (F := all w) rfl _ _ _ _ _ _ rfl ht hk w.heap.size _ H0.out rfl 0 rfl _ rfl rfl ?_; intro w1 h hs; have H1 := hide h; have HS1 := hide (HS0.out.trans hs); clear h hs))
  go_ret
  refine ⟨_, rfl, ?_, HS10.out⟩
  rw [formsE_eq]
  exact H10.out
end Go.Proofs.YtgmpmlneoiagdaaGreatDoor

/- The Go functions of opcode: Parse. -/
namespace Go.Proofs.YtgmpmlneoiagdaaGreatDoor
open Go.ChangeShapes Go.WideShapes Go.ChangeAt Go.RowKit
set_option linter.unusedVariables false
set_option linter.unusedSimpArgs false

def formOf (c : UInt8) : Option Form := (formsL.find? fun p => p.1 == c.toNat).map Prod.snd
theorem findN_form (n : Nat) : ∀ (l : List (Nat × Form)) (j : Nat), (findN n (l.map fun p => (p.1, Value.agg (formCells p.2))) j).map Prod.snd = ((l.find? fun p => p.1 == n).map Prod.snd).map (fun f => Value.agg (formCells f))
  | [], _ => rfl
  | (m, f) :: t, j => by
    simp only [List.map_cons, findN, List.find?_cons]
    by_cases h : n = m
    · subst h; simp
    · have : (m == n) = false := by rw [beq_eq_false_iff_ne]; exact fun e => h e.symm
      rw [if_neg h, this]
      exact findN_form n t (j + 1)
theorem findN_look (c : UInt8) : (findN c.toNat formsE 0).map Prod.snd = (formOf c).map (fun f => Value.agg (formCells f)) := findN_form c.toNat formsL 0
theorem findN_some (c : UInt8) : (findN c.toNat formsE 0).isSome = (formOf c).isSome := by
  have := congrArg Option.isSome (findN_look c)
  simpa using this
theorem form_small : ∀ p ∈ formsL, p.2.kind ≤ 1 ∧ p.2.size ≤ 4 ∧ p.2.least ≤ 1 ∧ p.2.most ≤ 64 := by decide
theorem formOf_small {c : UInt8} {f : Form} (h : formOf c = some f) : f.kind ≤ 1 ∧ f.size ≤ 4 ∧ f.least ≤ 1 ∧ f.most ≤ 64 := by
  unfold formOf at h
  obtain ⟨p, hp, rfl⟩ := Option.map_eq_some_iff.1 h
  exact form_small p (List.mem_of_find?_eq_some hp)

structure ReqS where
  op : UInt8
  type : UInt8
  size : Nat
  data : List UInt8
abbrev reqCells (q : ReqS) (dv : Value) : Array Value := #[vb q.op, vb q.type, u32v q.size, dv]
def zeroQ : ReqS := ⟨0, 0, 0, []⟩
abbrev zq : Array Value := #[.int .u8 0, .int .u8 0, .int .u32 0, nilV]
abbrev zf : Array Value := #[.int .i64 0, .int .i64 0, .int .i64 0, .int .i64 0]
theorem zq_eq : reqCells zeroQ nilV = zq := by simp [reqCells, zeroQ, vb]
theorem zq_one : zq.all (·.oneCell') = true := by simp [Value.oneCell']
theorem zf_size (f : Form) : zf.size = (formCells f).size := (show zf.size = 4 from rfl).trans (show (formCells f).size = 4 from rfl).symm
theorem zf_one (f : Form) : (formCells f).all (·.oneCell') = true := by simp [Value.oneCell']
theorem zf_size0 : zf.size = zf.size := rfl
theorem zf_one0 : zf.all (·.oneCell') = true := by simp [Value.oneCell']

theorem numS_drop (t : List UInt8) (K at' : Nat) : ∀ k, numS (t.drop K) at' k = numS t (K + at') k
  | 0 => rfl
  | k + 1 => by
    simp only [numS]
    rw [numS_drop t K at' k, List.getD_eq_getElem?_getD, List.getD_eq_getElem?_getD, List.getElem?_drop, Nat.add_assoc]
theorem pow8_le (k : Nat) (h : k < 4) : 2 ^ (8 * k) ≤ 16777216 := by
  match k, h with
  | 0, _ => decide
  | 1, _ => decide
  | 2, _ => decide
  | 3, _ => decide
theorem formBox {w' : World} {b : Nat} {K S Lm M : Nat} {t : TypeId} (h : w'.heap[b]? = some (.cells (formCells ⟨K, S, Lm, M⟩) t)) :
    w'.cell? ⟨b, 0, Option.none⟩ = some (iv K) ∧ w'.cell? ⟨b, 1, Option.none⟩ = some (iv S) ∧ w'.cell? ⟨b, 2, Option.none⟩ = some (iv Lm) ∧ w'.cell? ⟨b, 3, Option.none⟩ = some (iv M) := by
  refine ⟨?_, ?_, ?_, ?_⟩ <;> (rw [cell_of_row _ _ _ _ _ _ h]; rfl)
abbrev rq (c : UInt8) (ty : Value) (n : Nat) (dv : Value) : Array Value := #[vb c, ty, u32v n, dv]
theorem rq_one (c d : UInt8) (n : Nat) (a : Option Addr) (k cc : Nat) : (rq c (vb d) n (.slice a k cc)).all (·.oneCell') = true := by simp [Value.oneCell', vb]
theorem rq_size (c : UInt8) (v : Value) (n : Nat) (u : Value) : zq.size = (rq c v n u).size := (show zq.size = 4 from rfl).trans (show (rq c v n u).size = 4 from rfl).symm
def parsed (c : UInt8) (t : List UInt8) (f : Form) : ReqS := ⟨c, if f.kind = 0 then 0 else t.getD 0 0, numS t f.kind f.size, t.drop (f.kind + f.size)⟩
def lenErr (t : List UInt8) (f : Form) : Nat := if t.length < f.kind + f.size + f.least then 18 else if f.kind + f.size + f.most < t.length then 17 else 0
def reqErr : List UInt8 → Nat
  | [] => 18
  | c :: t => match formOf c with
    | Option.none => 19
    | some f => lenErr t f
def reqGot : List UInt8 → ReqS
  | [] => zeroQ
  | c :: t => match formOf c with
    | Option.none => zeroQ
    | some f => if lenErr t f = 0 then parsed c t f else zeroQ
def ReqEnd (b : List UInt8) (w : World) (e : Ending) (w' : World) : Prop := ∃ dv, e = .returned (.tuple #[.agg (reqCells (reqGot b) dv), .int .i64 (reqErr b : Nat)]) ∧ (ownR dv (reqGot b).data * all w).on w' ∧ Str w w'
theorem ReqEnd.err {b : List UInt8} {w w' : World} {z : Nat} (he : reqErr b = z) (hg : reqGot b = zeroQ) (hb : Below w.heap.size w w') (z' : Int) (hz' : z' = (z : Nat)) : ReqEnd b w (.returned (.tuple #[.agg zq, .int .i64 z'])) w' := by
  refine ⟨nilV, ?_, ?_, Str.below hb⟩
  · rw [he, hg, zq_eq, hz']
  · rw [hg]
    exact own_nil _ _ ((on_all w).below hb)

set_option maxRecDepth 100000 in
set_option maxHeartbeats 8000000 in
theorem oparse_any (v : Value) (b : List UInt8) (w : World) (h : IsBytes w v b) (hlen : b.length ≤ 1000000) :
    Calls Tryz.prog 66 #[v] w (ReqEnd b w) := by
  have huq := Tryz.underlying117
  have hsq : (Tryz.prog.info? 117).map (·.size) = some 4 := by kernel_rfl
  have hsf : (Tryz.prog.info? 140).map (·.size) = some 4 := by kernel_rfl
  have hr0 := heap_alloc_new w (.cells zq 117)
  have htm := Tryz.underlying142
  have hk8 := Tryz.underlying5
  have hz : ∀ w, (zeroValue 140).run Tryz.prog w = .ok (.agg zf) w := fun w => by kernel_rfl
  cases b with
  | nil =>
    have HE := hide (show reqErr [] = 18 from rfl)
    obtain ⟨a, cap, rfl, hc, hm, hla, hn⟩ := h
    clear hla hn htm hk8 hz hsf
    go_enter Tryz.func66, Tryz.ntmps66
    go_wp2_with (refine wpList_store_row rfl _ _ _ rfl w.heap.size zq rfl rfl _ _ hr0 hsq rfl zq_one ?_)
    refine bodyPost_ret (v := .tuple #[.agg zq, .int .i64 18]) (results_cell_row_tmp Tryz.results66 _ _ w.heap.size _ zq (0, 0) _ rfl (setRow_heap_same _ _ _ _ _ _ hr0) huq rfl hsq (.int .i64 18) rfl) rfl ?_
    exact ReqEnd.err HE.out rfl (below_setRow alloc1 (Nat.le_refl _) _) 18 rfl
  | cons c t =>
    have Hb := hide h
    obtain ⟨a, cap, rfl, hc, hm, hla, hn⟩ := h
    obtain ⟨bg, bo, rfl⟩ := Lay.isAddr hla 0 (by simp)
    have c0 := Lay.cell hla 0 (vbs_get _ 0 (by simp))
    simp only [List.getElem_cons_zero, Nat.add_zero] at c0
    simp only [List.length_cons] at Hb hc hlen ⊢
    have C0 : Hid (∀ X, Stay (w.alloc (.cells zq 117)) X → X.cell? ⟨bg, bo, Option.none⟩ = some (vb c)) := hide fun X hT => ((alloc1.trans (hT.mono (by simp))).cell (p := ⟨bg, bo, Option.none⟩) (World.block_lt_of_cell? w _ c0)).trans c0
    have H0 := hide ((on_all w).alloc (.cells zq 117))
    have Hs0 := hide ((Str.refl w).alloc (.cells zq 117))
    have hl1 := findN_look c
    have hl2 := findN_some c
    have Hla := hide hla
    unfold maxLen at hm
    clear hla hn c0
    have hne : (((t.length + 1 : Nat) : Int) == 0) = false := by rw [beq_eq_false_iff_ne]; omega
    cases hf : formOf c with
    | none =>
      rw [hf] at hl1 hl2
      have Hlk := hide (show ((findN c.toNat formsE 0).map Prod.snd).getD (.agg zf) = .agg zf by rw [hl1]; rfl)
      have Hok := hide (show (findN c.toNat formsE 0).isSome = false from hl2)
      have HE := hide (show reqErr (c :: t) = 19 by simp only [reqErr, hf])
      have HG := hide (show reqGot (c :: t) = zeroQ by simp only [reqGot, hf])
      clear hl1 hl2 hf
      go_enter Tryz.func66, Tryz.ntmps66
      go_wp2_with fail
      refine wp_region_store 9 [(fun v X => ∃ m, v = .map (some m) ∧ (mapB m formsE).on X), isV (.slice (some ⟨bg, bo, Option.none⟩) (t.length + 1) cap), isV (.pointer (some ⟨bg, bo, Option.none⟩)), isV (vb c), isV (.tuple #[.agg zf, .bool false]), isV (.tuple #[.agg zf, .bool false]), isV (.agg zf), isV (.bool false), (fun v X => ∃ g, v = .pointer (some ⟨g, 0, Option.none⟩) ∧ w.heap.size + 1 ≤ g ∧ (blk g (.cells zf 140 (0, 0)) * (blk w.heap.size (.cells zq 117 (0, 0)) * all w)).on X), (fun _ _ => True), isV (.bool false)]
        [(fun _ _ => True), isV (.slice (some ⟨bg, bo, Option.none⟩) (t.length + 1) cap), isV (.pointer (some ⟨bg, bo, Option.none⟩)), isV (vb c), isV (.tuple #[.agg zf, .bool false]), isV (.tuple #[.agg zf, .bool false]), isV (.agg zf), isV (.bool false), (fun v X => ∃ g, v = .pointer (some ⟨g, 0, Option.none⟩) ∧ w.heap.size + 1 ≤ g ∧ (blk g (.cells zf 140 (0, 0)) * (blk w.heap.size (.cells zq 117 (0, 0)) * all w)).on X), (fun _ _ => True), isV (.bool false)] _ rfl (by kernel_rfl) (by kernel_rfl) rfl rfl (by decide) (.inr rfl) ?keep ?keep2 ?store ?todo ?rest
      case keep => exact ⟨fun _ _ _ ⟨m, h1, h2⟩ k => ⟨m, h1, SP.on.below h2 k⟩, Keep.isV _, Keep.isV _, Keep.isV _, Keep.isV _, Keep.isV _, Keep.isV _, Keep.isV _, fun _ _ _ ⟨g, h0, h1, h2⟩ k => ⟨g, h0, h1, SP.on.below h2 k⟩, fun _ _ _ h _ => h, Keep.isV _, trivial⟩
      case keep2 => exact ⟨fun _ _ _ h _ => h, Keep.isV _, Keep.isV _, Keep.isV _, Keep.isV _, Keep.isV _, Keep.isV _, Keep.isV _, fun _ _ _ ⟨g, h0, h1, h2⟩ k => ⟨g, h0, h1, SP.on.below h2 k⟩, fun _ _ _ h _ => h, Keep.isV _, trivial⟩
      case store =>
        intro ev X hT0 hb hk hf
        have hT := Stay.undrew hT0
        obtain ⟨g, e0, hge, hg⟩ : ∃ g, ev (.tmp 4) = .pointer (some ⟨g, 0, Option.none⟩) ∧ w.heap.size + 1 ≤ g ∧ (blk g (.cells zf 140 (0, 0)) * (blk w.heap.size (.cells zq 117 (0, 0)) * all w)).on X := hf.1
        have e1 : ev (.tmp 20) = .agg zf := hf.2.1
        refine OpOk.store_row _ _ _ rfl g zf e0 e1 _ zf (on_blk_mul hg) hsf zf_size0 zf_one0 ⟨below_setRow hT0 (by simpa using hge) _, ?_⟩
        intro i his hv
        match i, his, hv with
        | 0, _, hv => exact trivial
        | 1, _, hv => exact hv
        | 2, _, hv => exact hv
        | 3, _, hv => exact hv
        | 4, _, hv => exact hv
        | 5, _, hv => exact hv
        | 6, _, hv => exact hv
        | 7, _, hv => exact hv
        | 8, _, hv =>
          obtain ⟨g', e0', hge', hg'⟩ : ∃ g, ev (.tmp 4) = .pointer (some ⟨g, 0, Option.none⟩) ∧ w.heap.size + 1 ≤ g ∧ (blk g (.cells zf 140 (0, 0)) * (blk w.heap.size (.cells zq 117 (0, 0)) * all w)).on X := hv
          rw [e0] at e0'
          cases e0'
          exact ⟨g, e0, hge, hg.setRow zf⟩
        | 9, h, _ => exact absurd rfl h
        | 10, _, hv => exact hv
        | n + 11, _, _ => exact trivial
      case todo =>
        refine ⟨?_, ?_, ?_, ?_, ?_, ?_, ?_, ?_, ?_, ?_, ?_, trivial⟩
        · intro _ ph h1 h2
          obtain rfl : ph = false := h2 (by kernel_rfl)
          intro ev X hT0 hb hk hf
          have hT := Stay.undrew hT0
          refine OpOk.enters (f := 75) (args := #[]) (W' := X) (by simp [execOp, resolve, invoke, hb.2.1, go_sem]) ((forms_any X).mono ?_)
          rintro e X2 ⟨m, rfl, h3, h4⟩
          exact ⟨_, rfl, ⟨m, rfl, h3.left⟩, all_below h3.right h4⟩
        · intro _ ph h1 h2
          obtain rfl : ph = false := h2 (by kernel_rfl)
          intro ev X hT0 hb hk hf
          have hT := Stay.undrew hT0
          have e0 : ev (.tmp 0) = .slice (some ⟨bg, bo, Option.none⟩) (t.length + 1) cap := hk.1
          exact OpOk.move rfl e0 ⟨rfl, Stay.refl _⟩
        · intro _ ph h1 h2
          obtain rfl : ph = false := h2 (by kernel_rfl)
          intro ev X hT0 hb hk hf
          have hT := Stay.undrew hT0
          have e0 : ev (.tmp 16) = .slice (some ⟨bg, bo, Option.none⟩) (t.length + 1) cap := hf.1
          exact OpOk.run (v := .pointer (some ⟨bg, bo, Option.none⟩)) (W' := X) (by simp [execOp, e0, hb.1, go_sem]) ⟨rfl, Stay.refl _⟩
        · intro _ ph h1 h2
          obtain rfl : ph = false := h2 (by kernel_rfl)
          intro ev X hT0 hb hk hf
          have hT := Stay.undrew hT0
          have e0 : ev (.tmp 17) = .pointer (some ⟨bg, bo, Option.none⟩) := hf.1
          have cW := C0.out X hT
          exact OpOk.run (v := vb c) (W' := X) (by simp [execOp, e0, cW, go_sem]) ⟨rfl, Stay.refl _⟩
        · intro _ ph h1 h2
          obtain rfl : ph = false := h2 (by kernel_rfl)
          intro ev X hT0 hb hk hf
          have hT := Stay.undrew hT0
          have e0 := hf.1
          have e1 : ev (.tmp 18) = vb c := hf.2.1
          obtain ⟨m, em0, hm⟩ := e0
          have em : ev (.tmp 15) = .map (some m) := em0
          have hl := run_lookup_sp (P := Tryz.prog) (w := X) _ _ _ htm hk8 (.agg zf) (hz X) m formsE hm c.toNat true
          rw [Hlk.out, Hok.out] at hl
          exact OpOk.run (v := .tuple #[.agg zf, .bool false]) (W' := X) (by simp only [if_true] at hl; simp [execOp, em, e1, hl, go_sem]) ⟨rfl, Stay.refl _⟩
        · intro _ ph h1 h2
          obtain rfl : ph = false := h2 (by kernel_rfl)
          intro ev X hT0 hb hk hf
          have hT := Stay.undrew hT0
          have e0 : ev (.tmp 19) = .tuple #[.agg zf, .bool false] := hf.1
          exact OpOk.move rfl e0 ⟨rfl, Stay.refl _⟩
        · intro _ ph h1 h2
          obtain rfl : ph = false := h2 (by kernel_rfl)
          intro ev X hT0 hb hk hf
          have hT := Stay.undrew hT0
          have e0 : ev (.tmp 14) = .tuple #[.agg zf, .bool false] := hf.1
          exact OpOk.run (v := .agg zf) (W' := X) (by simp [execOp, e0, hb.1, go_sem]) ⟨rfl, Stay.refl _⟩
        · intro _ ph h1 h2
          cases ph
          all_goals
            intro ev X hT0 hb hk hf
            have hT := Stay.undrew hT0
            have e0 : ev (.tmp 14) = .tuple #[.agg zf, .bool false] := hf.1
            exact OpOk.run (v := .bool false) (W' := X) (by simp [execOp, e0, hb.1, go_sem]) ⟨rfl, Stay.refl _⟩
        · intro _ ph h1 h2
          obtain rfl : ph = false := h2 (by kernel_rfl)
          intro ev X hT0 hb hk hf
          have hT := Stay.undrew hT0
          exact OpOk.run (v := .pointer (some ⟨X.heap.size, 0, Option.none⟩)) (W' := X.alloc (.cells zf 140)) (by simp [execOp, go_sem]) ⟨⟨_, rfl, by have := hT.size; simp at this; omega, (H0.out.below hT).alloc _⟩, (Below.refl _ _).alloc (Nat.le_refl _) _⟩
        · exact fun h => absurd rfl h
        · intro _ ph h1 h2
          obtain rfl : ph = true := h1 (by kernel_rfl)
          intro ev X hT0 hb hk hf
          have hT := Stay.undrew hT0
          have e0 : ev (.tmp 21) = .bool false := hf.1
          exact OpOk.assign rfl e0 ⟨rfl, Stay.refl _⟩
      case rest =>
        intro X hT
        rintro v0 - _ rfl _ rfl _ rfl _ rfl _ rfl _ rfl _ rfl _ ⟨g, rfl, hge, hg⟩ v9 - _ rfl
        have h3 := on_blk_mul hg.right
        have HB := hide (Below.trans alloc1 (hT.mono (by simp)))
        clear hT hg
        go_wp2
        refine Rest.done ?_
        go_wp2_with (refine wpList_store_row rfl _ _ _ rfl w.heap.size zq rfl rfl _ _ h3 hsq rfl zq_one ?_)
        refine bodyPost_ret (v := .tuple #[.agg zq, .int .i64 19]) (results_cell_row_tmp Tryz.results66 _ _ w.heap.size _ zq (0, 0) _ rfl (setRow_heap_same _ _ _ _ _ _ h3) huq rfl hsq (.int .i64 19) rfl) rfl ?_
        exact ReqEnd.err HE.out HG.out (below_setRow HB.out (Nat.le_refl _) _) 19 rfl
    | some f =>
      rw [hf] at hl1 hl2
      have Hlk := hide (show ((findN c.toNat formsE 0).map Prod.snd).getD (.agg zf) = .agg (formCells f) by rw [hl1]; rfl)
      have Hok := hide (show (findN c.toNat formsE 0).isSome = true from hl2)
      have HE := hide (show reqErr (c :: t) = lenErr t f by simp only [reqErr, hf])
      have HG := hide (show reqGot (c :: t) = if lenErr t f = 0 then parsed c t f else zeroQ by simp only [reqGot, hf])
      obtain ⟨f1, f2, f3, f4⟩ := formOf_small hf
      clear hl1 hl2 hf hr0
      go_enter Tryz.func66, Tryz.ntmps66
      go_wp2_with fail
      refine wp_region_store 9 [(fun v X => ∃ m, v = .map (some m) ∧ (mapB m formsE).on X), isV (.slice (some ⟨bg, bo, Option.none⟩) (t.length + 1) cap), isV (.pointer (some ⟨bg, bo, Option.none⟩)), isV (vb c), isV (.tuple #[.agg (formCells f), .bool true]), isV (.tuple #[.agg (formCells f), .bool true]), isV (.agg (formCells f)), isV (.bool true), (fun v X => ∃ g, v = .pointer (some ⟨g, 0, Option.none⟩) ∧ w.heap.size + 1 ≤ g ∧ (blk g (.cells zf 140 (0, 0)) * (blk w.heap.size (.cells zq 117 (0, 0)) * all w)).on X), (fun _ _ => True), isV (.bool true)]
        [(fun _ _ => True), isV (.slice (some ⟨bg, bo, Option.none⟩) (t.length + 1) cap), isV (.pointer (some ⟨bg, bo, Option.none⟩)), isV (vb c), isV (.tuple #[.agg (formCells f), .bool true]), isV (.tuple #[.agg (formCells f), .bool true]), isV (.agg (formCells f)), isV (.bool true), (fun v X => ∃ g, v = .pointer (some ⟨g, 0, Option.none⟩) ∧ w.heap.size + 1 ≤ g ∧ (blk g (.cells (formCells f) 140 (0, 0)) * (blk w.heap.size (.cells zq 117 (0, 0)) * all w)).on X), (fun _ _ => True), isV (.bool true)] _ rfl (by kernel_rfl) (by kernel_rfl) rfl rfl (by decide) (.inr rfl) ?keep ?keep2 ?store ?todo ?rest
      case keep => exact ⟨fun _ _ _ ⟨m, h1, h2⟩ k => ⟨m, h1, SP.on.below h2 k⟩, Keep.isV _, Keep.isV _, Keep.isV _, Keep.isV _, Keep.isV _, Keep.isV _, Keep.isV _, fun _ _ _ ⟨g, h0, h1, h2⟩ k => ⟨g, h0, h1, SP.on.below h2 k⟩, fun _ _ _ h _ => h, Keep.isV _, trivial⟩
      case keep2 => exact ⟨fun _ _ _ h _ => h, Keep.isV _, Keep.isV _, Keep.isV _, Keep.isV _, Keep.isV _, Keep.isV _, Keep.isV _, fun _ _ _ ⟨g, h0, h1, h2⟩ k => ⟨g, h0, h1, SP.on.below h2 k⟩, fun _ _ _ h _ => h, Keep.isV _, trivial⟩
      case store =>
        intro ev X hT0 hb hk hf
        have hT := Stay.undrew hT0
        obtain ⟨g, e0, hge, hg⟩ : ∃ g, ev (.tmp 4) = .pointer (some ⟨g, 0, Option.none⟩) ∧ w.heap.size + 1 ≤ g ∧ (blk g (.cells zf 140 (0, 0)) * (blk w.heap.size (.cells zq 117 (0, 0)) * all w)).on X := hf.1
        have e1 : ev (.tmp 20) = .agg (formCells f) := hf.2.1
        refine OpOk.store_row _ _ _ rfl g (formCells f) e0 e1 _ zf (on_blk_mul hg) hsf (zf_size _) (zf_one _) ⟨below_setRow hT0 (by simpa using hge) _, ?_⟩
        intro i his hv
        match i, his, hv with
        | 0, _, hv => exact trivial
        | 1, _, hv => exact hv
        | 2, _, hv => exact hv
        | 3, _, hv => exact hv
        | 4, _, hv => exact hv
        | 5, _, hv => exact hv
        | 6, _, hv => exact hv
        | 7, _, hv => exact hv
        | 8, _, hv =>
          obtain ⟨g', e0', hge', hg'⟩ : ∃ g, ev (.tmp 4) = .pointer (some ⟨g, 0, Option.none⟩) ∧ w.heap.size + 1 ≤ g ∧ (blk g (.cells zf 140 (0, 0)) * (blk w.heap.size (.cells zq 117 (0, 0)) * all w)).on X := hv
          rw [e0] at e0'
          cases e0'
          exact ⟨g, e0, hge, hg.setRow (formCells f)⟩
        | 9, h, _ => exact absurd rfl h
        | 10, _, hv => exact hv
        | n + 11, _, _ => exact trivial
      case todo =>
        refine ⟨?_, ?_, ?_, ?_, ?_, ?_, ?_, ?_, ?_, ?_, ?_, trivial⟩
        · intro _ ph h1 h2
          obtain rfl : ph = false := h2 (by kernel_rfl)
          intro ev X hT0 hb hk hf
          have hT := Stay.undrew hT0
          refine OpOk.enters (f := 75) (args := #[]) (W' := X) (by simp [execOp, resolve, invoke, hb.2.1, go_sem]) ((forms_any X).mono ?_)
          rintro e X2 ⟨m, rfl, h3, h4⟩
          exact ⟨_, rfl, ⟨m, rfl, h3.left⟩, all_below h3.right h4⟩
        · intro _ ph h1 h2
          obtain rfl : ph = false := h2 (by kernel_rfl)
          intro ev X hT0 hb hk hf
          have hT := Stay.undrew hT0
          have e0 : ev (.tmp 0) = .slice (some ⟨bg, bo, Option.none⟩) (t.length + 1) cap := hk.1
          exact OpOk.move rfl e0 ⟨rfl, Stay.refl _⟩
        · intro _ ph h1 h2
          obtain rfl : ph = false := h2 (by kernel_rfl)
          intro ev X hT0 hb hk hf
          have hT := Stay.undrew hT0
          have e0 : ev (.tmp 16) = .slice (some ⟨bg, bo, Option.none⟩) (t.length + 1) cap := hf.1
          exact OpOk.run (v := .pointer (some ⟨bg, bo, Option.none⟩)) (W' := X) (by simp [execOp, e0, hb.1, go_sem]) ⟨rfl, Stay.refl _⟩
        · intro _ ph h1 h2
          obtain rfl : ph = false := h2 (by kernel_rfl)
          intro ev X hT0 hb hk hf
          have hT := Stay.undrew hT0
          have e0 : ev (.tmp 17) = .pointer (some ⟨bg, bo, Option.none⟩) := hf.1
          have cW := C0.out X hT
          exact OpOk.run (v := vb c) (W' := X) (by simp [execOp, e0, cW, go_sem]) ⟨rfl, Stay.refl _⟩
        · intro _ ph h1 h2
          obtain rfl : ph = false := h2 (by kernel_rfl)
          intro ev X hT0 hb hk hf
          have hT := Stay.undrew hT0
          have e0 := hf.1
          have e1 : ev (.tmp 18) = vb c := hf.2.1
          obtain ⟨m, em0, hm⟩ := e0
          have em : ev (.tmp 15) = .map (some m) := em0
          have hl := run_lookup_sp (P := Tryz.prog) (w := X) _ _ _ htm hk8 (.agg zf) (hz X) m formsE hm c.toNat true
          rw [Hlk.out, Hok.out] at hl
          exact OpOk.run (v := .tuple #[.agg (formCells f), .bool true]) (W' := X) (by simp only [if_true] at hl; simp [execOp, em, e1, hl, go_sem]) ⟨rfl, Stay.refl _⟩
        · intro _ ph h1 h2
          obtain rfl : ph = false := h2 (by kernel_rfl)
          intro ev X hT0 hb hk hf
          have hT := Stay.undrew hT0
          have e0 : ev (.tmp 19) = .tuple #[.agg (formCells f), .bool true] := hf.1
          exact OpOk.move rfl e0 ⟨rfl, Stay.refl _⟩
        · intro _ ph h1 h2
          obtain rfl : ph = false := h2 (by kernel_rfl)
          intro ev X hT0 hb hk hf
          have hT := Stay.undrew hT0
          have e0 : ev (.tmp 14) = .tuple #[.agg (formCells f), .bool true] := hf.1
          exact OpOk.run (v := .agg (formCells f)) (W' := X) (by simp [execOp, e0, hb.1, go_sem]) ⟨rfl, Stay.refl _⟩
        · intro _ ph h1 h2
          cases ph
          all_goals
            intro ev X hT0 hb hk hf
            have hT := Stay.undrew hT0
            have e0 : ev (.tmp 14) = .tuple #[.agg (formCells f), .bool true] := hf.1
            exact OpOk.run (v := .bool true) (W' := X) (by simp [execOp, e0, hb.1, go_sem]) ⟨rfl, Stay.refl _⟩
        · intro _ ph h1 h2
          obtain rfl : ph = false := h2 (by kernel_rfl)
          intro ev X hT0 hb hk hf
          have hT := Stay.undrew hT0
          exact OpOk.run (v := .pointer (some ⟨X.heap.size, 0, Option.none⟩)) (W' := X.alloc (.cells zf 140)) (by simp [execOp, go_sem]) ⟨⟨_, rfl, by have := hT.size; simp at this; omega, (H0.out.below hT).alloc _⟩, (Below.refl _ _).alloc (Nat.le_refl _) _⟩
        · exact fun h => absurd rfl h
        · intro _ ph h1 h2
          obtain rfl : ph = true := h1 (by kernel_rfl)
          intro ev X hT0 hb hk hf
          have hT := Stay.undrew hT0
          have e0 : ev (.tmp 21) = .bool true := hf.1
          exact OpOk.assign rfl e0 ⟨rfl, Stay.refl _⟩
      case rest =>
        intro X hT
        rintro v0 - _ rfl _ rfl _ rfl _ rfl _ rfl _ rfl _ rfl _ ⟨g, rfl, hge, hg⟩ v9 - _ rfl
        have hr2 := on_blk_mul hg.right
        have hF := on_blk_mul hg
        have HB := hide (Below.trans alloc1 (hT.mono (by simp)))
        obtain ⟨K, S, Lm, M⟩ := f
        obtain ⟨k0, k1, k2, k3⟩ := formBox hF
        simp only at f1 f2 f3 f4
        have cX := C0.out X hT
        have Hg := hide hg
        have HsX := hide (Hs0.out.trans (Str.below hT))
        clear hF hg hT htm hk8 hz
        by_cases hlo : t.length < K + S + Lm
        · have HE1 := hide (show reqErr (c :: t) = 18 by rw [HE.out, lenErr, if_pos hlo])
          have HG1 := hide (show reqGot (c :: t) = zeroQ by rw [HG.out, lenErr, if_pos hlo, if_neg (by decide)])
          clear HE HG
          go_wp2
          refine Rest.done ?_
          go_wp2_with (refine wpList_store_row rfl _ _ _ rfl w.heap.size zq rfl rfl _ _ hr2 hsq rfl zq_one ?_)
          refine bodyPost_ret (v := .tuple #[.agg zq, .int .i64 18]) (results_cell_row_tmp Tryz.results66 _ _ w.heap.size _ zq (0, 0) _ rfl (setRow_heap_same _ _ _ _ _ _ hr2) huq rfl hsq (.int .i64 18) rfl) rfl ?_
          exact ReqEnd.err HE1.out HG1.out (below_setRow HB.out (Nat.le_refl _) _) 18 rfl
        · by_cases hhi : K + S + M < t.length
          · have HE1 := hide (show reqErr (c :: t) = 17 by rw [HE.out, lenErr, if_neg hlo, if_pos hhi])
            have HG1 := hide (show reqGot (c :: t) = zeroQ by rw [HG.out, lenErr, if_neg hlo, if_pos hhi, if_neg (by decide)])
            clear HE HG
            go_wp2
            refine Rest.done ?_
            go_wp2_with (refine wpList_store_row rfl _ _ _ rfl w.heap.size zq rfl rfl _ _ hr2 hsq rfl zq_one ?_)
            refine bodyPost_ret (v := .tuple #[.agg zq, .int .i64 17]) (results_cell_row_tmp Tryz.results66 _ _ w.heap.size _ zq (0, 0) _ rfl (setRow_heap_same _ _ _ _ _ _ hr2) huq rfl hsq (.int .i64 17) rfl) rfl ?_
            exact ReqEnd.err HE1.out HG1.out (below_setRow HB.out (Nat.le_refl _) _) 17 rfl
          · have HE1 := hide (show reqErr (c :: t) = 0 by rw [HE.out, lenErr, if_neg hlo, if_neg hhi])
            have HG1 := hide (show reqGot (c :: t) = parsed c t ⟨K, S, Lm, M⟩ by rw [HG.out, lenErr, if_neg hlo, if_neg hhi, if_pos rfl])
            clear HE HG
            have hu := Tryz.underlying22
            have h7 := (Hg.out.alloc (.cells zq 117)).setRow #[vb c, .int .u8 0, .int .u32 0, nilV]
            have hs7 := (HsX.out.alloc (.cells zq 117)).setRow X.heap.size #[vb c, .int .u8 0, .int .u32 0, nilV]
            have hr7 := heap_alloc_new X (.cells zq 117)
            generalize hW7 : (X.alloc (.cells zq 117)).setRow X.heap.size #[vb c, .int .u8 0, .int .u32 0, nilV] = w7 at *
            have HW7 := hide hW7
            have H7 := hide h7
            have Hs7 := hide hs7
            have hrq : (#[vb c, .int .u8 0, .int .u32 0, nilV] : Array Value).all (·.oneCell') = true := by simp [Value.oneCell', vb]
            obtain ⟨k0', k1', _, _⟩ := formBox (on_blk_mul h7.right)
            have hbw := Hb.out.below (all_below h7.right.right.right hs7)
            clear hW7 h7 hs7 Hg
            rcases (show K = 0 ∨ K = 1 by omega) with hK | hK
            all_goals subst hK
            · have H8 := hide (show (blk X.heap.size (.cells (rq c (vb 0) (numS t 0 0) nilV) 117 (0, 0)) * (blk g (.cells (formCells ⟨0, S, Lm, M⟩) 140 (0, 0)) * (blk w.heap.size (.cells zq 117 (0, 0)) * all w))).on w7 by rw [show rq c (vb 0) (numS t 0 0) nilV = #[vb c, .int .u8 0, .int .u32 0, nilV] from by simp [rq, vb, numS]]; exact H7.out)
              have Hs8 := Hs7
              go_wp2
              refine Rest.done ?_
              go_wp2_with (first
                | (refine wpList_store_row rfl _ _ _ rfl X.heap.size #[vb c, .int .u8 0, .int .u32 0, nilV] rfl rfl _ _ hr7 hsq rfl hrq ?_; rw [HW7.out])
                | (refine wpList_slice_from rfl _ _ _ _ rfl hu infoR v8 t rfl 0 rfl (Hv8.out _ hbw) (by simp) ?_; intro v9 hv9; have Hv9 : Hid (∀ w', IsBytes w' (.slice (some ⟨bg, bo, Option.none⟩) (t.length + 1) cap) (c :: t) → IsBytes w' v9 (t.drop 0)) := hide fun w' h => hv9 w' (Hv8.out w' h); clear hv9)
                | (refine wpList_slice_from rfl _ _ _ _ rfl hu infoR (.slice (some ⟨bg, bo, Option.none⟩) (t.length + 1) cap) (c :: t) rfl 1 rfl hbw (by simp) ?_; intro v8 hv8; have Hv8 : Hid (∀ w', IsBytes w' (.slice (some ⟨bg, bo, Option.none⟩) (t.length + 1) cap) (c :: t) → IsBytes w' v8 t) := hide hv8; clear hv8))
              generalize hr : t.drop 0 = r at *
              have Hr := hide hr
              have hrl : r.length = t.length - 0 := by rw [← hr, List.length_drop]
              clear hr
              obtain ⟨ra, rc, e9, hrc, hrm, _, _⟩ := Hv9.out _ (Hb.out.below (all_below H8.out.right.right.right Hs8.out))
              subst e9
              unfold maxLen at hrm
              have hSr : S ≤ r.length := by omega
              have Hrl := hide hrl
              clear hrl
              go_loopw [63] (fun i wr => ∃ k : Nat, k ≤ S ∧ i = .int .i64 k ∧ (blk X.heap.size (.cells (rq c (vb 0) (numS r 0 k) nilV) 117 (0, 0)) * (blk g (.cells (formCells ⟨0, S, Lm, M⟩) 140 (0, 0)) * (blk w.heap.size (.cells zq 117 (0, 0)) * all w))).on wr ∧ Str w wr) (fun i _ => S - (intOf i).toNat)
              case atStart => exact ⟨0, by omega, rfl, H8.out, Hs8.out⟩
              case round =>
                obtain ⟨k, hk, rfl, hw, hstr⟩ := hrel
                have hbr := Hv9.out _ (Hb.out.below (all_below hw.right.right.right hstr))
                by_cases hlt : k < S
                · have hkr : k < r.length := by omega
                  obtain ⟨_, _, e9, _, _, hl9, _⟩ := hbr
                  simp only [Value.slice.injEq] at e9
                  obtain ⟨e91, _, e92⟩ := e9
                  subst e91 e92
                  obtain ⟨rg, ro, rfl⟩ := hl9.isAddr k (by simpa using hkr)
                  have c1 := Lay.cell hl9 k (vbs_get r k hkr)
                  have hx : r[k]'hkr = r.getD (0 + k) 0 := by rw [Nat.zero_add, List.getD_eq_getElem?_getD, List.getElem?_eq_getElem hkr]; rfl
                  rw [hx] at c1
                  have HS := hide (show numS r 0 (k + 1) = numS r 0 k + (r.getD (0 + k) 0).toNat * 2 ^ (8 * k) from rfl)
                  have hql := numS_lt r 0 k
                  have c2 : wr.cell? ⟨X.heap.size, 2, Option.none⟩ = some (u32v (numS r 0 k)) := cell_of_row _ _ 2 _ _ _ (on_blk_mul hw)
                  generalize r.getD (0 + k) 0 = x at *
                  have hxl := UInt8.toNat_lt x
                  have Hw := hide hw
                  have Hstr := hide hstr
                  have Cx : Hid (∀ X', Stay wr X' → X'.cell? ⟨rg, ro + k, Option.none⟩ = some (vb x)) := hide fun X' hT => (hT.cell (p := ⟨rg, ro + k, Option.none⟩) (World.block_lt_of_cell? wr _ c1)).trans c1
                  have Cq : Hid (∀ X', Stay wr X' → X'.cell? ⟨X.heap.size, 2, Option.none⟩ = some (u32v (numS r 0 k))) := hide fun X' hT => (hT.cell (p := ⟨X.heap.size, 2, Option.none⟩) (World.block_lt_of_cell? wr _ c2)).trans c2
                  clear hx c1 c2 hl9 hw hstr
                  have hk4 : k < 4 := by omega
                  have hk2 := pow8_le k hk4
                  generalize hq : numS r 0 k = q at *
                  have Hq := hide hq
                  clear hq
                  have hor : q ||| x.toNat * 2 ^ (8 * k) = q + x.toNat * 2 ^ (8 * k) := by
                    rw [Nat.or_comm, ← Nat.shiftLeft_eq, ← Nat.shiftLeft_add_eq_or_of_lt hql, Nat.add_comm]
                  have hmul : x.toNat * 2 ^ (8 * k) ≤ 255 * 16777216 := Nat.mul_le_mul (by omega) hk2
                  have q1 : IntKind.i64.wrap (8 * (k : Int)) = 8 * (k : Int) := IntWalk.i64_in _ (by omega)
                  have q2 : (k : Int) < (r.length : Int) := by omega
                  have q3 : (0 : Int) ≤ (k : Int) := by omega
                  have q4 : (8 * (k : Int)).toNat = 8 * k := by omega
                  have q5 : IntKind.u32.wrap (x.toNat : Int) = (x.toNat : Int) := IntWalk.u32_in _ (by omega)
                  have qc : ((x.toNat : Nat) : Int) * 2 ^ (8 * k) = ((x.toNat * 2 ^ (8 * k) : Nat) : Int) := by simp
                  have q6 : IntKind.u32.wrap (((x.toNat : Nat) : Int) * 2 ^ (8 * k)) = ((x.toNat : Nat) : Int) * 2 ^ (8 * k) := by
                    rw [qc]
                    generalize x.toNat * 2 ^ (8 * k) = m at hmul
                    exact IntWalk.u32_in _ (by omega)
                  have q7 : bits .or .u32 (q : Int) (((x.toNat : Nat) : Int) * 2 ^ (8 * k)) = (q : Int) + ((x.toNat : Nat) : Int) * 2 ^ (8 * k) := by
                    have hq32 : q < 4294967296 := Nat.lt_of_lt_of_le hql (Nat.le_trans hk2 (by decide))
                    rw [qc, u32_or_nat _ _ (by omega) (by generalize x.toNat * 2 ^ (8 * k) = m at hmul; omega), hor]
                    simp
                  clear qc hor
                  go_wp2_with fail
                  refine wp_region_tail 11 [isV (.pointer (some ⟨X.heap.size, 2, Option.none⟩)), isV (u32v q), isV (.slice (some ⟨rg, ro, Option.none⟩) r.length rc), isV (.int .i64 (k : Nat)), isV (.pointer (some ⟨rg, ro + k, Option.none⟩)), isV (vb x), isV (u32v x.toNat), isV (.int .i64 (k : Nat)), isV (.int .i64 ((8 * k : Nat) : Int)), isV (u32v (x.toNat * 2 ^ (8 * k))), isV (u32v (q + x.toNat * 2 ^ (8 * k)))]
                    (by simp only [List.take_succ_cons, List.take_zero]; rfl) (by simp only [List.drop_succ_cons, List.drop_zero]; rfl) (by kernel_rfl) (by kernel_rfl) (by kernel_rfl) (by decide) rfl ?keep ?todo ?rest
                  case keep => exact ⟨Keep.isV _, Keep.isV _, Keep.isV _, Keep.isV _, Keep.isV _, Keep.isV _, Keep.isV _, Keep.isV _, Keep.isV _, Keep.isV _, Keep.isV _, trivial⟩
                  case todo =>
                    refine ⟨?_, ?_, ?_, ?_, ?_, ?_, ?_, ?_, ?_, ?_, ?_, trivial⟩
                    · intro ev X' hT hb hk hf
                      have e0 : ev (.tmp 7) = .pointer (some ⟨X.heap.size, 0, Option.none⟩) := hk.1
                      exact OpOk.run (v := .pointer (some ⟨X.heap.size, 2, Option.none⟩)) (W' := X') (by simp [execOp, e0, hb.1, q1, q2, q3, q4, q5, q6, q7, go_sem]) ⟨rfl, Stay.refl _⟩
                    · intro ev X' hT hb hk hf
                      have e0 : ev (.tmp 66) = .pointer (some ⟨X.heap.size, 2, Option.none⟩) := hf.1
                      have cW := Cq.out X' hT
                      exact OpOk.run (v := u32v q) (W' := X') (by simp [execOp, e0, cW, go_sem]) ⟨rfl, Stay.refl _⟩
                    · intro ev X' hT hb hk hf
                      have e0 : ev (.tmp 8) = .slice (some ⟨rg, ro, Option.none⟩) r.length rc := hk.1
                      exact OpOk.move rfl e0 ⟨rfl, Stay.refl _⟩
                    · intro ev X' hT hb hk hf
                      have e0 : ev (.tmp 9) = .int .i64 (k : Nat) := hk.1
                      exact OpOk.move rfl e0 ⟨rfl, Stay.refl _⟩
                    · intro ev X' hT hb hk hf
                      have e0 : ev (.tmp 68) = .slice (some ⟨rg, ro, Option.none⟩) r.length rc := hf.1
                      have e1 : ev (.tmp 69) = .int .i64 (k : Nat) := hf.2.1
                      exact OpOk.run (v := .pointer (some ⟨rg, ro + k, Option.none⟩)) (W' := X') (by simp [execOp, e0, e1, hb.1, q1, q2, q3, q4, q5, q6, q7, go_sem]) ⟨rfl, Stay.refl _⟩
                    · intro ev X' hT hb hk hf
                      have e0 : ev (.tmp 70) = .pointer (some ⟨rg, ro + k, Option.none⟩) := hf.1
                      have cW := Cx.out X' hT
                      exact OpOk.run (v := vb x) (W' := X') (by simp [execOp, e0, cW, go_sem]) ⟨rfl, Stay.refl _⟩
                    · intro ev X' hT hb hk hf
                      have e0 : ev (.tmp 71) = vb x := hf.1
                      exact OpOk.run (v := u32v x.toNat) (W' := X') (by simp [execOp, e0, hb.1, q1, q2, q3, q4, q5, q6, q7, go_sem]) ⟨rfl, Stay.refl _⟩
                    · intro ev X' hT hb hk hf
                      have e0 : ev (.tmp 9) = .int .i64 (k : Nat) := hk.1
                      exact OpOk.move rfl e0 ⟨rfl, Stay.refl _⟩
                    · intro ev X' hT hb hk hf
                      have e0 : ev (.tmp 73) = .int .i64 (k : Nat) := hf.1
                      exact OpOk.run (v := .int .i64 ((8 * k : Nat) : Int)) (W' := X') (by simp [execOp, e0, hb.1, q1, q2, q3, q4, q5, q6, q7, go_sem]) ⟨rfl, Stay.refl _⟩
                    · intro ev X' hT hb hk hf
                      have e0 : ev (.tmp 72) = u32v x.toNat := hf.1
                      have e1 : ev (.tmp 74) = .int .i64 ((8 * k : Nat) : Int) := hf.2.1
                      exact OpOk.run (v := u32v (x.toNat * 2 ^ (8 * k))) (W' := X') (by simp [execOp, e0, e1, hb.1, q1, q2, q3, q4, q5, q6, q7, go_sem]) ⟨rfl, Stay.refl _⟩
                    · intro ev X' hT hb hk hf
                      have e0 : ev (.tmp 67) = u32v q := hf.1
                      have e1 : ev (.tmp 75) = u32v (x.toNat * 2 ^ (8 * k)) := hf.2.1
                      exact OpOk.run (v := u32v (q + x.toNat * 2 ^ (8 * k))) (W' := X') (by simp [execOp, e0, e1, hb.1, q1, q2, q3, q4, q5, q6, q7, go_sem]) ⟨rfl, Stay.refl _⟩
                  case rest =>
                    intro X' hT
                    rintro _ rfl _ rfl _ rfl _ rfl _ rfl _ rfl _ rfl _ rfl _ rfl _ rfl _ rfl
                    have hw' := Hw.out.below hT
                    have fr := frozen_of_row _ _ 2 _ _ (on_blk_mul hw')
                    have cc := Cq.out X' hT
                    have Hst := hide (SP.on.setCell (i := 2) hw' (u32v (q + x.toNat * 2 ^ (8 * k))))
                    have Hs' := hide ((Hstr.out.trans (Str.below hT)).setCell ⟨X.heap.size, 2, Option.none⟩ (u32v (q + x.toNat * 2 ^ (8 * k))))
                    clear hw' hT Cx Cq
                    go_wp2
                    refine Rest.done ?_
                    go_wp2_with fail
                    exact ⟨⟨k + 1, by omega, by simp, by rw [HS.out]; exact Hst.out, Hs'.out⟩, by simp [intOf]; omega⟩
                · obtain rfl : k = S := by omega
                  have hbr2 := hide hbr
                  obtain ⟨_, kS, _, _⟩ := formBox (on_blk_mul hw.right)
                  have c3 : wr.cell? ⟨X.heap.size, 3, Option.none⟩ = some nilV := cell_of_row _ _ 3 _ _ _ (on_blk_mul hw)
                  have C3 : Hid (∀ X', Stay wr X' → X'.cell? ⟨X.heap.size, 3, Option.none⟩ = some nilV) := hide fun X' hT => (hT.cell (p := ⟨X.heap.size, 3, Option.none⟩) (World.block_lt_of_cell? wr _ c3)).trans c3
                  have CS : Hid (∀ X', Stay wr X' → X'.cell? ⟨g, 1, Option.none⟩ = some (iv k)) := hide fun X' hT => (hT.cell (p := ⟨g, 1, Option.none⟩) (World.block_lt_of_cell? wr _ kS)).trans kS
                  have Hw := hide hw
                  have Hstr := hide hstr
                  clear hbr c3 hw hstr hlt kS
                  go_wp2_with fail
                  refine wp_region_tail 6 [isV (.pointer (some ⟨X.heap.size, 3, Option.none⟩)), isV (nilV), isV (.slice ra r.length rc), isV (.pointer (some ⟨g, 1, Option.none⟩)), isV (iv k), fun v X' => IsBytes X' v (r.drop k)]
                    (by simp only [List.take_succ_cons, List.take_zero]; rfl) (by simp only [List.drop_succ_cons, List.drop_zero]; rfl) (by kernel_rfl) (by kernel_rfl) (by kernel_rfl) (by decide) rfl ?keep ?todo ?rest
                  case keep => exact ⟨Keep.isV _, Keep.isV _, Keep.isV _, Keep.isV _, Keep.isV _, fun _ _ _ h k => IsBytes.below h k, trivial⟩
                  case todo =>
                    refine ⟨?_, ?_, ?_, ?_, ?_, ?_, trivial⟩
                    · intro ev X' hT hb hk hf
                      have e0 : ev (.tmp 7) = .pointer (some ⟨X.heap.size, 0, Option.none⟩) := hk.1
                      exact OpOk.run (v := .pointer (some ⟨X.heap.size, 3, Option.none⟩)) (W' := X') (by simp [execOp, e0, hb.1, go_sem]) ⟨rfl, Stay.refl _⟩
                    · intro ev X' hT hb hk hf
                      have e0 : ev (.tmp 79) = .pointer (some ⟨X.heap.size, 3, Option.none⟩) := hf.1
                      have cW := C3.out X' hT
                      exact OpOk.run (v := nilV) (W' := X') (by simp [execOp, e0, cW, go_sem]) ⟨rfl, Stay.refl _⟩
                    · intro ev X' hT hb hk hf
                      have e0 : ev (.tmp 8) = .slice ra r.length rc := hk.1
                      exact OpOk.move rfl e0 ⟨rfl, Stay.refl _⟩
                    · intro ev X' hT hb hk hf
                      have e0 : ev (.tmp 4) = .pointer (some ⟨g, 0, Option.none⟩) := hk.1
                      exact OpOk.run (v := .pointer (some ⟨g, 1, Option.none⟩)) (W' := X') (by simp [execOp, e0, hb.1, go_sem]) ⟨rfl, Stay.refl _⟩
                    · intro ev X' hT hb hk hf
                      have e0 : ev (.tmp 82) = .pointer (some ⟨g, 1, Option.none⟩) := hf.1
                      have cW := CS.out X' hT
                      exact OpOk.run (v := iv k) (W' := X') (by simp [execOp, e0, cW, go_sem]) ⟨rfl, Stay.refl _⟩
                    · intro ev X' hT hb hk hf
                      have e0 : ev (.tmp 81) = .slice ra r.length rc := hf.1
                      have e1 : ev (.tmp 83) = iv k := hf.2.1
                      have hbX := hbr2.out.below hT
                      obtain ⟨v', hrun, hv'⟩ := run_slice_from (P := Tryz.prog) hbX k hSr _ _ hu infoR
                      exact OpOk.run (v := v') (W' := X') (by simp [execOp, e0, e1, hrun]) ⟨hv' _ hbX, Stay.refl _⟩
                  case rest =>
                    intro X2 hT
                    rintro _ rfl _ rfl _ rfl _ rfl _ rfl v5 h5
                    have hw2 := Hw.out.below hT
                    have Hown := hide (own_nil 5 1 hw2)
                    have Hs2 := hide (Hstr.out.trans (Str.below hT))
                    have H5 := hide (show IsBytes X2 v5 (r.drop k) from h5)
                    have hln : (r.drop k).length = r.length - k := List.length_drop ..
                    have Hn2 := hide (show r.drop k = t.drop (0 + k) by rw [← Hr.out, List.drop_drop])
                    have Hq2 := hide (show numS r 0 k = numS t 0 k by rw [← Hr.out, numS_drop])
                    have hrlen : r.length ≤ 1000000 := by have := Hrl.out; omega
                    have hnl : (r.drop k).length ≤ 1000000 := by omega
                    generalize r.drop k = news at *
                    generalize numS r 0 k = q at *
                    clear hT C3 CS hln hrlen h5 hw2
                    go_wp2
                    refine Rest.done ?_
                    go_wp2_with (first
                      | (at_builtin; refine wpList_append_bytes (F := blk X.heap.size (.cells (rq c (vb 0) q nilV) 117 (0, 0)) * (blk g (.cells (formCells ⟨0, k, Lm, M⟩) 140 (0, 0)) * (blk w.heap.size (.cells zq 117 (0, 0)) * all w))) rfl _ _ 22 rfl 5 hu infoR _ [] news rfl Hown.out _ rfl H5.out (by simp; omega) ?_; intro v6 w6 ho hs; rw [List.nil_append] at ho; obtain ⟨oa, oc, rfl, _, _, _, _⟩ := own_value ho; have Hst6 := hide ((Hs2.out.trans hs).setCell ⟨X.heap.size, 3, Option.none⟩ (.slice oa news.length oc)); have fr := frozen_of_row _ _ 3 _ _ (on_blk_mul ho.right); have cc := cell_of_row _ _ 3 _ _ _ (on_blk_mul ho.right); have ho2 := ho; rw [SP.mul_left_comm] at ho2; have h3 := SP.on.setCell (i := 3) ho2 (.slice oa news.length oc); have h4 : (blk X.heap.size (.cells (rq c (vb 0) q (.slice oa news.length oc)) 117 (0, 0)) * (ownR (.slice oa news.length oc) news * (blk g (.cells (formCells ⟨0, k, Lm, M⟩) 140 (0, 0)) * (blk w.heap.size (.cells zq 117 (0, 0)) * all w)))).on (w6.setCell ⟨X.heap.size, 3, Option.none⟩ (.slice oa news.length oc)) := h3; have hg7 := on_blk_mul h4; have h5 := h4.right; rw [SP.mul_left_comm (blk g _)] at h5; rw [SP.mul_left_comm] at h5; have h2 := on_blk_mul h5; have H5' := hide h5; clear ho hs ho2 h3 h4 h5)
                      | (refine wpList_load_row rfl _ _ rfl X.heap.size rfl _ (rq c (vb 0) q _) _ _ hg7 huq rfl hsq ?_)
                      | (refine wpList_store_row rfl _ _ _ rfl w.heap.size (rq c (vb 0) q _) rfl rfl _ _ h2 hsq (rq_size _ _ _ _) (rq_one _ _ _ _ _ _) ?_))
                    refine bodyPost_ret (v := .tuple #[.agg (rq c (vb 0) q (.slice oa news.length oc)), .int .i64 0]) (results_cell_row_tmp Tryz.results66 _ _ w.heap.size _ (rq c (vb 0) q _) (0, 0) _ rfl (setRow_heap_same _ _ _ _ _ _ h2) huq rfl hsq (.int .i64 0) rfl) rfl ?_
                    refine ⟨.slice oa news.length oc, ?_, ?_, Hst6.out.setRow _ _⟩
                    · rw [HG1.out, HE1.out]
                      simp only [parsed, reqCells, rq, if_true, ← Hq2.out]
                      rfl
                    · rw [HG1.out]
                      have hdat : (parsed c t ⟨0, k, Lm, M⟩).data = news := Hn2.out.symm
                      rw [hdat]
                      have h6 := (H5'.out.setRow (rq c (vb 0) q (.slice oa news.length oc))).right
                      exact (SP.le.mul (SP.le.refl _) (SP.le_right _ _)).on h6
            · have hT1 : 0 < t.length := by omega
              have hty : t[0]'hT1 = t.getD 0 0 := by rw [List.getD_eq_getElem?_getD, List.getElem?_eq_getElem hT1]; rfl
              have g1 := vbs_get t 0 hT1
              rw [hty] at g1
              generalize hty2 : t.getD 0 0 = ty at *
              have Hty := hide hty2
              have h8 := SP.on.setCell (i := 1) H7.out (vb ty)
              have hs8 := Hs7.out.setCell ⟨X.heap.size, 1, Option.none⟩ (vb ty)
              have H8 := hide (show (blk X.heap.size (.cells (rq c (vb ty) (numS t 1 0) nilV) 117 (0, 0)) * (blk g (.cells (formCells ⟨1, S, Lm, M⟩) 140 (0, 0)) * (blk w.heap.size (.cells zq 117 (0, 0)) * all w))).on (w7.setCell ⟨X.heap.size, 1, Option.none⟩ (vb ty)) from h8)
              have Hs8 := hide hs8
              have fr7 := frozen_of_row _ _ 1 _ _ (on_blk_mul H7.out)
              have cc7 : w7.cell? ⟨X.heap.size, 1, Option.none⟩ = some (.int .u8 0) := cell_of_row _ _ 1 _ _ _ (on_blk_mul H7.out)
              obtain ⟨k0'', k1'', _, _⟩ := formBox (on_blk_mul h8.right)
              have hbw8 := Hb.out.below (all_below h8.right.right.right hs8)
              clear hty hty2 h8 hs8
              go_wp2
              refine Rest.done ?_
              go_wp2_with (first
                | (refine wpList_store_row rfl _ _ _ rfl X.heap.size #[vb c, .int .u8 0, .int .u32 0, nilV] rfl rfl _ _ hr7 hsq rfl hrq ?_; rw [HW7.out])
                | (refine wpList_slice_from rfl _ _ _ _ rfl hu infoR (.slice (some ⟨rg, ro, Option.none⟩) t.length rc8) t rfl 1 rfl (Hv8.out _ hbw8) (by omega) ?_; intro v9 hv9; have Hv9 : Hid (∀ w', IsBytes w' (.slice (some ⟨bg, bo, Option.none⟩) (t.length + 1) cap) (c :: t) → IsBytes w' v9 (t.drop 1)) := hide fun w' h => hv9 w' (Hv8.out w' h); clear hv9)
                | (refine wpList_slice_from rfl _ _ _ _ rfl hu infoR (.slice (some ⟨bg, bo, Option.none⟩) (t.length + 1) cap) (c :: t) rfl 1 rfl hbw (by simp) ?_; intro v8 hv8; have Hv8 : Hid (∀ w', IsBytes w' (.slice (some ⟨bg, bo, Option.none⟩) (t.length + 1) cap) (c :: t) → IsBytes w' v8 t) := hide hv8; obtain ⟨ra8, rc8, e8, hrc8, hrm8, hl8, _⟩ := Hv8.out _ hbw; subst e8; obtain ⟨rg, ro, rfl⟩ := hl8.isAddr 0 (by simpa using hT1); have c1 := Lay.cell hl8 0 g1; rw [Nat.add_zero] at c1; clear hv8 hl8))
              generalize hr : t.drop 1 = r at *
              have Hr := hide hr
              have hrl : r.length = t.length - 1 := by rw [← hr, List.length_drop]
              clear hr
              obtain ⟨ra, rc, e9, hrc, hrm, _, _⟩ := Hv9.out _ (Hb.out.below (all_below H8.out.right.right.right Hs8.out))
              subst e9
              unfold maxLen at hrm
              have hSr : S ≤ r.length := by omega
              have Hrl := hide hrl
              clear hrl
              go_loopw [63] (fun i wr => ∃ k : Nat, k ≤ S ∧ i = .int .i64 k ∧ (blk X.heap.size (.cells (rq c (vb ty) (numS r 0 k) nilV) 117 (0, 0)) * (blk g (.cells (formCells ⟨1, S, Lm, M⟩) 140 (0, 0)) * (blk w.heap.size (.cells zq 117 (0, 0)) * all w))).on wr ∧ Str w wr) (fun i _ => S - (intOf i).toNat)
              case atStart => exact ⟨0, by omega, rfl, H8.out, Hs8.out⟩
              case round =>
                obtain ⟨k, hk, rfl, hw, hstr⟩ := hrel
                have hbr := Hv9.out _ (Hb.out.below (all_below hw.right.right.right hstr))
                by_cases hlt : k < S
                · have hkr : k < r.length := by omega
                  obtain ⟨_, _, e9, _, _, hl9, _⟩ := hbr
                  simp only [Value.slice.injEq] at e9
                  obtain ⟨e91, _, e92⟩ := e9
                  subst e91 e92
                  obtain ⟨rg, ro, rfl⟩ := hl9.isAddr k (by simpa using hkr)
                  have c1 := Lay.cell hl9 k (vbs_get r k hkr)
                  have hx : r[k]'hkr = r.getD (0 + k) 0 := by rw [Nat.zero_add, List.getD_eq_getElem?_getD, List.getElem?_eq_getElem hkr]; rfl
                  rw [hx] at c1
                  have HS := hide (show numS r 0 (k + 1) = numS r 0 k + (r.getD (0 + k) 0).toNat * 2 ^ (8 * k) from rfl)
                  have hql := numS_lt r 0 k
                  have c2 : wr.cell? ⟨X.heap.size, 2, Option.none⟩ = some (u32v (numS r 0 k)) := cell_of_row _ _ 2 _ _ _ (on_blk_mul hw)
                  generalize r.getD (0 + k) 0 = x at *
                  have hxl := UInt8.toNat_lt x
                  have Hw := hide hw
                  have Hstr := hide hstr
                  have Cx : Hid (∀ X', Stay wr X' → X'.cell? ⟨rg, ro + k, Option.none⟩ = some (vb x)) := hide fun X' hT => (hT.cell (p := ⟨rg, ro + k, Option.none⟩) (World.block_lt_of_cell? wr _ c1)).trans c1
                  have Cq : Hid (∀ X', Stay wr X' → X'.cell? ⟨X.heap.size, 2, Option.none⟩ = some (u32v (numS r 0 k))) := hide fun X' hT => (hT.cell (p := ⟨X.heap.size, 2, Option.none⟩) (World.block_lt_of_cell? wr _ c2)).trans c2
                  clear hx c1 c2 hl9 hw hstr
                  have hk4 : k < 4 := by omega
                  have hk2 := pow8_le k hk4
                  generalize hq : numS r 0 k = q at *
                  have Hq := hide hq
                  clear hq
                  have hor : q ||| x.toNat * 2 ^ (8 * k) = q + x.toNat * 2 ^ (8 * k) := by
                    rw [Nat.or_comm, ← Nat.shiftLeft_eq, ← Nat.shiftLeft_add_eq_or_of_lt hql, Nat.add_comm]
                  have hmul : x.toNat * 2 ^ (8 * k) ≤ 255 * 16777216 := Nat.mul_le_mul (by omega) hk2
                  have q1 : IntKind.i64.wrap (8 * (k : Int)) = 8 * (k : Int) := IntWalk.i64_in _ (by omega)
                  have q2 : (k : Int) < (r.length : Int) := by omega
                  have q3 : (0 : Int) ≤ (k : Int) := by omega
                  have q4 : (8 * (k : Int)).toNat = 8 * k := by omega
                  have q5 : IntKind.u32.wrap (x.toNat : Int) = (x.toNat : Int) := IntWalk.u32_in _ (by omega)
                  have qc : ((x.toNat : Nat) : Int) * 2 ^ (8 * k) = ((x.toNat * 2 ^ (8 * k) : Nat) : Int) := by simp
                  have q6 : IntKind.u32.wrap (((x.toNat : Nat) : Int) * 2 ^ (8 * k)) = ((x.toNat : Nat) : Int) * 2 ^ (8 * k) := by
                    rw [qc]
                    generalize x.toNat * 2 ^ (8 * k) = m at hmul
                    exact IntWalk.u32_in _ (by omega)
                  have q7 : bits .or .u32 (q : Int) (((x.toNat : Nat) : Int) * 2 ^ (8 * k)) = (q : Int) + ((x.toNat : Nat) : Int) * 2 ^ (8 * k) := by
                    have hq32 : q < 4294967296 := Nat.lt_of_lt_of_le hql (Nat.le_trans hk2 (by decide))
                    rw [qc, u32_or_nat _ _ (by omega) (by generalize x.toNat * 2 ^ (8 * k) = m at hmul; omega), hor]
                    simp
                  clear qc hor
                  go_wp2_with fail
                  refine wp_region_tail 11 [isV (.pointer (some ⟨X.heap.size, 2, Option.none⟩)), isV (u32v q), isV (.slice (some ⟨rg, ro, Option.none⟩) r.length rc), isV (.int .i64 (k : Nat)), isV (.pointer (some ⟨rg, ro + k, Option.none⟩)), isV (vb x), isV (u32v x.toNat), isV (.int .i64 (k : Nat)), isV (.int .i64 ((8 * k : Nat) : Int)), isV (u32v (x.toNat * 2 ^ (8 * k))), isV (u32v (q + x.toNat * 2 ^ (8 * k)))]
                    (by simp only [List.take_succ_cons, List.take_zero]; rfl) (by simp only [List.drop_succ_cons, List.drop_zero]; rfl) (by kernel_rfl) (by kernel_rfl) (by kernel_rfl) (by decide) rfl ?keep ?todo ?rest
                  case keep => exact ⟨Keep.isV _, Keep.isV _, Keep.isV _, Keep.isV _, Keep.isV _, Keep.isV _, Keep.isV _, Keep.isV _, Keep.isV _, Keep.isV _, Keep.isV _, trivial⟩
                  case todo =>
                    refine ⟨?_, ?_, ?_, ?_, ?_, ?_, ?_, ?_, ?_, ?_, ?_, trivial⟩
                    · intro ev X' hT hb hk hf
                      have e0 : ev (.tmp 7) = .pointer (some ⟨X.heap.size, 0, Option.none⟩) := hk.1
                      exact OpOk.run (v := .pointer (some ⟨X.heap.size, 2, Option.none⟩)) (W' := X') (by simp [execOp, e0, hb.1, q1, q2, q3, q4, q5, q6, q7, go_sem]) ⟨rfl, Stay.refl _⟩
                    · intro ev X' hT hb hk hf
                      have e0 : ev (.tmp 66) = .pointer (some ⟨X.heap.size, 2, Option.none⟩) := hf.1
                      have cW := Cq.out X' hT
                      exact OpOk.run (v := u32v q) (W' := X') (by simp [execOp, e0, cW, go_sem]) ⟨rfl, Stay.refl _⟩
                    · intro ev X' hT hb hk hf
                      have e0 : ev (.tmp 8) = .slice (some ⟨rg, ro, Option.none⟩) r.length rc := hk.1
                      exact OpOk.move rfl e0 ⟨rfl, Stay.refl _⟩
                    · intro ev X' hT hb hk hf
                      have e0 : ev (.tmp 9) = .int .i64 (k : Nat) := hk.1
                      exact OpOk.move rfl e0 ⟨rfl, Stay.refl _⟩
                    · intro ev X' hT hb hk hf
                      have e0 : ev (.tmp 68) = .slice (some ⟨rg, ro, Option.none⟩) r.length rc := hf.1
                      have e1 : ev (.tmp 69) = .int .i64 (k : Nat) := hf.2.1
                      exact OpOk.run (v := .pointer (some ⟨rg, ro + k, Option.none⟩)) (W' := X') (by simp [execOp, e0, e1, hb.1, q1, q2, q3, q4, q5, q6, q7, go_sem]) ⟨rfl, Stay.refl _⟩
                    · intro ev X' hT hb hk hf
                      have e0 : ev (.tmp 70) = .pointer (some ⟨rg, ro + k, Option.none⟩) := hf.1
                      have cW := Cx.out X' hT
                      exact OpOk.run (v := vb x) (W' := X') (by simp [execOp, e0, cW, go_sem]) ⟨rfl, Stay.refl _⟩
                    · intro ev X' hT hb hk hf
                      have e0 : ev (.tmp 71) = vb x := hf.1
                      exact OpOk.run (v := u32v x.toNat) (W' := X') (by simp [execOp, e0, hb.1, q1, q2, q3, q4, q5, q6, q7, go_sem]) ⟨rfl, Stay.refl _⟩
                    · intro ev X' hT hb hk hf
                      have e0 : ev (.tmp 9) = .int .i64 (k : Nat) := hk.1
                      exact OpOk.move rfl e0 ⟨rfl, Stay.refl _⟩
                    · intro ev X' hT hb hk hf
                      have e0 : ev (.tmp 73) = .int .i64 (k : Nat) := hf.1
                      exact OpOk.run (v := .int .i64 ((8 * k : Nat) : Int)) (W' := X') (by simp [execOp, e0, hb.1, q1, q2, q3, q4, q5, q6, q7, go_sem]) ⟨rfl, Stay.refl _⟩
                    · intro ev X' hT hb hk hf
                      have e0 : ev (.tmp 72) = u32v x.toNat := hf.1
                      have e1 : ev (.tmp 74) = .int .i64 ((8 * k : Nat) : Int) := hf.2.1
                      exact OpOk.run (v := u32v (x.toNat * 2 ^ (8 * k))) (W' := X') (by simp [execOp, e0, e1, hb.1, q1, q2, q3, q4, q5, q6, q7, go_sem]) ⟨rfl, Stay.refl _⟩
                    · intro ev X' hT hb hk hf
                      have e0 : ev (.tmp 67) = u32v q := hf.1
                      have e1 : ev (.tmp 75) = u32v (x.toNat * 2 ^ (8 * k)) := hf.2.1
                      exact OpOk.run (v := u32v (q + x.toNat * 2 ^ (8 * k))) (W' := X') (by simp [execOp, e0, e1, hb.1, q1, q2, q3, q4, q5, q6, q7, go_sem]) ⟨rfl, Stay.refl _⟩
                  case rest =>
                    intro X' hT
                    rintro _ rfl _ rfl _ rfl _ rfl _ rfl _ rfl _ rfl _ rfl _ rfl _ rfl _ rfl
                    have hw' := Hw.out.below hT
                    have fr := frozen_of_row _ _ 2 _ _ (on_blk_mul hw')
                    have cc := Cq.out X' hT
                    have Hst := hide (SP.on.setCell (i := 2) hw' (u32v (q + x.toNat * 2 ^ (8 * k))))
                    have Hs' := hide ((Hstr.out.trans (Str.below hT)).setCell ⟨X.heap.size, 2, Option.none⟩ (u32v (q + x.toNat * 2 ^ (8 * k))))
                    clear hw' hT Cx Cq
                    go_wp2
                    refine Rest.done ?_
                    go_wp2_with fail
                    exact ⟨⟨k + 1, by omega, by simp, by rw [HS.out]; exact Hst.out, Hs'.out⟩, by simp [intOf]; omega⟩
                · obtain rfl : k = S := by omega
                  have hbr2 := hide hbr
                  obtain ⟨_, kS, _, _⟩ := formBox (on_blk_mul hw.right)
                  have c3 : wr.cell? ⟨X.heap.size, 3, Option.none⟩ = some nilV := cell_of_row _ _ 3 _ _ _ (on_blk_mul hw)
                  have C3 : Hid (∀ X', Stay wr X' → X'.cell? ⟨X.heap.size, 3, Option.none⟩ = some nilV) := hide fun X' hT => (hT.cell (p := ⟨X.heap.size, 3, Option.none⟩) (World.block_lt_of_cell? wr _ c3)).trans c3
                  have CS : Hid (∀ X', Stay wr X' → X'.cell? ⟨g, 1, Option.none⟩ = some (iv k)) := hide fun X' hT => (hT.cell (p := ⟨g, 1, Option.none⟩) (World.block_lt_of_cell? wr _ kS)).trans kS
                  have Hw := hide hw
                  have Hstr := hide hstr
                  clear hbr c3 hw hstr hlt kS
                  go_wp2_with fail
                  refine wp_region_tail 6 [isV (.pointer (some ⟨X.heap.size, 3, Option.none⟩)), isV (nilV), isV (.slice ra r.length rc), isV (.pointer (some ⟨g, 1, Option.none⟩)), isV (iv k), fun v X' => IsBytes X' v (r.drop k)]
                    (by simp only [List.take_succ_cons, List.take_zero]; rfl) (by simp only [List.drop_succ_cons, List.drop_zero]; rfl) (by kernel_rfl) (by kernel_rfl) (by kernel_rfl) (by decide) rfl ?keep ?todo ?rest
                  case keep => exact ⟨Keep.isV _, Keep.isV _, Keep.isV _, Keep.isV _, Keep.isV _, fun _ _ _ h k => IsBytes.below h k, trivial⟩
                  case todo =>
                    refine ⟨?_, ?_, ?_, ?_, ?_, ?_, trivial⟩
                    · intro ev X' hT hb hk hf
                      have e0 : ev (.tmp 7) = .pointer (some ⟨X.heap.size, 0, Option.none⟩) := hk.1
                      exact OpOk.run (v := .pointer (some ⟨X.heap.size, 3, Option.none⟩)) (W' := X') (by simp [execOp, e0, hb.1, go_sem]) ⟨rfl, Stay.refl _⟩
                    · intro ev X' hT hb hk hf
                      have e0 : ev (.tmp 79) = .pointer (some ⟨X.heap.size, 3, Option.none⟩) := hf.1
                      have cW := C3.out X' hT
                      exact OpOk.run (v := nilV) (W' := X') (by simp [execOp, e0, cW, go_sem]) ⟨rfl, Stay.refl _⟩
                    · intro ev X' hT hb hk hf
                      have e0 : ev (.tmp 8) = .slice ra r.length rc := hk.1
                      exact OpOk.move rfl e0 ⟨rfl, Stay.refl _⟩
                    · intro ev X' hT hb hk hf
                      have e0 : ev (.tmp 4) = .pointer (some ⟨g, 0, Option.none⟩) := hk.1
                      exact OpOk.run (v := .pointer (some ⟨g, 1, Option.none⟩)) (W' := X') (by simp [execOp, e0, hb.1, go_sem]) ⟨rfl, Stay.refl _⟩
                    · intro ev X' hT hb hk hf
                      have e0 : ev (.tmp 82) = .pointer (some ⟨g, 1, Option.none⟩) := hf.1
                      have cW := CS.out X' hT
                      exact OpOk.run (v := iv k) (W' := X') (by simp [execOp, e0, cW, go_sem]) ⟨rfl, Stay.refl _⟩
                    · intro ev X' hT hb hk hf
                      have e0 : ev (.tmp 81) = .slice ra r.length rc := hf.1
                      have e1 : ev (.tmp 83) = iv k := hf.2.1
                      have hbX := hbr2.out.below hT
                      obtain ⟨v', hrun, hv'⟩ := run_slice_from (P := Tryz.prog) hbX k hSr _ _ hu infoR
                      exact OpOk.run (v := v') (W' := X') (by simp [execOp, e0, e1, hrun]) ⟨hv' _ hbX, Stay.refl _⟩
                  case rest =>
                    intro X2 hT
                    rintro _ rfl _ rfl _ rfl _ rfl _ rfl v5 h5
                    have hw2 := Hw.out.below hT
                    have Hown := hide (own_nil 5 1 hw2)
                    have Hs2 := hide (Hstr.out.trans (Str.below hT))
                    have H5 := hide (show IsBytes X2 v5 (r.drop k) from h5)
                    have hln : (r.drop k).length = r.length - k := List.length_drop ..
                    have Hn2 := hide (show r.drop k = t.drop (1 + k) by rw [← Hr.out, List.drop_drop])
                    have Hq2 := hide (show numS r 0 k = numS t 1 k by rw [← Hr.out, numS_drop])
                    have hrlen : r.length ≤ 1000000 := by have := Hrl.out; omega
                    have hnl : (r.drop k).length ≤ 1000000 := by omega
                    generalize r.drop k = news at *
                    generalize numS r 0 k = q at *
                    clear hT C3 CS hln hrlen h5 hw2
                    go_wp2
                    refine Rest.done ?_
                    go_wp2_with (first
                      | (at_builtin; refine wpList_append_bytes (F := blk X.heap.size (.cells (rq c (vb ty) q nilV) 117 (0, 0)) * (blk g (.cells (formCells ⟨1, k, Lm, M⟩) 140 (0, 0)) * (blk w.heap.size (.cells zq 117 (0, 0)) * all w))) rfl _ _ 22 rfl 5 hu infoR _ [] news rfl Hown.out _ rfl H5.out (by simp; omega) ?_; intro v6 w6 ho hs; rw [List.nil_append] at ho; obtain ⟨oa, oc, rfl, _, _, _, _⟩ := own_value ho; have Hst6 := hide ((Hs2.out.trans hs).setCell ⟨X.heap.size, 3, Option.none⟩ (.slice oa news.length oc)); have fr := frozen_of_row _ _ 3 _ _ (on_blk_mul ho.right); have cc := cell_of_row _ _ 3 _ _ _ (on_blk_mul ho.right); have ho2 := ho; rw [SP.mul_left_comm] at ho2; have h3 := SP.on.setCell (i := 3) ho2 (.slice oa news.length oc); have h4 : (blk X.heap.size (.cells (rq c (vb ty) q (.slice oa news.length oc)) 117 (0, 0)) * (ownR (.slice oa news.length oc) news * (blk g (.cells (formCells ⟨1, k, Lm, M⟩) 140 (0, 0)) * (blk w.heap.size (.cells zq 117 (0, 0)) * all w)))).on (w6.setCell ⟨X.heap.size, 3, Option.none⟩ (.slice oa news.length oc)) := h3; have hg7 := on_blk_mul h4; have h5 := h4.right; rw [SP.mul_left_comm (blk g _)] at h5; rw [SP.mul_left_comm] at h5; have h2 := on_blk_mul h5; have H5' := hide h5; clear ho hs ho2 h3 h4 h5)
                      | (refine wpList_load_row rfl _ _ rfl X.heap.size rfl _ (rq c (vb ty) q _) _ _ hg7 huq rfl hsq ?_)
                      | (refine wpList_store_row rfl _ _ _ rfl w.heap.size (rq c (vb ty) q _) rfl rfl _ _ h2 hsq (rq_size _ _ _ _) (rq_one _ _ _ _ _ _) ?_))
                    refine bodyPost_ret (v := .tuple #[.agg (rq c (vb ty) q (.slice oa news.length oc)), .int .i64 0]) (results_cell_row_tmp Tryz.results66 _ _ w.heap.size _ (rq c (vb ty) q _) (0, 0) _ rfl (setRow_heap_same _ _ _ _ _ _ h2) huq rfl hsq (.int .i64 0) rfl) rfl ?_
                    refine ⟨.slice oa news.length oc, ?_, ?_, Hst6.out.setRow _ _⟩
                    · rw [HG1.out, HE1.out]
                      simp only [parsed, reqCells, rq, Hty.out, show (1 = 0) = False from by simp, if_false, ← Hq2.out]
                      rfl
                    · rw [HG1.out]
                      have hdat : (parsed c t ⟨1, k, Lm, M⟩).data = news := Hn2.out.symm
                      rw [hdat]
                      have h6 := (H5'.out.setRow (rq c (vb ty) q (.slice oa news.length oc))).right
                      exact (SP.le.mul (SP.le.refl _) (SP.le_right _ _)).on h6
end Go.Proofs.YtgmpmlneoiagdaaGreatDoor

/- The Go functions of opcode: answers, and numbers as bytes. -/
namespace Go.Proofs.YtgmpmlneoiagdaaGreatDoor
open Go.ChangeShapes Go.WideShapes Go.ChangeAt Go.RowKit
set_option linter.unusedVariables false
set_option linter.unusedSimpArgs false

structure AnsS where
  op : UInt8
  result : UInt8
  data : List UInt8
abbrev respCells (q : AnsS) (dv : Value) : Array Value := #[vb q.op, vb q.result, dv]
def zeroA : AnsS := ⟨0, 0, []⟩
abbrev za : Array Value := #[.int .u8 0, .int .u8 0, nilV]
theorem za_eq : respCells zeroA nilV = za := by simp [respCells, zeroA, vb]
theorem respBox {w' : World} {b : Nat} {q : AnsS} {v : Value} {t : TypeId} (h : w'.heap[b]? = some (.cells (respCells q v) t)) :
    w'.cell? ⟨b, 0, Option.none⟩ = some (vb q.op) ∧ w'.cell? ⟨b, 1, Option.none⟩ = some (vb q.result) ∧ w'.cell? ⟨b, 2, Option.none⟩ = some v := by
  refine ⟨?_, ?_, ?_⟩ <;> (rw [cell_of_row _ _ _ _ _ _ h]; rfl)

def ansBytes (q : AnsS) : List UInt8 := 96 :: q.op :: q.result :: q.data
set_option maxRecDepth 100000 in
set_option maxHeartbeats 4000000 in
theorem aencode_any (q : AnsS) (dv : Value) (w : World) (h : IsBytes w dv q.data) (hlen : q.data.length ≤ 1000000) :
    Calls Tryz.prog 54 #[.agg (respCells q dv)] w (Makes w fun v => ownR v (ansBytes q)) := by
  have hu := Tryz.underlying22
  obtain ⟨b0, b1, b2⟩ := respBox (heap_alloc_new w (.cells (respCells q dv) 93))
  have hv : (vbs [96, q.op, q.result]).toArray = #[.int .u8 96, vb q.op, vb q.result] := by simp [vbs, vb]
  have hown := own_new 5 1 3 (vbs [96, q.op, q.result]) ((on_all w).alloc' (.cells (respCells q dv) 93)) rfl (by decide)
  rw [hv] at hown
  simp only [World.size_alloc] at hown
  have c2 : ((w.alloc (.cells (respCells q dv) 93)).alloc (.cells #[.int .u8 96, vb q.op, vb q.result] 5)).cell? ⟨w.heap.size, 2, Option.none⟩ = some dv := (((Below.refl _ (w.alloc (.cells (respCells q dv) 93))).alloc (Nat.le_refl _) _).cell (p := ⟨w.heap.size, 2, Option.none⟩) (by simp)).trans b2
  have hb2 := (h.below (alloc1 (o := .cells (respCells q dv) 93))).below (alloc1 (o := .cells #[.int .u8 96, vb q.op, vb q.result] 5))
  have Hown := hide hown
  have Hb2 := hide hb2
  have HA := hide (show ansBytes q = [96, q.op, q.result] ++ q.data from rfl)
  have Hs := hide (((Str.refl w).alloc (.cells (respCells q dv) 93)).alloc (.cells #[.int .u8 96, vb q.op, vb q.result] 5))
  clear hown hv hb2
  obtain ⟨da, dc, rfl, _, _, _, _⟩ := h
  go_enter Tryz.func54, Tryz.ntmps54
  go_wp2_with (at_builtin; refine wpList_append_bytes (F := all w) rfl _ _ 22 rfl 5 hu infoR _ [96, q.op, q.result] q.data rfl Hown.out _ rfl Hb2.out (by simp; omega) ?_; intro v w2 ho hs; rw [← HA.out] at ho)
  go_ret
  exact ⟨_, rfl, ho, Hs.out.trans hs⟩

def ansErr : List UInt8 → Nat
  | x :: _ :: _ :: _ => if x = 96 then 0 else 7
  | _ => 18
def ansGot : List UInt8 → AnsS
  | x :: y :: z :: t => if x = 96 then ⟨y, z, t⟩ else zeroA
  | _ => zeroA
def AnsEnd (b : List UInt8) (w : World) (e : Ending) (w' : World) : Prop := ∃ dv, e = .returned (.tuple #[.agg (respCells (ansGot b) dv), .int .i64 (ansErr b : Nat)]) ∧ (ownR dv (ansGot b).data * all w).on w' ∧ Str w w'
theorem AnsEnd.err {b : List UInt8} {w w' : World} {z : Nat} (he : ansErr b = z) (hg : ansGot b = zeroA) (hb : Below w.heap.size w w') (z' : Int) (hz' : z' = (z : Nat)) : AnsEnd b w (.returned (.tuple #[.agg za, .int .i64 z'])) w' := by
  refine ⟨nilV, ?_, ?_, Str.below hb⟩
  · rw [he, hg, za_eq, hz']
  · rw [hg]
    exact own_nil _ _ ((on_all w).below hb)

end Go.Proofs.YtgmpmlneoiagdaaGreatDoor
