/- The chapter's example of record. -/
import Derived.Test.YtdieaegajahdpaaRec8
import Derived.Test.YtdieaegajahdpaaOpen
namespace Go.Proofs.Ytdieaegajahdpaa
open Go.ChangeShapes Go.WideShapes Go.ChangeAt Go.RowKit
set_option linter.unusedVariables false
set_option linter.unusedSimpArgs false

theorem wpList_load_row_g {P : Program} {ops : Array Oper} {rest : List Oper} {o : Oper} {a : Act} {w : World} {Q : Exit → Act → World → Prop} (hw : Region.wanted o (yielded ops a.tmps) = true) (ty : TypeId) (x : Operand) (ho : o.op = .load ty x)
    (g : Nat) (hx : a.eval x = .pointer (some ⟨g, 0, Option.none⟩)) (t : TypeId) (cs : Array Value) (fr : Nat × Nat) (d : TypeDesc) (hg : w.heap[g]? = some (.cells cs t fr))
    (hu : P.underlying ty = some d) (hd : (match d with | .struct _ | .array _ _ => true | _ => false) = true) (hi : (P.info? ty).map (·.size) = some cs.size)
    (h : wpList P ops Q rest (a.put o.dst (.agg cs)) w) : wpList P ops Q (o :: rest) a w :=
  wpList_step fun K hK => by rw [if_pos hw]; exact wp_load_row ty x ho g hx t cs fr d hg hu hd hi (hK _ _ h)
theorem zeroS_right : zeroS.right = true := by simp [RecS.right, zeroS]
theorem zeroS_take : (recBytes zeroS).take 8 = [66, 83, 78, 49, 0, 0, 0, 0] := by
  simp [recBytes, recHead, wordB, b4, zeroS]
theorem zeroS_ok : zeroS.Ok := by constructor <;> simp [zeroS]

set_option maxRecDepth 100000 in
set_option maxHeartbeats 4000000 in
theorem lives13_any (w : World) : Calls Try.prog 8 #[] w fun e w' => e = .returned (.bool true) ∧ Below w.heap.size w w' := by
  have hE := rencode_any zeroS nilV w zeroS_ok (IsBytes.nil w)
  rw [zc_eq] at hE
  have hsu := Try.underlying23
  have hsb := Try.underlying5
  have hst := Try.underlying9
  go_enter Try.func8, Try.ntmps8
  go_wp2_with fail
  refine hE.mono ?_
  rintro e w1 (⟨_, out, rfl, ho, hs⟩ | ⟨hf, _⟩)
  · have hlen := recBytes_len zeroS (by simp [zeroS])
    have h8 := zeroS_take
    have hb := own_bytes ho
    obtain ⟨g, c, rfl, hc, _⟩ := own_block ho (by rw [hlen]; decide)
    have hB := all_below ho.right hs
    generalize recBytes zeroS = l at *
    rw [hlen] at hb
    have hm := hb.mid 0 8 (by omega)
    simp only [List.drop_zero, Nat.add_zero, Nat.sub_zero] at hm
    rw [h8] at hm
    obtain ⟨_, _, e1, _, _, hl8, _⟩ := hm
    simp only [Value.slice.injEq] at e1
    obtain ⟨rfl, _, rfl⟩ := e1
    have k1 := run_string_of (P := Try.prog) (w := w1) (c := c) hsu hsb hl8 _ hst
    simp only [List.length_cons, List.length_nil, Nat.zero_add, Nat.reduceAdd] at k1
    have hc2 : (8 : Int) ≤ (c : Int) := by omega
    have HB := hide hB
    rw [hlen]
    clear ho hs hb h8 hl8 hB hlen hc
    go_wp2_with fail
    go_ret
    exact ⟨rfl, HB.out⟩
  · rw [zeroS_right] at hf; cases hf
end Go.Proofs.Ytdieaegajahdpaa
