/- A map from bytes that a call makes itself, written entry by entry, and looked into. No Go function is spoken of. -/
import Derived.Test.YtgmpmlneoiagdaaGreatDoorGBase
import Derived.MapKept
import Derived.Carry
namespace Go.Proofs.YtgmpmlneoiagdaaGreatDoor
open Go.RowKit Go.WideShapes Go.ChangeShapes
set_option linter.unusedVariables false
set_option linter.unusedSimpArgs false
variable {P : Program}

/-- entries, in the order in which they came -/
def entsF : List (Nat × Value) → Nat → List MapEntry
  | [], _ => []
  | (n, v) :: t, i => ⟨.int .u8 (n : Int), v, i⟩ :: entsF t (i + 1)
def findN (n : Nat) : List (Nat × Value) → Nat → Option (Nat × Value)
  | [], _ => Option.none
  | (m, v) :: t, j => if n = m then some (j, v) else findN n t (j + 1)
theorem findNow_ents (n : Nat) : ∀ (l : List (Nat × Value)) (i j : Nat), Instr.findNow (.int .u8) (.int .u8 (n : Int)) (entsF l i) j = some (findN n l j)
  | [], _, _ => rfl
  | (m, v) :: t, i, j => by
    simp only [entsF, findN, Instr.findNow, Instr.sameNow, if_true]
    by_cases h : n = m
    · subst h; simp
    · have : ((n : Int) == (m : Int)) = false := by rw [beq_eq_false_iff_ne]; omega
      rw [this]
      simp only [if_neg h]
      exact findNow_ents n t (i + 1) (j + 1)
theorem entsF_snoc (n : Nat) (v : Value) : ∀ (l : List (Nat × Value)) (i : Nat), entsF (l ++ [(n, v)]) i = entsF l i ++ [⟨.int .u8 (n : Int), v, i + l.length⟩]
  | [], i => rfl
  | (m, u) :: t, i => by
    simp only [List.cons_append, entsF, entsF_snoc n v t (i + 1), List.length_cons]
    rw [Nat.add_assoc, Nat.add_comm 1]

/-- a map's block -/
def mapB (b : Nat) (l : List (Nat × Value)) : SP := blk b (.map (entsF l 0).toArray l.length)

theorem run_insert_sp {F : SP} {w : World} (t k e : TypeId) (ht : P.underlying t = some (.map k e)) (hk : P.underlying k = some (.int .u8)) (b : Nat) (l : List (Nat × Value)) (h : (mapB b l * F).on w) (n : Nat) (v : Value) (hnew : findN n l 0 = Option.none) :
    ∃ w', (Instr.mapUpdate t (.map (some b)) (.int .u8 (n : Int)) v).run P w = .ok () w' ∧ (mapB b (l ++ [(n, v)]) * F).on w' ∧ Str w w' := by
  have hb := on_blk_mul h
  have hf := MapKept.run_findKey (P := P) (w := w) hk (findNow_ents n l 0 0)
  rw [hnew] at hf
  have hc := MapKept.run_checkKey (P := P) (w := w) (k := .int .u8 (n : Int)) hk rfl false 9999
  refine ⟨{ w with heap := w.heap.setIfInBounds b (.map ((entsF l 0).toArray.push ⟨.int .u8 (n : Int), v, l.length⟩) (l.length + 1)) }, ?_, ?_, ?_⟩
  · unfold Instr.mapUpdate
    simp only [Sem.run_bind, run_underlying ht, Result.andThen_ok, MapKept.run_getObj_map hb, hc, hf, MapKept.run_setObj_map _ hb]
  · have := h.turn (w' := { w with heap := w.heap.setIfInBounds b (.map ((entsF l 0).toArray.push ⟨.int .u8 (n : Int), v, l.length⟩) (l.length + 1)) }) (MapKept.heap_set hb).1 (fun k _ hk => (MapKept.heap_set hb).2 k hk)
    unfold mapB
    rw [entsF_snoc, List.length_append, Nat.zero_add]
    simpa using this
  · exact ⟨rfl, rfl, rfl, by simp⟩

theorem wpList_insert_sp {F : SP} {w : World} {ops : Array Oper} {rest : List Oper} {o : Oper} {a : Act} {Q : Exit → Act → World → Prop} (hgd : o.guard = Option.none) (t k e : TypeId) (m kk x : Operand) (ho : o.op = .insert t m kk x)
    (ht : P.underlying t = some (.map k e)) (hk : P.underlying k = some (.int .u8)) (b : Nat) (l : List (Nat × Value)) (h : (mapB b l * F).on w) (hm : a.eval m = .map (some b)) (n : Nat) (hkk : a.eval kk = .int .u8 (n : Int)) (v : Value) (hx : a.eval x = v) (hnew : findN n l 0 = Option.none)
    (hK : ∀ w', (mapB b (l ++ [(n, v)]) * F).on w' → Str w w' → wpList P ops Q rest (a.put o.dst undef) w') : wpList P ops Q (o :: rest) a w :=
  wpList_plain hgd fun _ hK' => by
    obtain ⟨w', hr, h2, h3⟩ := run_insert_sp t k e ht hk b l h n v hnew
    unfold Oper.wp execOp
    simp only [ho, hm, hkk, hx, Sem.run_bind, Sem.run_pure, Result.andThen_ok, hr]
    exact hK' _ _ (hK w' h2 h3)

theorem run_lookup_sp {w : World} (t k e : TypeId) (ht : P.underlying t = some (.map k e)) (hk : P.underlying k = some (.int .u8)) (z : Value) (hz : (zeroValue e).run P w = .ok z w) (b : Nat) (l : List (Nat × Value)) (h : (mapB b l).on w) (n : Nat) (ok : Bool) :
    (Instr.lookup t (.map (some b)) (.int .u8 (n : Int)) ok).run P w = .ok (if ok then .tuple #[((findN n l 0).map Prod.snd).getD z, .bool (findN n l 0).isSome] else ((findN n l 0).map Prod.snd).getD z) w := by
  have hb := on_blk h
  have hf := MapKept.run_findKey (P := P) (w := w) hk (findNow_ents n l 0 0)
  have hc : ∀ em, (Instr.checkKey em 10000 k (.int .u8 (n : Int))).run P w = .ok () w := fun em => MapKept.run_checkKey (P := P) (w := w) (k := .int .u8 (n : Int)) hk rfl em 9999
  unfold Instr.lookup
  cases hq : findN n l 0 with
  | none =>
    rw [hq] at hf
    cases ok <;> simp [run_underlying ht, MapKept.run_getObj_map hb, hc, hf, hz, Result.andThen_ok]
  | some iv =>
    rw [hq] at hf
    cases ok <;> simp [run_underlying ht, MapKept.run_getObj_map hb, hc, hf, hz, Result.andThen_ok]
end Go.Proofs.YtgmpmlneoiagdaaGreatDoor
