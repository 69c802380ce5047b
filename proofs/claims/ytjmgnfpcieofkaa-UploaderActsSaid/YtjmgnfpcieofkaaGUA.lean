/- LAID TOGETHER: UA1, UA2. -/
import Derived.Test.YtjmgnfpcieofkaaGOpcA
import Derived.Test.YtjmgnfpcieofkaaGDs
import Derived.Test.YtjmgnfpcieofkaaGCrc
import Derived.Test.YtjmgnfpcieofkaaMap
import Derived.Deep.QuietTactic
import Derived.BigQuiet
/- The law UploaderActs: what an uploader has, and what it does, as numbers and bytes. -/
namespace Go.Proofs.Ytjmgnfpcieofkaa
set_option linter.unusedVariables false
set_option linter.unusedSimpArgs false

/-- what an uploader has -/
structure US where
  phase : Nat
  sent : Bool
  waited : Nat
  sends : Nat
  from' : Nat
  sum : Nat
/-- the object that is sent -/
def objU (img : List UInt8) (n : Nat) : List UInt8 := (img.drop n).take 1024
def US.goTo (s : US) (p : Nat) : US := { s with phase := p, sent := false, waited := 0 }
/-- behind an answer -/
def US.answer (img : List UInt8) (s : US) (op res : UInt8) (d : List UInt8) : US :=
  if res ≠ 1 then (if s.phase = 5 then s else s.goTo 0)
  else if s.phase = 0 ∧ op = 6 then s.goTo 1
  else if s.phase = 1 ∧ op = 4 then s.goTo 2
  else if s.phase = 2 ∧ op = 6 ∧ d.length = 12 then
    (if img.length ≤ numS d 4 4 then s.goTo 5 else ({ s with from' := numS d 4 4 / 1024 * 1024, sum := numS d 8 4 } : US).goTo 3)
  else if s.phase = 3 ∧ op = 3 ∧ d.length = 8 then
    (if numS d 0 4 = s.from' + (objU img s.from').length ∧ numS d 4 4 = crcUpd s.sum (objU img s.from') then s.goTo 4 else s.goTo 0)
  else if s.phase = 4 ∧ op = 4 then
    (if img.length ≤ s.from' + 1024 then ({ s with from' := s.from' + 1024, sum := crcUpd s.sum (objU img s.from') } : US).goTo 5
     else ({ s with from' := s.from' + 1024, sum := crcUpd s.sum (objU img s.from') } : US).goTo 3)
  else s
/-- behind a text -/
def US.hear (img : List UInt8) (s : US) (t : List UInt8) : US := if ansErr t = 0 then s.answer img (ansGot t).op (ansGot t).result (ansGot t).data else s
/-- behind events -/
def US.hears (img : List UInt8) (s : US) : List Ev → US
  | [] => s
  | e :: l => (if e.kind = 1 then s.hear img e.frame else s).hears img l
theorem US.hears_append (img : List UInt8) (l m : List Ev) : ∀ s : US, s.hears img (l ++ m) = (s.hears img l).hears img m := by
  induction l with
  | nil => intro s; rfl
  | cons e l ih => intro s; exact ih _
/-- a tick -/
def US.tick (s : US) : US := if s.waited + 1 = 8 then s.goTo 0 else { s with waited := s.waited + 1 }
/-- pieces of sixty bytes, k of them -/
def piecesK (b : List UInt8) : Nat → List (List UInt8)
  | 0 => []
  | k + 1 => piecesK b k ++ [(b.drop (60 * k)).take 60]
def pieceN (n : Nat) : Nat := (n + 59) / 60
/-- the texts of an object -/
def objT (kind : UInt8) (b : List UInt8) : List (List UInt8) := ([1, kind] ++ wordB b.length) :: ((piecesK b (pieceN b.length)).map fun p => 8 :: p) ++ [[3]]
/-- the texts that are sent -/
def US.texts (init img : List UInt8) (s : US) : List (List UInt8) :=
  if s.phase = 0 then [[2, 0, 0], [6, 1]]
  else if s.phase = 1 then objT 1 init ++ [[4]]
  else if s.phase = 2 then [[6, 2]]
  else if s.phase = 3 then objT 2 (objU img s.from')
  else if s.phase = 4 then [[4]]
  else []
/-- what an uploader's numbers are -/
structure US.Ok (img : List UInt8) (s : US) : Prop where
  phase : s.phase ≤ 5
  waited : s.waited ≤ 7
  from' : s.from' ≤ 8192
  sum : s.sum < 4294967296
  here : s.phase = 3 ∨ s.phase = 4 → s.from' < img.length
theorem US.goTo_ok {img : List UInt8} {s : US} (h : s.Ok img) (p : Nat) (hp : p ≤ 2 ∨ p = 5) : (s.goTo p).Ok img :=
  ⟨by show p ≤ 5; omega, by show 0 ≤ 7; omega, h.from', h.sum, fun h2 => absurd h2 (by show ¬ (p = 3 ∨ p = 4); omega)⟩
theorem US.answer_ok {img : List UInt8} (hi : img.length ≤ 4096) {s : US} (h : s.Ok img) (op res : UInt8) (d : List UInt8) : (s.answer img op res d).Ok img := by
  unfold US.answer
  split
  · split
    · exact h
    · exact US.goTo_ok h 0 (by omega)
  · split
    · exact US.goTo_ok h 1 (by omega)
    · split
      · exact US.goTo_ok h 2 (by omega)
      · split
        · split
          · exact US.goTo_ok h 5 (by omega)
          · rename_i hl
            exact ⟨by show 3 ≤ 5; omega, by show 0 ≤ 7; omega, by show numS d 4 4 / 1024 * 1024 ≤ 8192; omega, by show numS d 8 4 < _; exact numS_lt d 8 4, fun _ => by show numS d 4 4 / 1024 * 1024 < _; omega⟩
        · split
          · rename_i h3
            split
            · exact ⟨by show 4 ≤ 5; omega, by show 0 ≤ 7; omega, h.from', h.sum, fun _ => h.here (.inl h3.1)⟩
            · exact US.goTo_ok h 0 (by omega)
          · split
            · rename_i h4
              have hf := h.here (.inr h4.1)
              split
              · exact ⟨by show 5 ≤ 5; omega, by show 0 ≤ 7; omega, by show s.from' + 1024 ≤ 8192; omega, crcUpd_lt _ _, fun h2 => absurd h2 (by show ¬ (5 = 3 ∨ 5 = 4); omega)⟩
              · rename_i hl
                exact ⟨by show 3 ≤ 5; omega, by show 0 ≤ 7; omega, by show s.from' + 1024 ≤ 8192; omega, crcUpd_lt _ _, fun _ => by show s.from' + 1024 < _; omega⟩
            · exact h
theorem US.hear_ok {img : List UInt8} (hi : img.length ≤ 4096) {s : US} (h : s.Ok img) (t : List UInt8) : (s.hear img t).Ok img := by
  unfold US.hear
  split
  · exact US.answer_ok hi h _ _ _
  · exact h
theorem US.hears_ok {img : List UInt8} (hi : img.length ≤ 4096) (l : List Ev) : ∀ {s : US}, s.Ok img → (s.hears img l).Ok img := by
  induction l with
  | nil => intro s h; exact h
  | cons e l ih =>
    intro s h
    unfold US.hears
    apply ih
    split
    · exact US.hear_ok hi h _
    · exact h
theorem US.tick_ok {img : List UInt8} {s : US} (h : s.Ok img) : s.tick.Ok img := by
  unfold US.tick
  split
  · exact US.goTo_ok h 0 (by omega)
  · exact ⟨h.phase, by show s.waited + 1 ≤ 7; have := h.waited; omega, h.from', h.sum, h.here⟩
theorem US.answer_sends (img : List UInt8) (s : US) (op res : UInt8) (d : List UInt8) : (s.answer img op res d).sends = s.sends := by
  unfold US.answer
  repeat' split
  all_goals rfl
theorem US.hears_sends (img : List UInt8) (l : List Ev) : ∀ s : US, (s.hears img l).sends = s.sends := by
  induction l with
  | nil => intro s; rfl
  | cons e l ih =>
    intro s
    unfold US.hears
    rw [ih]
    split
    · unfold US.hear
      split
      · exact US.answer_sends _ _ _ _ _
      · rfl
    · rfl
theorem US.tick_sends (s : US) : s.tick.sends = s.sends := by
  unfold US.tick
  split <;> rfl
theorem objU_len (img : List UInt8) (n : Nat) : (objU img n).length = min 1024 (img.length - n) := by unfold objU; rw [List.length_take, List.length_drop]
/-- the last part -/
def lastP (b : List UInt8) : List UInt8 := (partsF b).getLast?.getD []
theorem run_last (m : Nat) : ∀ (n : Nat) (b : List UInt8), b.length < n → (∀ c ∈ lastP b, c ≠ 192) ∧ (run ⟨[], m, false, false⟩ b).2 = (run ⟨[], m, false, false⟩ (lastP b)).2 := by
  intro n
  induction n with
  | zero => intro b h; omega
  | succ n ih =>
    intro b hb
    rcases split_192 b with h | ⟨q, rest, rfl, h⟩
    · unfold lastP
      rw [partsF_none b h]
      exact ⟨h, rfl⟩
    · have hne : partsF rest ≠ [] := by
        intro he
        rcases split_192 rest with h2 | ⟨q2, r2, rfl, h2⟩
        · rw [partsF_none rest h2] at he; cases he
        · rw [partsF_end q2 r2 h2] at he; cases he
      have e1 : lastP (q ++ 192 :: rest) = lastP rest := by
        unfold lastP
        rw [partsF_end q rest h, List.getLast?_cons, List.getLast?_eq_some_getLast hne]
        rfl
      have h3 := ih rest (by simp at hb; omega)
      rw [e1]
      refine ⟨h3.1, ?_⟩
      rw [← h3.2, show q ++ 192 :: rest = (q ++ [192]) ++ rest by simp, run_append, run_append]
      have hg : ((run ⟨[], m, false, false⟩ q).2).Good m := run_good q ⟨rfl, fun h => by cases h⟩
      show (run (run (run ⟨[], m, false, false⟩ q).2 [192]).2 rest).2 = _
      have : (run (run ⟨[], m, false, false⟩ q).2 [192]).2 = ⟨[], m, false, false⟩ := end_clean hg
      rw [this]
theorem feed_text (s : DsS) (c : UInt8) (h : (s.feed c).2.1 ≠ 0) : (s.feed c).1 = [] := by
  revert h
  unfold DsS.feed
  repeat' split
  all_goals first | (intro _; rfl) | (intro h; exact absurd rfl h)
/-- what a byte brings, and what is made of it -/
theorem hear_feed (img : List UInt8) (u : US) (s : DsS) (c : UInt8) : (if (evOf (s.feed c)).kind = 1 then u.hear img (evOf (s.feed c)).frame else u) = u.hear img (s.feed c).1 := by
  have h0 := feed_text s c
  have hn : ∀ t : List UInt8, t = [] → u.hear img t = u := fun t ht => by rw [ht]; rfl
  unfold evOf
  by_cases h : (s.feed c).2.1 = 0
  · rw [if_pos h]
    by_cases hl : 0 < (s.feed c).1.length
    · rw [if_pos hl, if_pos rfl]
    · rw [if_neg hl, if_neg (show ¬ (0 : Nat) = 1 by decide), hn _ (List.length_eq_zero_iff.1 (by omega))]
  · rw [if_neg h, if_neg (show ¬ (2 : Nat) = 1 by decide), hn _ (h0 h)]
end Go.Proofs.Ytjmgnfpcieofkaa

/- The law UploaderActs: an uploader's, and the Model's, phases, ticks, objects. -/
namespace Go.Proofs.Ytjmgnfpcieofkaa
open Go.ChangeShapes Go.WideShapes Go.ChangeAt Go.RowKit
set_option linter.unusedVariables false
set_option linter.unusedSimpArgs false

/-- an uploader's cells, and the Model's -/
def uC (iv mv : Value) (dp : Nat) (s : US) : Array Value := #[iv, mv, dptr dp, .int .i64 (s.phase : Int), .bool s.sent, .int .i64 (s.waited : Int), .int .i64 (s.sends : Int), .int .i64 (s.from' : Int), .int .u32 (s.sum : Int)]
def mC22 (iv mv rv : Value) (s : US) : Array Value := #[iv, mv, .int .i64 (s.phase : Int), .bool s.sent, .int .i64 (s.waited : Int), .int .i64 (s.from' : Int), .int .u32 (s.sum : Int), .int .i64 (s.sends : Int), rv]
abbrev ptrV (p : Nat) : Value := .pointer (some ⟨p, 0, Option.none⟩)

set_option maxRecDepth 100000 in
set_option maxHeartbeats 4000000 in
theorem goTo_any (p : Nat) (iv mv : Value) (dp : Nat) (s : US) (k : Nat) (F : SP) (w : World) (h : (blk p (.cells (uC iv mv dp s) 126 (0, 0)) * F).on w) :
    Calls Try.prog 70 #[ptrV p, .int .i64 (k : Int)] w fun e w' => (∃ v, e = .returned v) ∧ (blk p (.cells (uC iv mv dp (s.goTo k)) 126 (0, 0)) * F).on w' ∧ Str w w' := by
  have hu := Try.underlying126
  have hg := on_blk_mul h
  have fr := fun j => frozen_of_row w p j _ _ hg
  have q3 : w.cell? ⟨p, 3, Option.none⟩ = some (.int .i64 (s.phase : Int)) := cell_of_row w p 3 _ _ _ hg
  have q4 : w.cell? ⟨p, 4, Option.none⟩ = some (.bool s.sent) := cell_of_row w p 4 _ _ _ hg
  have q5 : w.cell? ⟨p, 5, Option.none⟩ = some (.int .i64 (s.waited : Int)) := cell_of_row w p 5 _ _ _ hg
  have hlt := block_lt_of_cell q3
  have H3 := hide (((h.setCell (i := 3) (.int .i64 (k : Int))).setCell (i := 4) (.bool false)).setCell (i := 5) (.int .i64 0))
  have S3 := hide ((((Str.refl w).setCell ⟨p, 3, Option.none⟩ (.int .i64 (k : Int))).setCell ⟨p, 4, Option.none⟩ (.bool false)).setCell ⟨p, 5, Option.none⟩ (.int .i64 0))
  clear h hg
  go_enter Try.func70, Try.ntmps70
  go_wp2_with fail
  go_end0
  exact ⟨⟨_, rfl⟩, H3.out, S3.out⟩

set_option maxRecDepth 100000 in
set_option maxHeartbeats 4000000 in
theorem turn_any (p : Nat) (iv mv rv : Value) (s : US) (k : Nat) (F : SP) (w : World) (h : (blk p (.cells (mC22 iv mv rv s) 84 (0, 0)) * F).on w) :
    Calls Try.prog 71 #[ptrV p, .int .i64 (k : Int)] w fun e w' => (∃ v, e = .returned v) ∧ (blk p (.cells (mC22 iv mv rv (s.goTo k)) 84 (0, 0)) * F).on w' ∧ Str w w' := by
  have hu := Try.underlying84
  have hg := on_blk_mul h
  have fr := fun j => frozen_of_row w p j _ _ hg
  have q3 : w.cell? ⟨p, 2, Option.none⟩ = some (.int .i64 (s.phase : Int)) := cell_of_row w p 2 _ _ _ hg
  have q4 : w.cell? ⟨p, 3, Option.none⟩ = some (.bool s.sent) := cell_of_row w p 3 _ _ _ hg
  have q5 : w.cell? ⟨p, 4, Option.none⟩ = some (.int .i64 (s.waited : Int)) := cell_of_row w p 4 _ _ _ hg
  have hlt := block_lt_of_cell q3
  have H3 := hide (((h.setCell (i := 2) (.int .i64 (k : Int))).setCell (i := 3) (.bool false)).setCell (i := 4) (.int .i64 0))
  have S3 := hide ((((Str.refl w).setCell ⟨p, 2, Option.none⟩ (.int .i64 (k : Int))).setCell ⟨p, 3, Option.none⟩ (.bool false)).setCell ⟨p, 4, Option.none⟩ (.int .i64 0))
  clear h hg
  go_enter Try.func71, Try.ntmps71
  go_wp2_with fail
  go_end0
  exact ⟨⟨_, rfl⟩, H3.out, S3.out⟩

set_option maxRecDepth 100000 in
set_option maxHeartbeats 4000000 in
theorem utick_any (p : Nat) (iv mv : Value) (dp : Nat) (s : US) (hw7 : s.waited ≤ 7) (F : SP) (w : World) (h : (blk p (.cells (uC iv mv dp s) 126 (0, 0)) * F).on w) :
    Calls Try.prog 39 #[ptrV p] w fun e w' => (∃ v, e = .returned v) ∧ (blk p (.cells (uC iv mv dp s.tick) 126 (0, 0)) * F).on w' ∧ Str w w' := by
  have hu := Try.underlying126
  have hg := on_blk_mul h
  have fr := fun j => frozen_of_row w p j _ _ hg
  have q5 : w.cell? ⟨p, 5, Option.none⟩ = some (.int .i64 (s.waited : Int)) := cell_of_row w p 5 _ _ _ hg
  have hlt := block_lt_of_cell q5
  have h2 : (blk p (.cells (uC iv mv dp { s with waited := s.waited + 1 }) 126 (0, 0)) * F).on (w.setCell ⟨p, 5, Option.none⟩ (.int .i64 ((s.waited : Int) + 1))) := h.setCell (i := 5) (.int .i64 ((s.waited : Int) + 1))
  have q6 : (w.setCell ⟨p, 5, Option.none⟩ (.int .i64 ((s.waited : Int) + 1))).cell? ⟨p, 5, Option.none⟩ = some (.int .i64 ((s.waited : Int) + 1)) := cell_of_row _ p 5 _ _ _ (on_blk_mul h2)
  have S2 := hide ((Str.refl w).setCell ⟨p, 5, Option.none⟩ (.int .i64 ((s.waited : Int) + 1)))
  have hT : s.tick = if s.waited + 1 = 8 then s.goTo 0 else { s with waited := s.waited + 1 } := rfl
  by_cases h7 : s.waited = 7
  · rw [if_pos (by omega)] at hT
    have HT := hide hT
    have hG := hide (goTo_any p iv mv dp { s with waited := s.waited + 1 } 0 F _ h2)
    have e8 : ((s.waited : Int) + 1 == 8) = true := by rw [h7]; rfl
    clear h hg h2 hT h7
    go_enter Try.func39, Try.ntmps39
    go_wp2_with fail
    refine hG.out.mono ?_
    rintro e w3 ⟨⟨v, rfl⟩, h3, hs3⟩
    have H3 := hide h3
    have S3 := hide (S2.out.trans hs3)
    clear h3 hs3
    go_wp2_with fail
    go_end0
    refine ⟨⟨_, rfl⟩, ?_, S3.out⟩
    rw [HT.out]
    exact H3.out
  · rw [if_neg (by omega)] at hT
    have HT := hide hT
    have H2 := hide h2
    have e8 : ((s.waited : Int) + 1 == 8) = false := by simp only [beq_eq_false_iff_ne, ne_eq]; omega
    clear h hg h2 hT h7
    go_enter Try.func39, Try.ntmps39
    go_wp2_with fail
    go_end0
    refine ⟨⟨_, rfl⟩, ?_, S2.out⟩
    rw [HT.out]
    exact H2.out

set_option maxRecDepth 100000 in
set_option maxHeartbeats 4000000 in
theorem mtick_any (p : Nat) (iv mv rv : Value) (s : US) (hw7 : s.waited ≤ 7) (F : SP) (w : World) (h : (blk p (.cells (mC22 iv mv rv s) 84 (0, 0)) * F).on w) :
    Calls Try.prog 40 #[ptrV p] w fun e w' => (∃ v, e = .returned v) ∧ (blk p (.cells (mC22 iv mv rv s.tick) 84 (0, 0)) * F).on w' ∧ Str w w' := by
  have hu := Try.underlying84
  have hg := on_blk_mul h
  have fr := fun j => frozen_of_row w p j _ _ hg
  have q5 : w.cell? ⟨p, 4, Option.none⟩ = some (.int .i64 (s.waited : Int)) := cell_of_row w p 4 _ _ _ hg
  have hlt := block_lt_of_cell q5
  have h2 : (blk p (.cells (mC22 iv mv rv { s with waited := s.waited + 1 }) 84 (0, 0)) * F).on (w.setCell ⟨p, 4, Option.none⟩ (.int .i64 ((s.waited : Int) + 1))) := h.setCell (i := 4) (.int .i64 ((s.waited : Int) + 1))
  have q6 : (w.setCell ⟨p, 4, Option.none⟩ (.int .i64 ((s.waited : Int) + 1))).cell? ⟨p, 4, Option.none⟩ = some (.int .i64 ((s.waited : Int) + 1)) := cell_of_row _ p 4 _ _ _ (on_blk_mul h2)
  have S2 := hide ((Str.refl w).setCell ⟨p, 4, Option.none⟩ (.int .i64 ((s.waited : Int) + 1)))
  have hT : s.tick = if s.waited + 1 = 8 then s.goTo 0 else { s with waited := s.waited + 1 } := rfl
  by_cases h7 : s.waited = 7
  · rw [if_pos (by omega)] at hT
    have HT := hide hT
    have hG := hide (turn_any p iv mv rv { s with waited := s.waited + 1 } 0 F _ h2)
    have e8 : ((s.waited : Int) + 1 == 8) = true := by rw [h7]; rfl
    clear h hg h2 hT h7
    go_enter Try.func40, Try.ntmps40
    go_wp2_with fail
    refine hG.out.mono ?_
    rintro e w3 ⟨⟨v, rfl⟩, h3, hs3⟩
    have H3 := hide h3
    have S3 := hide (S2.out.trans hs3)
    clear h3 hs3
    go_wp2_with fail
    go_end0
    refine ⟨⟨_, rfl⟩, ?_, S3.out⟩
    rw [HT.out]
    exact H3.out
  · rw [if_neg (by omega)] at hT
    have HT := hide hT
    have H2 := hide h2
    have e8 : ((s.waited : Int) + 1 == 8) = false := by simp only [beq_eq_false_iff_ne, ne_eq]; omega
    clear h hg h2 hT h7
    go_enter Try.func40, Try.ntmps40
    go_wp2_with fail
    go_end0
    refine ⟨⟨_, rfl⟩, ?_, S2.out⟩
    rw [HT.out]
    exact H2.out

set_option maxRecDepth 100000 in
set_option maxHeartbeats 4000000 in
theorem udone_any (p : Nat) (iv mv : Value) (dp : Nat) (s : US) (F : SP) (w : World) (h : (blk p (.cells (uC iv mv dp s) 126 (0, 0)) * F).on w) :
    Calls Try.prog 44 #[ptrV p] w fun e w' => e = .returned (.tuple #[.bool (s.phase == 5), .int .i64 (s.sends : Int)]) ∧ Below w.heap.size w w' := by
  have hu := Try.underlying126
  have hg := on_blk_mul h
  have q3 : w.cell? ⟨p, 3, Option.none⟩ = some (.int .i64 (s.phase : Int)) := cell_of_row w p 3 _ _ _ hg
  have q6 : w.cell? ⟨p, 6, Option.none⟩ = some (.int .i64 (s.sends : Int)) := cell_of_row w p 6 _ _ _ hg
  have he : ((s.phase : Int) == 5) = (s.phase == 5) := by
    by_cases hc : s.phase = 5
    · rw [hc]; rfl
    · rw [show (s.phase == 5) = false by simpa using hc]
      simp only [beq_eq_false_iff_ne, ne_eq]
      omega
  clear h hg
  go_enter Try.func44, Try.ntmps44
  go_wp2_with fail
  go_quiet (fail)
  go_wp2_with fail
  go_ret2
  exact ⟨by rfl, Below.drewN' (Below.refl _ w) nq⟩

set_option maxRecDepth 100000 in
set_option maxHeartbeats 4000000 in
theorem uobject_q (p : Nat) (iv : Value) (dp : Nat) (s : US) (mg mo mc : Nat) (img : List UInt8) (hf : s.from' < img.length) (hl : img.length ≤ 4096) (F : SP) (w : World) (h : (blk p (.cells (uC iv (.slice (some ⟨mg, mo, Option.none⟩) img.length mc) dp s) 126 (0, 0)) * F).on w) (hmc : img.length ≤ mc) :
    Calls Try.prog 100 #[ptrV p] w fun e w' => e = .returned (.slice (some ⟨mg, mo + s.from', Option.none⟩) (objU img s.from').length (mc - s.from')) ∧ ∃ m, w' = w.drewN m := by
  have hu := Try.underlying126
  have hg := on_blk_mul h
  have q1 : w.cell? ⟨p, 1, Option.none⟩ = some (.slice (some ⟨mg, mo, Option.none⟩) img.length mc) := cell_of_row w p 1 _ _ _ hg
  have q7 : w.cell? ⟨p, 7, Option.none⟩ = some (.int .i64 (s.from' : Int)) := cell_of_row w p 7 _ _ _ hg
  have Hol := hide (objU_len img s.from')
  clear h hg
  go_enter Try.func100, Try.ntmps100
  go_wp2_with fail
  go_quiet (fail)
  go_wp2_with fail
  all_goals go_ret
  all_goals
    have hol := Hol.out
    refine ⟨?_, nq, rfl⟩
    first
      | (have hN : (objU img s.from').length = img.length - s.from' := by omega
         rw [hN]; rfl)
      | (have hN : (objU img s.from').length = ((s.from' : Int) + 1024).toNat - s.from' := by omega
         rw [hN]; rfl)
theorem uobject_any (p : Nat) (iv : Value) (dp : Nat) (s : US) (mg mo mc : Nat) (img : List UInt8) (hf : s.from' < img.length) (hl : img.length ≤ 4096) (F : SP) (w : World) (h : (blk p (.cells (uC iv (.slice (some ⟨mg, mo, Option.none⟩) img.length mc) dp s) 126 (0, 0)) * F).on w) (hmc : img.length ≤ mc) :
    Calls Try.prog 100 #[ptrV p] w fun e w' => e = .returned (.slice (some ⟨mg, mo + s.from', Option.none⟩) (objU img s.from').length (mc - s.from')) ∧ Below w.heap.size w w' := by
  refine (uobject_q p iv dp s mg mo mc img hf hl F w h hmc).mono ?_
  rintro e w' ⟨h1, m, rfl⟩
  exact ⟨h1, Below.drewN' (Below.refl _ w) m⟩

set_option maxRecDepth 100000 in
set_option maxHeartbeats 4000000 in
theorem mnext_q (p : Nat) (iv rv : Value) (s : US) (mg mo mc : Nat) (img : List UInt8) (hf : s.from' < img.length) (hl : img.length ≤ 4096) (F : SP) (w : World) (h : (blk p (.cells (mC22 iv (.slice (some ⟨mg, mo, Option.none⟩) img.length mc) rv s) 84 (0, 0)) * F).on w) (hmc : img.length ≤ mc) :
    Calls Try.prog 69 #[ptrV p] w fun e w' => e = .returned (.slice (some ⟨mg, mo + s.from', Option.none⟩) (objU img s.from').length (mc - s.from')) ∧ ∃ m, w' = w.drewN m := by
  have hu := Try.underlying84
  have hg := on_blk_mul h
  have q1 : w.cell? ⟨p, 1, Option.none⟩ = some (.slice (some ⟨mg, mo, Option.none⟩) img.length mc) := cell_of_row w p 1 _ _ _ hg
  have q7 : w.cell? ⟨p, 5, Option.none⟩ = some (.int .i64 (s.from' : Int)) := cell_of_row w p 5 _ _ _ hg
  have Hol := hide (objU_len img s.from')
  clear h hg
  go_enter Try.func69, Try.ntmps69
  go_wp2_with fail
  go_quiet (fail)
  go_wp2_with fail
  all_goals go_ret
  all_goals
    have hol := Hol.out
    refine ⟨?_, nq, rfl⟩
    first
      | (have hN : (objU img s.from').length = img.length - s.from' := by omega
         rw [hN]; rfl)
      | (have hN : (objU img s.from').length = ((s.from' : Int) + 1024).toNat - s.from' := by omega
         rw [hN]; rfl)
theorem mnext_any (p : Nat) (iv rv : Value) (s : US) (mg mo mc : Nat) (img : List UInt8) (hf : s.from' < img.length) (hl : img.length ≤ 4096) (F : SP) (w : World) (h : (blk p (.cells (mC22 iv (.slice (some ⟨mg, mo, Option.none⟩) img.length mc) rv s) 84 (0, 0)) * F).on w) (hmc : img.length ≤ mc) :
    Calls Try.prog 69 #[ptrV p] w fun e w' => e = .returned (.slice (some ⟨mg, mo + s.from', Option.none⟩) (objU img s.from').length (mc - s.from')) ∧ Below w.heap.size w w' := by
  refine (mnext_q p iv rv s mg mo mc img hf hl F w h hmc).mono ?_
  rintro e w' ⟨h1, m, rfl⟩
  exact ⟨h1, Below.drewN' (Below.refl _ w) m⟩
end Go.Proofs.Ytjmgnfpcieofkaa
