/- LAID TOGETHER: Deslip, Deslip2, DeslipFramesMath, DeslipBytesMath. -/
import Derived.Test.YtjmgnfpcieofkaaRows
import Derived.Test.YtjmgnfpcieofkaaGBase
import Derived.Handy
import Derived.Test.YtjmgnfpcieofkaaGSlip
/- The Go functions of deslip: a decoder in memory, and what a byte does to it. -/
namespace Go.Proofs.Ytjmgnfpcieofkaa
open Go.ChangeShapes Go.WideShapes Go.ChangeAt Go.RowKit
set_option linter.unusedVariables false

structure DsS where
  text : List UInt8
  most : Nat
  esc : Bool
  skip : Bool
structure DsS.Ok (s : DsS) : Prop where
  most : s.most ≤ 65536
  text : s.text.length ≤ s.most
def DsS.keep (s : DsS) (c : UInt8) : Nat × DsS := if s.text.length < s.most then (0, { s with text := s.text ++ [c] }) else (17, { s with text := [], skip := true })
def DsS.second (s : DsS) (c : UInt8) : Nat × DsS :=
  if c = 220 then DsS.keep { s with esc := false } 192 else if c = 221 then DsS.keep { s with esc := false } 219 else (7, { s with text := [], esc := false, skip := c != 192 })
def DsS.feed (s : DsS) (c : UInt8) : List UInt8 × Nat × DsS :=
  if s.skip then ([], 0, { s with skip := c != 192 }) else if s.esc then ([], s.second c) else if c = 192 then (s.text, 0, { s with text := [] })
  else if c = 219 then ([], 0, { s with esc := true }) else ([], s.keep c)
theorem DsS.keep_ok {s : DsS} (h : s.Ok) (c : UInt8) : (s.keep c).2.Ok := by
  unfold DsS.keep
  split
  · exact ⟨h.most, by simp; omega⟩
  · exact ⟨h.most, by simp⟩
theorem DsS.feed_ok {s : DsS} (h : s.Ok) (c : UInt8) : (s.feed c).2.2.Ok := by
  have h2 : ({ s with esc := false } : DsS).Ok := ⟨h.most, h.text⟩
  unfold DsS.feed
  split
  · exact ⟨h.most, h.text⟩
  split
  · unfold DsS.second
    split
    · exact DsS.keep_ok h2 _
    split
    · exact DsS.keep_ok h2 _
    · exact ⟨h.most, by simp⟩
  split
  · exact ⟨h.most, by simp⟩
  split
  · exact ⟨h.most, h.text⟩
  · exact DsS.keep_ok h _

abbrev ownD (v : Value) (l : List UInt8) : SP := own 5 1 v l.length (vbs l)
abbrev dptr (p : Nat) : Value := .pointer (some ⟨p, 0, Option.none⟩)
def dsCells (tv : Value) (s : DsS) : Array Value := #[tv, .int .i64 (s.most : Int), .bool s.esc, .bool s.skip]
def Dec (p : Nat) (s : DsS) : SP := ex fun tv : Value => blk p (.cells (dsCells tv s) 157 (0, 0)) * ownD tv s.text
theorem Dec.open {p : Nat} {s : DsS} {F : SP} {w : World} (h : (Dec p s * F).on w) : ∃ tv, (blk p (.cells (dsCells tv s) 157 (0, 0)) * (ownD tv s.text * F)).on w := by
  obtain ⟨tv, h⟩ := on_ex_mul.1 h
  exact ⟨tv, by rw [← SP.mul_assoc]; exact h⟩
theorem Dec.shut {p : Nat} {s : DsS} {F : SP} {w : World} {tv : Value} (h : (blk p (.cells (dsCells tv s) 157 (0, 0)) * (ownD tv s.text * F)).on w) : (Dec p s * F).on w :=
  on_ex_mul.2 ⟨tv, by rw [SP.mul_assoc]; exact h⟩
theorem infoD : (Try.prog.info? 5).map (fun i => (i.zero, i.size, i.bytes)) = some (some (.int .u8 0), 1, 1) := by kernel_rfl

set_option maxRecDepth 100000 in
set_option maxHeartbeats 1000000 in
theorem take_any (p : Nat) (s : DsS) (F : SP) (w : World) (h : (Dec p s * F).on w) :
    Calls Try.prog 102 #[dptr p] w fun e w' => ∃ tv, e = .returned tv ∧ (ownD tv s.text * (Dec p { s with text := [] } * F)).on w' ∧ Str w w' := by
  obtain ⟨tv, h⟩ := Dec.open h
  have hb := on_blk_mul h
  have c0 := cell_of_row w p 0 _ _ _ hb
  have fr := fun j => frozen_of_row w p j _ _ hb
  simp only [dsCells] at c0
  have H := hide h
  clear h hb
  go_enter Try.func102, Try.ntmps102
  go_wp2_with fail
  go_ret
  refine ⟨tv, rfl, ?_, (Str.refl _).setCell _ _⟩
  have h2 := H.out.setCell (i := 0) (.slice Option.none 0 0)
  rw [SP.mul_left_comm] at h2
  rw [SP.mul_left_comm]
  refine Dec.shut (tv := .slice Option.none 0 0) ?_
  have h3 := own_nil (F := ownD tv s.text * (blk p (.cells (dsCells (.slice Option.none 0 0) { s with text := [] }) 157 (0, 0)) * F)) 5 1 h2
  have e : (blk p (Obj.cells (dsCells (.slice Option.none 0 0) { s with text := [] }) 157 (0, 0)) * (ownD (.slice Option.none 0 0) ([] : List UInt8) * (ownD tv s.text * F))) = (own 5 1 (.slice Option.none 0 0) 0 [] * (ownD tv s.text * (blk p (.cells (dsCells (.slice Option.none 0 0) { s with text := [] }) 157 (0, 0)) * F))) := by
    show _ * (own 5 1 (.slice Option.none 0 0) 0 [] * _) = _
    ac_rfl
  exact e ▸ h3

set_option maxRecDepth 100000 in
set_option maxHeartbeats 1000000 in
theorem add_any (p : Nat) (s : DsS) (F : SP) (w : World) (h : (Dec p s * F).on w) (ok : s.Ok) (c : UInt8) :
    Calls Try.prog 118 #[dptr p, vb c] w fun e w' => e = .returned (.bool (decide (s.text.length < s.most))) ∧ (Dec p (if s.text.length < s.most then { s with text := s.text ++ [c] } else s) * F).on w' ∧ Str w w' := by
  have hm := ok.most
  have ht := ok.text
  have H0 := hide h
  obtain ⟨tv, h⟩ := Dec.open h
  have hb := on_blk_mul h
  have c0 := cell_of_row w p 0 _ _ _ hb
  have c1 := cell_of_row w p 1 _ _ _ hb
  have fr := fun j => frozen_of_row w p j _ _ hb
  simp only [dsCells] at c0 c1
  have ho := h
  rw [SP.mul_left_comm] at ho
  obtain ⟨ad, cp, rfl, hc1, hc2, _⟩ := own_value ho
  unfold maxLen at hc2
  have Ho := hide ho
  clear h hb ho
  by_cases hlt : s.text.length < s.most
  · have hd : decide (s.text.length < s.most) = true := by simpa using hlt
    rw [hd, if_pos hlt]
    have hu := Try.underlying33
    have hlt2 : (((s.most : Nat) : Int) ≤ ((s.text.length : Nat) : Int)) = False := by simp; omega
    go_enter Try.func118, Try.ntmps118
    go_wp2_with fail
    go_region
    go_wp2_with (at_builtin; refine wpList_append_bytes (F := blk p (.cells (dsCells (.slice ad s.text.length cp) s) 157 (0, 0)) * F) rfl _ _ 33 rfl 5 hu infoD _ s.text [c] rfl (Ho.out.drew.alloc' _) _ rfl (IsBytes.new _ [c] (by simp [maxLen]) 5) (by simp; omega) ?_; intro v2 w2 ho2 hs2; have hb2 := on_blk_mul ho2.right; have d0 := cell_of_row w2 p 0 _ _ _ hb2; have fr2 := fun j => frozen_of_row w2 p j _ _ hb2; simp only [dsCells] at d0; obtain ⟨a2, k2, rfl, _, _, _, _⟩ := own_value ho2; have Ho2 := hide ho2; clear ho2 hb2)
    go_ret
    refine ⟨rfl, Dec.shut (tv := .slice a2 (s.text.length + 1) k2) ?_, Str.setCell (((Str.refl w).alloc _).drew.trans hs2) _ _⟩
    have h3 := Ho2.out
    rw [SP.mul_left_comm] at h3
    have h4 := h3.setCell (i := 0) (.slice a2 (s.text.length + 1) k2)
    rw [show Value.slice a2 (s.text ++ [c]).length k2 = .slice a2 (s.text.length + 1) k2 by simp] at h4
    exact h4
  · have hd : decide (s.text.length < s.most) = false := by simpa using hlt
    rw [hd, if_neg hlt]
    have hge : s.most ≤ s.text.length := by omega
    go_enter Try.func118, Try.ntmps118
    go_wp2_with fail
    go_region
    go_wp2_with fail
    go_ret
    exact ⟨rfl, H0.out.drew, (Str.refl _).drew⟩

set_option maxRecDepth 100000 in
set_option maxHeartbeats 1000000 in
theorem keep_any (p : Nat) (s : DsS) (F : SP) (w : World) (h : (Dec p s * F).on w) (ok : s.Ok) (c : UInt8) :
    Calls Try.prog 103 #[dptr p, vb c] w fun e w' => e = .returned (.int .i64 ((s.keep c).1 : Int)) ∧ (Dec p (s.keep c).2 * F).on w' ∧ Str w w' := by
  have H := hide h
  have HA := hide (add_any p s F w h ok c)
  clear h
  by_cases hlt : s.text.length < s.most
  · rw [decide_eq_true hlt, if_pos hlt] at HA
    have HK := hide (show s.keep c = (0, { s with text := s.text ++ [c] }) by unfold DsS.keep; rw [if_pos hlt])
    clear hlt
    go_enter Try.func103, Try.ntmps103
    go_wp2_with fail
    refine HA.out.mono ?_
    rintro e w1 ⟨rfl, h1, hs1⟩
    have H1 := hide h1
    have Hs1 := hide hs1
    clear h1 hs1
    go_wp2_with fail
    go_ret
    rw [HK.out]
    exact ⟨rfl, H1.out, Hs1.out⟩
  · rw [decide_eq_false hlt, if_neg hlt] at HA
    have HK := hide (show s.keep c = (17, { s with text := [], skip := true }) by unfold DsS.keep; rw [if_neg hlt])
    clear hlt
    go_enter Try.func103, Try.ntmps103
    go_wp2_with fail
    refine HA.out.mono ?_
    rintro e w1 ⟨rfl, h1, hs1⟩
    have HT := hide (take_any p s F w1 h1)
    have Hs1 := hide hs1
    clear h1 hs1
    go_wp2_with fail
    refine HT.out.mono ?_
    rintro e w2 ⟨tv, rfl, h2, hs2⟩
    have h3 := h2.right
    obtain ⟨tv2, h3⟩ := Dec.open h3
    have hb := on_blk_mul h3
    have c3 := cell_of_row w2 p 3 _ _ _ hb
    have fr := fun j => frozen_of_row w2 p j _ _ hb
    simp only [dsCells] at c3
    have H3 := hide h3
    have Hs2 := hide (Hs1.out.trans hs2)
    clear h2 h3 hb hs2
    go_wp2_with fail
    go_ret
    rw [HK.out]
    exact ⟨rfl, Dec.shut (tv := tv2) (H3.out.setCell (i := 3) _), Hs2.out.setCell _ _⟩

theorem bne_u8 {c d : UInt8} (h : ¬c = d) : (((c.toNat : Nat) : Int) == ((d.toNat : Nat) : Int)) = false := by
  rw [beq_eq_false_iff_ne]
  intro e
  exact h (UInt8.toNat_inj.1 (by omega))

theorem skip_u8 (c : UInt8) : (c != 192) = (((c.toNat : Nat) : Int) != 192) := by
  by_cases hc : c = 192
  · subst hc; rfl
  · have h1 := bne_u8 hc
    rw [show (((192 : UInt8).toNat : Nat) : Int) = 192 from rfl] at h1
    simp only [bne, h1]
    simp [hc]

set_option maxRecDepth 100000 in
set_option maxHeartbeats 1000000 in
theorem second_any (p : Nat) (s : DsS) (F : SP) (w : World) (h : (Dec p s * F).on w) (ok : s.Ok) (c : UInt8) :
    Calls Try.prog 101 #[dptr p, vb c] w fun e w' => e = .returned (.int .i64 ((s.second c).1 : Int)) ∧ (Dec p (s.second c).2 * F).on w' ∧ Str w w' := by
  obtain ⟨tv, h⟩ := Dec.open h
  have hb := on_blk_mul h
  have c2 := cell_of_row w p 2 _ _ _ hb
  have fr := fun j => frozen_of_row w p j _ _ hb
  simp only [dsCells] at c2
  have H := hide h
  have h2 : (Dec p { s with esc := false } * F).on (w.setCell ⟨p, 2, Option.none⟩ (.bool false)) := Dec.shut (tv := tv) (h.setCell (i := 2) (.bool false))
  have ok2 : ({ s with esc := false } : DsS).Ok := ⟨ok.most, ok.text⟩
  have HS := hide ((Str.refl w).setCell ⟨p, 2, Option.none⟩ (.bool false))
  clear h hb
  by_cases h220 : c = 220
  · have HQ := hide (show s.second c = DsS.keep { s with esc := false } 192 by unfold DsS.second; rw [if_pos h220])
    subst h220
    have HK := hide (keep_any p _ F _ h2 ok2 192)
    clear h2
    go_enter Try.func101, Try.ntmps101
    go_wp2_with fail
    refine HK.out.mono ?_
    rintro e w1 ⟨rfl, h1, hs1⟩
    have H1 := hide h1
    have Hs1 := hide (HS.out.trans hs1)
    clear h1 hs1
    go_wp2_with fail
    go_ret
    rw [HQ.out]
    exact ⟨rfl, H1.out, Hs1.out⟩
  · by_cases h221 : c = 221
    · have HQ := hide (show s.second c = DsS.keep { s with esc := false } 219 by unfold DsS.second; rw [if_neg h220, if_pos h221])
      subst h221
      have HK := hide (keep_any p _ F _ h2 ok2 219)
      clear h2 h220
      go_enter Try.func101, Try.ntmps101
      go_wp2_with fail
      refine HK.out.mono ?_
      rintro e w1 ⟨rfl, h1, hs1⟩
      have H1 := hide h1
      have Hs1 := hide (HS.out.trans hs1)
      clear h1 hs1
      go_wp2_with fail
      go_ret
      rw [HQ.out]
      exact ⟨rfl, H1.out, Hs1.out⟩
    · have HQ := hide (show s.second c = (7, { s with text := [], esc := false, skip := c != 192 }) by unfold DsS.second; rw [if_neg h220, if_neg h221])
      have e0 := bne_u8 h220
      have e1 := bne_u8 h221
      have HT := hide (take_any p _ F _ h2)
      have HSK := hide (skip_u8 c)
      clear h2 h220 h221
      rw [show (((220 : UInt8).toNat : Nat) : Int) = 220 from rfl] at e0
      rw [show (((221 : UInt8).toNat : Nat) : Int) = 221 from rfl] at e1
      go_enter Try.func101, Try.ntmps101
      go_wp2_with fail
      refine HT.out.mono ?_
      rintro e w2 ⟨tv2, rfl, h2, hs2⟩
      have h3 := h2.right
      obtain ⟨tv3, h3⟩ := Dec.open h3
      have hb := on_blk_mul h3
      have c3 := cell_of_row w2 p 3 _ _ _ hb
      have fr2 := fun j => frozen_of_row w2 p j _ _ hb
      simp only [dsCells] at c3
      have H3 := hide h3
      have Hs2 := hide (HS.out.trans hs2)
      clear h2 h3 hb hs2
      go_wp2_with fail
      go_ret
      rw [HQ.out, HSK.out]
      exact ⟨rfl, Dec.shut (tv := tv3) (H3.out.setCell (i := 3) _), Hs2.out.setCell _ _⟩

/-- what Feed answers -/
def feedQ (p : Nat) (l : List UInt8) (er : Nat) (s : DsS) (v : Value) : SP := ex fun x : Value => pure (v = .tuple #[x, .int .i64 (er : Int)]) * (ownD x l * Dec p s)
theorem feedQ.out {p : Nat} {l : List UInt8} {er : Nat} {s : DsS} {v : Value} {F : SP} {w : World} (h : (feedQ p l er s v * F).on w) : ∃ x, v = .tuple #[x, .int .i64 (er : Int)] ∧ (ownD x l * (Dec p s * F)).on w := by
  obtain ⟨x, h⟩ := on_ex_mul.1 h
  rw [SP.mul_assoc] at h
  obtain ⟨h1, h2⟩ := on_pure_mul.1 h
  exact ⟨x, h1, by rw [SP.mul_assoc] at h2; exact h2⟩
theorem feedQ.in {p : Nat} {l : List UInt8} {er : Nat} {s : DsS} {x : Value} {F : SP} {w : World} (h : (ownD x l * (Dec p s * F)).on w) : (feedQ p l er s (.tuple #[x, .int .i64 (er : Int)]) * F).on w :=
  on_ex_mul.2 ⟨x, by rw [SP.mul_assoc]; exact on_pure_mul.2 ⟨rfl, by rw [SP.mul_assoc]; exact h⟩⟩
theorem ownD_nil {F : SP} {w : World} (h : F.on w) : (ownD (.slice Option.none 0 0) [] * F).on w := own_nil 5 1 h

set_option maxRecDepth 100000 in
set_option maxHeartbeats 1000000 in
theorem feed_any (p : Nat) (s : DsS) (F : SP) (w : World) (h : (Dec p s * F).on w) (ok : s.Ok) (c : UInt8) :
    Calls Try.prog 74 #[dptr p, vb c] w fun e w' => ∃ v, e = .returned v ∧ (feedQ p (s.feed c).1 (s.feed c).2.1 (s.feed c).2.2 v * F).on w' ∧ Str w w' := by
  have H0 := hide h
  obtain ⟨tv, h⟩ := Dec.open h
  have hb := on_blk_mul h
  have c2 := cell_of_row w p 2 _ _ _ hb
  have c3 := cell_of_row w p 3 _ _ _ hb
  have fr := fun j => frozen_of_row w p j _ _ hb
  simp only [dsCells] at c2 c3
  have H := hide h
  clear h hb
  cases hk : s.skip with
  | true =>
    rw [hk] at c3
    have HF := hide (show s.feed c = ([], 0, { s with skip := (((c.toNat : Nat) : Int) != 192) }) by unfold DsS.feed; rw [if_pos hk, skip_u8])
    clear hk
    go_enter Try.func74, Try.ntmps74
    go_wp2_with fail
    go_ret2
    rw [HF.out]
    exact ⟨_, rfl, feedQ.in (ownD_nil (Dec.shut (tv := tv) (H.out.setCell (i := 3) _))), (Str.refl _).setCell _ _⟩
  | false =>
    rw [hk] at c3
    cases he : s.esc with
    | true =>
      rw [he] at c2
      have HF := hide (show s.feed c = ([], s.second c) by unfold DsS.feed; rw [if_neg (by rw [hk]; simp), if_pos he])
      have HS := hide (second_any p s F w H0.out ok c)
      clear hk he
      go_enter Try.func74, Try.ntmps74
      go_wp2_with fail
      refine HS.out.mono ?_
      rintro e w1 ⟨rfl, h1, hs1⟩
      have H1 := hide h1
      clear h1
      go_wp2_with fail
      go_ret2
      rw [HF.out]
      exact ⟨_, rfl, feedQ.in (ownD_nil H1.out), hs1⟩
    | false =>
      rw [he] at c2
      by_cases h192 : c = 192
      · subst h192
        have HF := hide (show s.feed 192 = (s.text, 0, { s with text := [] }) by unfold DsS.feed; rw [if_neg (by rw [hk]; simp), if_neg (by rw [he]; simp), if_pos rfl])
        have HT := hide (take_any p s F w H0.out)
        clear hk he
        go_enter Try.func74, Try.ntmps74
        go_wp2_with fail
        refine HT.out.mono ?_
        rintro e w1 ⟨tv1, rfl, h1, hs1⟩
        have H1 := hide h1
        clear h1
        go_wp2_with fail
        go_ret2
        rw [HF.out]
        exact ⟨_, rfl, feedQ.in H1.out, hs1⟩
      · have e0 := bne_u8 h192
        rw [show (((192 : UInt8).toNat : Nat) : Int) = 192 from rfl] at e0
        by_cases h219 : c = 219
        · subst h219
          have HF := hide (show s.feed 219 = ([], 0, { s with esc := true }) by unfold DsS.feed; rw [if_neg (by rw [hk]; simp), if_neg (by rw [he]; simp), if_neg (by decide), if_pos rfl])
          clear hk he h192 e0
          go_enter Try.func74, Try.ntmps74
          go_wp2_with fail
          go_ret2
          rw [HF.out]
          exact ⟨_, rfl, feedQ.in (ownD_nil (Dec.shut (tv := tv) (H.out.setCell (i := 2) _))), (Str.refl _).setCell _ _⟩
        · have e1 := bne_u8 h219
          rw [show (((219 : UInt8).toNat : Nat) : Int) = 219 from rfl] at e1
          have HF := hide (show s.feed c = ([], s.keep c) by unfold DsS.feed; rw [if_neg (by rw [hk]; simp), if_neg (by rw [he]; simp), if_neg h192, if_neg h219])
          have HK := hide (keep_any p s F w H0.out ok c)
          clear hk he h192 h219
          go_enter Try.func74, Try.ntmps74
          go_wp2_with fail
          refine HK.out.mono ?_
          rintro e w1 ⟨rfl, h1, hs1⟩
          have H1 := hide h1
          clear h1
          go_wp2_with fail
          go_ret2
          rw [HF.out]
          exact ⟨_, rfl, feedQ.in (ownD_nil H1.out), hs1⟩

/-- a new decoder -/
def dnewQ (m : Nat) (v : Value) : SP := ex fun p : Nat => pure (v = .tuple #[dptr p, .int .i64 0]) * Dec p ⟨[], m, false, false⟩
theorem dnewQ.out {m : Nat} {v : Value} {F : SP} {w : World} (h : (dnewQ m v * F).on w) : ∃ p, v = .tuple #[dptr p, .int .i64 0] ∧ (Dec p ⟨[], m, false, false⟩ * F).on w := by
  obtain ⟨x, h⟩ := on_ex_mul.1 h
  rw [SP.mul_assoc] at h
  obtain ⟨h1, h2⟩ := on_pure_mul.1 h
  exact ⟨x, h1, h2⟩
theorem dnewQ.in {m p : Nat} {F : SP} {w : World} (h : (Dec p ⟨[], m, false, false⟩ * F).on w) : (dnewQ m (.tuple #[dptr p, .int .i64 0]) * F).on w :=
  on_ex_mul.2 ⟨p, by rw [SP.mul_assoc]; exact on_pure_mul.2 ⟨rfl, h⟩⟩
set_option maxRecDepth 100000 in
set_option maxHeartbeats 1000000 in
theorem dnew_any (m : Nat) (h1 : 1 ≤ m) (h2 : m ≤ 65536) (w : World) :
    Calls Try.prog 64 #[.int .i64 m] w (Makes w (dnewQ m)) := by
  go_enter Try.func64, Try.ntmps64
  go_wp2_with fail
  go_ret2
  refine ⟨_, rfl, dnewQ.in (p := w.heap.size) (Dec.shut (tv := .slice Option.none 0 0) ?_), (Str.refl _).alloc _⟩
  have h3 := own_nil 5 1 ((on_all w).alloc (.cells (dsCells (.slice Option.none 0 0) ⟨[], m, false, false⟩) 157))
  rw [SP.mul_left_comm] at h3
  exact h3
end Go.Proofs.Ytjmgnfpcieofkaa

/- What bytes bring, one by one: the list of events that the law's feed makes. -/
namespace Go.Proofs.Ytjmgnfpcieofkaa
open Go.ChangeShapes Go.WideShapes Go.ChangeAt Go.RowKit
set_option linter.unusedVariables false

structure Ev where
  kind : Nat
  frame : List UInt8
  err : Nat
def evCells (L : List (Value × Ev)) : List Value := L.flatMap fun y => [.int .i64 (y.2.kind : Int), y.1, .int .i64 (y.2.err : Int)]
def stars : List (Value × Ev) → SP
  | [] => emp
  | y :: t => ownD y.1 y.2.frame * stars t
theorem stars_snoc (L : List (Value × Ev)) (y : Value × Ev) : stars (L ++ [y]) = stars L * ownD y.1 y.2.frame := by
  induction L with
  | nil => exact SP.mul_comm _ _
  | cons z t ih => show _ * stars (t ++ [y]) = _; rw [ih, ← SP.mul_assoc]; rfl
theorem stars_get {F : SP} {w : World} : ∀ (L : List (Value × Ev)) (i : Nat) (v : Value) (e : Ev), (stars L * F).on w → L[i]? = some (v, e) → IsBytes w v e.frame
  | [], i, v, e, _, h => by simp at h
  | y :: t, 0, v, e, h, hi => by
    simp only [List.getElem?_cons_zero, Option.some.injEq] at hi
    subst hi
    have h2 : ((ownD v e.frame * stars t) * F).on w := h
    rw [SP.mul_assoc] at h2
    exact own_bytes h2
  | y :: t, i + 1, v, e, h, hi => by
    have h2 : ((ownD y.1 y.2.frame * stars t) * F).on w := h
    rw [SP.mul_assoc] at h2
    exact stars_get t i v e h2.right (by simpa using hi)
theorem evCells_length (L : List (Value × Ev)) : (evCells L).length = L.length * 3 := by
  induction L with
  | nil => rfl
  | cons y t ih => simp only [evCells, List.flatMap_cons, List.length_append, List.length_cons] at ih ⊢; rw [ih]; simp; omega
theorem evCells_snoc (L : List (Value × Ev)) (y : Value × Ev) : evCells (L ++ [y]) = evCells L ++ [.int .i64 (y.2.kind : Int), y.1, .int .i64 (y.2.err : Int)] := by simp [evCells]
theorem evCells_get : ∀ (L : List (Value × Ev)) (i : Nat) (v : Value) (e : Ev), L[i]? = some (v, e) → (evCells L)[i * 3]? = some (.int .i64 (e.kind : Int)) ∧ (evCells L)[i * 3 + 1]? = some v ∧ (evCells L)[i * 3 + 2]? = some (.int .i64 (e.err : Int))
  | [], i, v, e, h => by simp at h
  | y :: t, 0, v, e, hi => by
    simp only [List.getElem?_cons_zero, Option.some.injEq] at hi
    subst hi
    exact ⟨rfl, rfl, rfl⟩
  | y :: t, i + 1, v, e, hi => by
    have := evCells_get t i v e (by simpa using hi)
    rw [show (i + 1) * 3 = i * 3 + 3 by omega, show i * 3 + 3 + 1 = (i * 3 + 1) + 3 by omega, show i * 3 + 3 + 2 = (i * 3 + 2) + 3 by omega]
    exact this
def Evs (v : Value) (L : List (Value × Ev)) : SP := own 144 3 v L.length (evCells L) * stars L
theorem Evs.nil {F : SP} {w : World} (h : F.on w) : (Evs (.slice Option.none 0 0) [] * F).on w := by
  show ((own 144 3 (.slice Option.none 0 0) 0 [] * emp) * F).on w
  rw [SP.mul_assoc]
  exact own_nil _ 3 (on_emp_mul.2 h)
theorem Evs.push {v2 x : Value} {L : List (Value × Ev)} {ev : Ev} {F : SP} {w : World} (h : (own 144 3 v2 (L.length + 1) (evCells L ++ [.int .i64 (ev.kind : Int), x, .int .i64 (ev.err : Int)]) * (stars L * (ownD x ev.frame * F))).on w) :
    (Evs v2 (L ++ [(x, ev)]) * F).on w := by
  unfold Evs
  rw [evCells_snoc, stars_snoc, List.length_append, SP.mul_assoc, SP.mul_assoc]
  exact h

def evOf (r : List UInt8 × Nat × DsS) : Ev := if r.2.1 = 0 then (if 0 < r.1.length then ⟨1, r.1, 0⟩ else ⟨0, [], 0⟩) else ⟨2, r.1, r.2.1⟩
def feedK (s : DsS) (b : List UInt8) : Nat → List Ev × DsS
  | 0 => ([], s)
  | k + 1 => ((feedK s b k).1 ++ [evOf ((feedK s b k).2.feed (b.getD k 0))], ((feedK s b k).2.feed (b.getD k 0)).2.2)
theorem feedK_ok {s : DsS} (h : s.Ok) (b : List UInt8) : ∀ k, (feedK s b k).2.Ok
  | 0 => h
  | k + 1 => DsS.feed_ok (feedK_ok h b k) _
theorem feedK_length (s : DsS) (b : List UInt8) : ∀ k, (feedK s b k).1.length = k
  | 0 => rfl
  | k + 1 => by show (_ ++ [_]).length = _; rw [List.length_append, feedK_length s b k]; rfl
theorem infoEv : (Try.prog.info? 144).map (fun i => (i.zero, i.size, i.bytes)) = some (some (.agg #[.int .i64 0, .slice Option.none 0 0, .int .i64 0]), 3, 40) := by kernel_rfl
end Go.Proofs.Ytjmgnfpcieofkaa

/- A decoder that is fed frames: their texts come, one by one, and nothing else. -/
namespace Go.Proofs.Ytjmgnfpcieofkaa
set_option linter.unusedVariables false

def run (s : DsS) : List UInt8 → List Ev × DsS
  | [] => ([], s)
  | c :: t => (evOf (s.feed c) :: (run (s.feed c).2.2 t).1, (run (s.feed c).2.2 t).2)
theorem run_append (a b : List UInt8) : ∀ s : DsS, run s (a ++ b) = ((run s a).1 ++ (run (run s a).2 b).1, (run (run s a).2 b).2) := by
  induction a with
  | nil => intro s; rfl
  | cons c t ih => intro s; simp [run, ih]
theorem feedK_run (s : DsS) (b : List UInt8) : ∀ k, k ≤ b.length → feedK s b k = run s (b.take k) := by
  intro k
  induction k with
  | zero => intro _; rw [List.take_zero]; rfl
  | succ k ih =>
    intro h
    have e : b.take (k + 1) = b.take k ++ [b.getD k 0] := by
      rw [List.take_add_one, List.getD_eq_getElem?_getD, List.getElem?_eq_getElem (by omega)]
      rfl
    rw [e, run_append, ← ih (by omega)]
    rfl
theorem feedK_all (s : DsS) (b : List UInt8) : feedK s b b.length = run s b := by rw [feedK_run s b _ (Nat.le_refl _), List.take_length]

structure DsS.Good (s : DsS) (m : Nat) : Prop where
  most : s.most = m
  skip : s.skip = true → s.text = [] ∧ s.esc = false
theorem DsS.keep_good {s : DsS} {m : Nat} (h : s.most = m) (hs : s.skip = false) (he : s.esc = false) (c : UInt8) : (s.keep c).2.Good m := by
  unfold DsS.keep
  split
  · exact ⟨h, fun hh => by rw [hs] at hh; cases hh⟩
  · exact ⟨h, fun _ => ⟨rfl, he⟩⟩
theorem DsS.feed_good {s : DsS} {m : Nat} (h : s.Good m) (c : UInt8) : (s.feed c).2.2.Good m := by
  unfold DsS.feed
  split
  · rename_i hk; exact ⟨h.most, fun _ => h.skip hk⟩
  rename_i hk
  have hk : s.skip = false := by simpa using hk
  split
  · unfold DsS.second
    split
    · exact DsS.keep_good (s := { s with esc := false }) h.most hk rfl _
    split
    · exact DsS.keep_good (s := { s with esc := false }) h.most hk rfl _
    · exact ⟨h.most, fun _ => ⟨rfl, rfl⟩⟩
  rename_i he
  have he : s.esc = false := by simpa using he
  split
  · exact ⟨h.most, fun hh => by rw [hk] at hh; cases hh⟩
  split
  · exact ⟨h.most, fun hh => by rw [hk] at hh; cases hh⟩
  · exact DsS.keep_good h.most hk he _
theorem run_good {m : Nat} (b : List UInt8) : ∀ {s : DsS}, s.Good m → (run s b).2.Good m := by
  induction b with
  | nil => intro s h; exact h
  | cons c t ih => intro s h; exact ih (DsS.feed_good h c)
theorem end_clean {s : DsS} {m : Nat} (h : s.Good m) : (s.feed 192).2.2 = ⟨[], m, false, false⟩ := by
  obtain ⟨text, most, esc, skip⟩ := s
  obtain ⟨hm, hs⟩ := h
  dsimp only at hm hs
  subst hm
  unfold DsS.feed
  cases skip with
  | true => obtain ⟨rfl, rfl⟩ := hs rfl; rfl
  | false => cases esc <;> rfl

def zev : Ev := ⟨0, [], 0⟩
end Go.Proofs.Ytjmgnfpcieofkaa

/- What any bytes bring: part by part, as the document's answer counts. -/
namespace Go.Proofs.Ytjmgnfpcieofkaa
set_option linter.unusedVariables false

/-- what each byte of a part brings, where so much of a text is there -/
def partF (m : Nat) : Nat → List UInt8 → List UInt8 → List Ev
  | 0, _, b => List.replicate b.length zev
  | _ + 1, _, [] => []
  | n + 1, text, c :: t =>
    if c = 192 then (if 0 < text.length then ⟨1, text, 0⟩ else zev) :: List.replicate t.length zev
    else if c = 219 then
      (match t with
      | [] => [zev]
      | d :: t' => if d ≠ 220 ∧ d ≠ 221 then zev :: ⟨2, [], 7⟩ :: List.replicate t'.length zev
        else if text.length = m then zev :: ⟨2, [], 17⟩ :: List.replicate t'.length zev
        else zev :: zev :: partF m n (text ++ [if d = 220 then 192 else 219]) t')
    else if text.length = m then ⟨2, [], 17⟩ :: List.replicate t.length zev
    else zev :: partF m n (text ++ [c]) t

theorem run_skip (m : Nat) : ∀ t : List UInt8, (∀ c ∈ t, c ≠ 192) → run ⟨[], m, false, true⟩ t = (List.replicate t.length zev, ⟨[], m, false, true⟩) := by
  intro t
  induction t with
  | nil => intro _; rfl
  | cons c t ih =>
    intro h
    have hc : c ≠ 192 := h c (by simp)
    have hf : DsS.feed ⟨[], m, false, true⟩ c = ([], 0, ⟨[], m, false, true⟩) := by
      unfold DsS.feed
      simp [hc]
    simp only [run]
    rw [hf, ih (fun c hc => h c (by simp [hc]))]
    rfl
theorem run_skip_end (m : Nat) (t e : List UInt8) (h : ∀ c ∈ t, c ≠ 192) (he : e = [] ∨ e = [192]) : (run ⟨[], m, false, true⟩ (t ++ e)).1 = List.replicate (t ++ e).length zev := by
  rw [run_append, run_skip m t h]
  rcases he with rfl | rfl
  · simp [run]
  · have hf : DsS.feed ⟨[], m, false, true⟩ 192 = ([], 0, ⟨[], m, false, false⟩) := rfl
    simp only [run]
    rw [hf]
    rw [List.length_append, ← List.replicate_append_replicate]
    rfl
theorem run_part (m : Nat) : ∀ (n : Nat) (q text e : List UInt8), q.length < n → (∀ c ∈ q, c ≠ 192) → text.length ≤ m → (e = [] ∨ e = [192]) → (run ⟨text, m, false, false⟩ (q ++ e)).1 = partF m n text (q ++ e) := by
  intro n
  induction n with
  | zero => intro q text e h; omega
  | succ n ih =>
    intro q text e hn hq ht he
    cases q with
    | nil =>
      rcases he with rfl | rfl
      · rfl
      · have hf : DsS.feed ⟨text, m, false, false⟩ 192 = (text, 0, ⟨[], m, false, false⟩) := rfl
        simp only [List.nil_append, run, partF, if_pos, List.length_nil, List.replicate_zero]
        rw [hf]
        unfold evOf
        simp [zev]
    | cons c t =>
      have hc : c ≠ 192 := hq c (by simp)
      have htq : ∀ c ∈ t, c ≠ 192 := fun c h => hq c (by simp [h])
      simp only [List.length_cons] at hn
      by_cases h219 : c = 219
      · subst h219
        have hf : DsS.feed ⟨text, m, false, false⟩ 219 = ([], 0, ⟨text, m, true, false⟩) := rfl
        cases t with
        | nil =>
          rcases he with rfl | rfl
          · simp only [List.cons_append, List.nil_append, run, partF, if_neg hc, if_pos]
            rw [hf]; rfl
          · simp only [List.cons_append, List.nil_append, run, partF, if_neg hc, if_pos]
            rw [hf]
            rw [show DsS.feed ⟨text, m, true, false⟩ 192 = ([], 7, ⟨[], m, false, false⟩) from rfl]
            rfl
        | cons d t' =>
          have hd : d ≠ 192 := htq d (by simp)
          have htq' : ∀ c ∈ t', c ≠ 192 := fun c h => htq c (by simp [h])
          simp only [List.length_cons] at hn
          have hes : DsS.feed ⟨text, m, true, false⟩ d = ([], DsS.second ⟨text, m, true, false⟩ d) := rfl
          simp only [List.cons_append, run, partF, if_neg hc, if_pos]
          rw [hf, hes]
          by_cases hx : d ≠ 220 ∧ d ≠ 221
          · rw [if_pos hx]
            have hs : DsS.second ⟨text, m, true, false⟩ d = (7, ⟨[], m, false, true⟩) := by unfold DsS.second; rw [if_neg hx.1, if_neg hx.2]; simp [hd]
            rw [hs]
            dsimp only
            rw [run_skip_end m t' e htq' he]
            rfl
          · rw [if_neg hx]
            have hs : DsS.second ⟨text, m, true, false⟩ d = DsS.keep ⟨text, m, false, false⟩ (if d = 220 then 192 else 219) := by
              unfold DsS.second
              by_cases h1 : d = 220
              · rw [if_pos h1, if_pos h1]
              · rw [if_neg h1, if_neg h1, if_pos (by by_cases h2 : d = 221; exact h2; exact (hx ⟨h1, h2⟩).elim)]
            rw [hs]
            unfold DsS.keep
            by_cases hm : text.length = m
            · rw [if_pos hm, if_neg (by simp; omega)]
              dsimp only
              rw [run_skip_end m t' e htq' he]
              rfl
            · rw [if_neg hm, if_pos (by simp; omega)]
              dsimp only
              rw [ih t' _ e (by omega) htq' (by simp; omega) he]
              rfl
      · have hf : DsS.feed ⟨text, m, false, false⟩ c = ([], DsS.keep ⟨text, m, false, false⟩ c) := by
          unfold DsS.feed
          rw [if_neg (by simp), if_neg (by simp), if_neg hc, if_neg h219]
        simp only [List.cons_append, run, partF, if_neg hc, if_neg h219]
        rw [hf]
        unfold DsS.keep
        by_cases hm : text.length = m
        · rw [if_pos hm, if_neg (by simp; omega)]
          dsimp only
          rw [run_skip_end m t e htq he]
          rfl
        · rw [if_neg hm, if_pos (by simp; omega)]
          dsimp only
          rw [ih t _ e (by omega) htq (by simp; omega) he]
          rfl

/-- bytes, cut behind each 192 -/
def partsF : List UInt8 → List (List UInt8)
  | [] => [[]]
  | c :: t => if c = 192 then [192] :: partsF t else match partsF t with
    | [] => [[c]]
    | p :: ps => (c :: p) :: ps
theorem partsF_none : ∀ q : List UInt8, (∀ c ∈ q, c ≠ 192) → partsF q = [q]
  | [], _ => rfl
  | c :: t, h => by
    unfold partsF
    rw [if_neg (h c (by simp)), partsF_none t (fun c hc => h c (by simp [hc]))]
theorem partsF_end : ∀ (q rest : List UInt8), (∀ c ∈ q, c ≠ 192) → partsF (q ++ 192 :: rest) = (q ++ [192]) :: partsF rest
  | [], rest, _ => by simp [partsF]
  | c :: t, rest, h => by
    rw [List.cons_append, show partsF (c :: (t ++ 192 :: rest)) = if c = 192 then [192] :: partsF (t ++ 192 :: rest) else match partsF (t ++ 192 :: rest) with
      | [] => [[c]]
      | p :: ps => (c :: p) :: ps from rfl, if_neg (h c (by simp)), partsF_end t rest (fun c hc => h c (by simp [hc]))]
    rfl
theorem split_192 : ∀ b : List UInt8, (∀ c ∈ b, c ≠ 192) ∨ ∃ q rest, b = q ++ 192 :: rest ∧ ∀ c ∈ q, c ≠ 192
  | [] => .inl (by simp)
  | c :: t => by
    by_cases h : c = 192
    · exact .inr ⟨[], t, by rw [h]; rfl, by simp⟩
    · rcases split_192 t with h1 | ⟨q, rest, h1, h2⟩
      · exact .inl (fun x hx => by simp at hx; rcases hx with rfl | hx; exact h; exact h1 x hx)
      · exact .inr ⟨c :: q, rest, by rw [h1]; rfl, fun x hx => by simp at hx; rcases hx with rfl | hx; exact h; exact h2 x hx⟩
/-- what each byte brings, part by part -/
theorem run_parts (m : Nat) : ∀ (n : Nat) (b : List UInt8), b.length < n → (run ⟨[], m, false, false⟩ b).1 = (partsF b).flatMap fun p => partF m (p.length + 1) [] p := by
  intro n
  induction n with
  | zero => intro b h; omega
  | succ n ih =>
    intro b hn
    rcases split_192 b with h | ⟨q, rest, rfl, h⟩
    · rw [partsF_none b h]
      have := run_part m (b.length + 1) b [] [] (by omega) h (by simp) (.inl rfl)
      rw [List.append_nil] at this
      rw [this]
      simp
    · rw [partsF_end q rest h]
      have e : q ++ 192 :: rest = (q ++ [192]) ++ rest := by simp
      rw [e, run_append]
      have h1 := run_part m ((q ++ [192]).length + 1) q [] [192] (by simp; omega) h (by simp) (.inr rfl)
      have h2 : (run ⟨[], m, false, false⟩ (q ++ [192])).2 = ⟨[], m, false, false⟩ := by
        rw [run_append]
        exact end_clean (run_good q ⟨rfl, fun h => by cases h⟩)
      rw [h1, h2, ih rest (by simp at hn; omega), List.flatMap_cons]
end Go.Proofs.Ytjmgnfpcieofkaa
