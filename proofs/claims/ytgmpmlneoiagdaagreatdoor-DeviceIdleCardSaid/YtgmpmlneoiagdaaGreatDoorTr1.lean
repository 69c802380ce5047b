/- transfer: keepers in memory; New. -/
import Derived.Test.YtgmpmlneoiagdaaGreatDoorSet6
import Derived.Test.YtgmpmlneoiagdaaGreatDoorGBk
namespace Go.Proofs.YtgmpmlneoiagdaaGreatDoor
open Go.ChangeShapes Go.WideShapes Go.ChangeAt Go.RowKit
set_option linter.unusedVariables false
set_option linter.unusedSimpArgs false

def kpCells (p : Nat) (s : RecS) (iv : Value) : Array Value := #[fptr p, .int .i64 18, u32v s.seq, u32v s.floor, u32v s.bytes, u32v s.sum, vb s.phase, u32v s.done, iv]
/-- a keeper in memory -/
def Kp (q p : Nat) (s : RecS) : SP := ex fun iv : Value => blk q (.cells (kpCells p s iv) 151 (0, 0)) * ownR iv s.init
theorem Kp.open {q p : Nat} {s : RecS} {F : SP} {w : World} (h : (Kp q p s * F).on w) : ∃ iv, (blk q (.cells (kpCells p s iv) 151 (0, 0)) * (ownR iv s.init * F)).on w := by
  obtain ⟨iv, h⟩ := on_ex_mul.1 h
  exact ⟨iv, by rw [← SP.mul_assoc]; exact h⟩
theorem Kp.shut {q p : Nat} {s : RecS} {F : SP} {w : World} {iv : Value} (h : (blk q (.cells (kpCells p s iv) 151 (0, 0)) * (ownR iv s.init * F)).on w) : (Kp q p s * F).on w :=
  on_ex_mul.2 ⟨iv, by rw [SP.mul_assoc]; exact h⟩
theorem bk_build (p : Nat) (w : World) : (Instr.build 82 #[(0, fptr p), (1, .int .i64 18)]).run Tryz.prog w = .ok (bankV (fptr p) 18) w := by kernel_rfl
theorem kp_build (p : Nat) (s : RecS) (iv : Value) (w : World) : (Instr.build 151 #[(0, bankV (fptr p) 18), (1, .agg (recCells s iv))]).run Tryz.prog w = .ok (.agg (kpCells p s iv)) w := by kernel_rfl
theorem wpList_build_bk {ops : Array Oper} {rest : List Oper} {o : Oper} {a : Act} {w : World} {Q : Exit → Act → World → Prop} (hgd : o.guard = Option.none) (x0 x1 : Operand) (ho : o.op = .build 82 #[(0, x0), (1, x1)]) (p : Nat)
    (h0 : a.eval x0 = fptr p) (h1 : a.eval x1 = .int .i64 18) (hk : wpList Tryz.prog ops Q rest (a.put o.dst (bankV (fptr p) 18)) w) : wpList Tryz.prog ops Q (o :: rest) a w := by
  have hr : (execOp a.eval o).run Tryz.prog w = .ok (.value (bankV (fptr p) 18)) w := by
    unfold execOp
    rw [ho]
    simp only [List.map_toArray, List.map_cons, List.map_nil, h0, h1]
    rw [Sem.run_bind, bk_build]
    rfl
  exact wpList_plain hgd fun _ hK => by
    unfold Oper.wp
    simp only [hr]
    exact hK _ _ hk
theorem wpList_build_kp {ops : Array Oper} {rest : List Oper} {o : Oper} {a : Act} {w : World} {Q : Exit → Act → World → Prop} (hgd : o.guard = Option.none) (x0 x1 : Operand) (ho : o.op = .build 151 #[(0, x0), (1, x1)]) (p : Nat) (s : RecS) (iv : Value)
    (h0 : a.eval x0 = bankV (fptr p) 18) (h1 : a.eval x1 = .agg (recCells s iv)) (hk : wpList Tryz.prog ops Q rest (a.put o.dst (.agg (kpCells p s iv))) w) : wpList Tryz.prog ops Q (o :: rest) a w := by
  have hr : (execOp a.eval o).run Tryz.prog w = .ok (.value (.agg (kpCells p s iv))) w := by
    unfold execOp
    rw [ho]
    simp only [List.map_toArray, List.map_cons, List.map_nil, h0, h1]
    rw [Sem.run_bind, kp_build]
    rfl
  exact wpList_plain hgd fun _ hK => by
    unfold Oper.wp
    simp only [hr]
    exact hK _ _ hk
/-- what New's error is -/
def FlS.kErr (s : FlS) : Nat := if s.B.length < 8704 then 1 else if s.load.2.2 ≠ 0 ∧ s.load.2.2 ≠ 15 then s.load.2.2 else 0
/-- how New ends -/
def KNew (p : Nat) (s : FlS) (F : SP) (w : World) (e : Ending) (w' : World) : Prop :=
  (s.kErr ≠ 0 ∧ e = .returned (.tuple #[.pointer Option.none, .int .i64 (s.kErr : Nat)]) ∧ (Flash p s * F).on w' ∧ Str w w') ∨
  (s.kErr = 0 ∧ ∃ q, e = .returned (.tuple #[.pointer (some ⟨q, 0, Option.none⟩), .int .i64 0]) ∧ (Kp q p s.load.1 * (Flash p s * F)).on w' ∧ Str w w')

set_option maxRecDepth 100000 in
set_option maxHeartbeats 16000000 in
theorem tnew_any (p : Nat) (s : FlS) (F : SP) (w : World) (h : (Flash p s * F).on w) (ok : s.Ok) :
    Calls Tryz.prog 70 #[fptr p] w (KNew p s F w) := by
  have hur := Tryz.underlying31
  have hz := rc_hz
  have hS := size_any p s F w h ok
  have hL := load_any p s F w h ok
  have H := hide h
  have hm := ok.most
  have hpg := ok.pages
  have hle := load_err s
  have hke : s.kErr = if s.B.length < 8704 then 1 else if s.load.2.2 ≠ 0 ∧ s.load.2.2 ≠ 15 then s.load.2.2 else 0 := rfl
  clear h ok
  by_cases hB : s.B.length < 8704
  · have hk : s.kErr = 1 := by rw [hke, if_pos hB]
    have Hk := hide hk
    have hBI : (s.B.length : Int) < 8704 := by omega
    clear hke hk hL hB
    go_enter Tryz.func70, Tryz.ntmps70
    go_wp2_with fail
    refine hS.mono ?_
    clear hS
    rintro e w1 ⟨rfl, rfl⟩
    go_wp2_with fail
    go_ret2
    exact .inl ⟨by rw [Hk.out]; decide, by rw [Hk.out]; rfl, H.out, Str.refl _⟩
  · rw [if_neg hB] at hke
    have hBI : ¬ (s.B.length : Int) < 8704 := by omega
    have hB2 : s.B.length ≤ 16384 := by omega
    obtain ⟨⟨R, pg, er⟩, hX⟩ : ∃ x, x = s.load := ⟨_, rfl⟩
    unfold KNew
    rw [← hX] at hL hke hle ⊢
    clear hX hB
    simp only at hke hle ⊢
    have Hke := hide hke
    clear hke hm hpg
    go_enter Tryz.func70, Tryz.ntmps70
    go_wp2_with fail
    refine hS.mono ?_
    clear hS
    rintro e w1 ⟨rfl, rfl⟩
    go_wp2_with fail
    refine hL.mono ?_
    clear hL
    rintro e w1 ⟨iv, rfl, ho, hs⟩
    have HoR := hide (rc_one (s := R) (iv := iv) (own_slice ho))
    have HsR := hide (rc_info R iv)
    have h1 := (on_all_to ho H.out).alloc (.cells (recCells zeroS nilV) 31)
    have gA := on_blk_mul h1
    have h2 := h1.setRow (recCells R iv)
    have g2 := on_blk_mul h2
    have H2 := hide h2
    have S2 := hide ((hs.alloc (.cells (recCells zeroS nilV) 31)).setRow w1.heap.size (recCells R iv))
    have hsl := own_slice ho
    have Hsl := hide hsl
    clear ho hs h1 h2 hsl
    dsimp only
    by_cases hbad : er ≠ 0 ∧ er ≠ 15
    · have hk : s.kErr = er := by rw [Hke.out, if_pos hbad]
      have Hk := hide hk
      have e1 : (((er : Nat) : Int) != 0) = true := by simp only [bne_iff_ne, ne_eq]; omega
      have e2 : (((er : Nat) : Int) != 15) = true := by simp only [bne_iff_ne, ne_eq]; omega
      have Hn := hide hbad.1
      clear hk hbad Hke
      go_wp2_with (refine wpList_store_row rfl _ _ _ rfl w1.heap.size (recCells R iv) rfl rfl _ _ gA HsR.out rfl HoR.out ?_; clear gA)
      go_ret2
      exact .inl ⟨by rw [Hk.out]; exact Hn.out, by rw [Hk.out]; rfl, H2.out.right.right, S2.out⟩
    · have hk : s.kErr = 0 := by rw [Hke.out, if_neg hbad]
      have Hk := hide hk
      have hor : er = 0 ∨ er = 15 := by omega
      clear hk hbad Hke hle
      have hK := (H2.out.right.alloc (.cells (kpCells p R iv) 151))
      have HK := hide (Kp.shut hK)
      have SK := hide (S2.out.alloc (.cells (kpCells p R iv) 151))
      clear hK
      rcases hor with rfl | rfl
      · rw [show ((0 : Nat) : Int) = 0 from rfl]
        have hstop : ∀ p : Prop, Hid p → p := fun _ h => h.out
        go_wp2_with (refine wpList_store_row rfl _ _ _ rfl w1.heap.size (recCells R iv) rfl rfl _ _ gA HsR.out rfl HoR.out ?_; refine hstop _ ?_)
        refine hide ?_
        clear hstop gA
        generalize (w1.alloc (.cells (recCells zeroS nilV) 31)).setRow w1.heap.size (recCells R iv) = w2 at *
        generalize w1.heap.size = gR at *
        go_wp2_with (first
          | (refine wpList_build_bk rfl _ _ rfl p rfl rfl ?_)
          | (refine wpList_load_row rfl _ _ rfl gR rfl _ (recCells R iv) _ _ g2 hur rfl HsR.out ?_)
          | (refine wpList_build_kp rfl _ _ rfl p R iv rfl rfl ?_))
        go_ret2
        exact .inr ⟨Hk.out, _, rfl, HK.out, SK.out⟩
      · rw [show ((15 : Nat) : Int) = 15 from rfl]
        have hstop : ∀ p : Prop, Hid p → p := fun _ h => h.out
        go_wp2_with (refine wpList_store_row rfl _ _ _ rfl w1.heap.size (recCells R iv) rfl rfl _ _ gA HsR.out rfl HoR.out ?_; refine hstop _ ?_)
        refine hide ?_
        clear hstop gA
        generalize (w1.alloc (.cells (recCells zeroS nilV) 31)).setRow w1.heap.size (recCells R iv) = w2 at *
        generalize w1.heap.size = gR at *
        go_wp2_with (first
          | (refine wpList_build_bk rfl _ _ rfl p rfl rfl ?_)
          | (refine wpList_load_row rfl _ _ rfl gR rfl _ (recCells R iv) _ _ g2 hur rfl HsR.out ?_)
          | (refine wpList_build_kp rfl _ _ rfl p R iv rfl rfl ?_))
        go_ret2
        exact .inr ⟨Hk.out, _, rfl, HK.out, SK.out⟩
end Go.Proofs.YtgmpmlneoiagdaaGreatDoor
