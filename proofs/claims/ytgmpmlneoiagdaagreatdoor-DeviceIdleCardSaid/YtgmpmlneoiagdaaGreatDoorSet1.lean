/- settings: the newest record. -/
import Derived.Test.YtgmpmlneoiagdaaGreatDoorSetMath
import Derived.BigGuard
import Derived.Test.YtgmpmlneoiagdaaGreatDoorGRecB
namespace Go.Proofs.YtgmpmlneoiagdaaGreatDoor
open Go.ChangeShapes Go.WideShapes Go.ChangeAt Go.RowKit
set_option linter.unusedVariables false
set_option linter.unusedSimpArgs false

/-- a record, and its page -/
def stCells (s : RecS) (iv : Value) (page : Nat) : Array Value := #[u32v s.seq, u32v s.floor, u32v s.bytes, u32v s.sum, vb s.phase, u32v s.done, iv, .int .i64 (page : Int)]
theorem st_size (s : RecS) (iv : Value) (page : Nat) : (stCells s iv page).size = 8 := rfl
theorem st_hz (w : World) : (zeroValue 58).run Tryz.prog w = .ok (.agg (stCells zeroS nilV 0)) w := by kernel_rfl
theorem st_build0 (w : World) : (Instr.build 58 #[]).run Tryz.prog w = .ok (.agg (stCells zeroS nilV 0)) w := by kernel_rfl
theorem st_info (s : RecS) (iv : Value) (page : Nat) : (Tryz.prog.info? 58).map (·.size) = some (stCells s iv page).size := by rw [st_size]; kernel_rfl
theorem rc_info (s : RecS) (iv : Value) : (Tryz.prog.info? 31).map (·.size) = some (recCells s iv).size := by rw [show (recCells s iv).size = 7 from rfl]; kernel_rfl
theorem wpList_build_st0 {ops : Array Oper} {rest : List Oper} {o : Oper} {a : Act} {w : World} {Q : Exit → Act → World → Prop} (hgd : o.guard = Option.none) (ho : o.op = .build 58 #[])
    (hk : wpList Tryz.prog ops Q rest (a.put o.dst (.agg (stCells zeroS nilV 0))) w) : wpList Tryz.prog ops Q (o :: rest) a w := by
  have hr : (execOp a.eval o).run Tryz.prog w = .ok (.value (.agg (stCells zeroS nilV 0))) w := by
    unfold execOp
    rw [ho]
    simp only [List.map_toArray, List.map_nil]
    rw [Sem.run_bind, st_build0]
    rfl
  exact wpList_plain hgd fun _ hK => by
    unfold Oper.wp
    simp only [hr]
    exact hK _ _ hk
theorem st_build2 (s : RecS) (iv : Value) (page : Nat) (w : World) : (Instr.build 58 #[(0, .agg (recCells s iv)), (1, .int .i64 (page : Int))]).run Tryz.prog w = .ok (.agg (stCells s iv page)) w := by kernel_rfl
theorem wpList_build_st {ops : Array Oper} {rest : List Oper} {o : Oper} {a : Act} {w : World} {Q : Exit → Act → World → Prop} (hgd : o.guard = Option.none) (x0 x1 : Operand) (ho : o.op = .build 58 #[(0, x0), (1, x1)]) (s : RecS) (iv : Value) (page : Nat)
    (h0 : a.eval x0 = .agg (recCells s iv)) (h1 : a.eval x1 = .int .i64 (page : Int)) (hk : wpList Tryz.prog ops Q rest (a.put o.dst (.agg (stCells s iv page))) w) : wpList Tryz.prog ops Q (o :: rest) a w := by
  have hr : (execOp a.eval o).run Tryz.prog w = .ok (.value (.agg (stCells s iv page))) w := by
    unfold execOp
    rw [ho]
    simp only [List.map_toArray, List.map_cons, List.map_nil, h0, h1]
    rw [Sem.run_bind, st_build2]
    rfl
  exact wpList_plain hgd fun _ hK => by
    unfold Oper.wp
    simp only [hr]
    exact hK _ _ hk
theorem st_one {s : RecS} {iv : Value} (h : ∃ a n c, iv = .slice a n c) (page : Nat) : (stCells s iv page).all (·.oneCell') = true := by
  obtain ⟨x, n, c, rfl⟩ := h
  simp [stCells, Value.oneCell']
theorem rc_one {s : RecS} {iv : Value} (h : ∃ a n c, iv = .slice a n c) : (recCells s iv).all (·.oneCell') = true := by
  obtain ⟨x, n, c, rfl⟩ := h
  simp [recCells, Value.oneCell']
theorem own_slice {F : SP} {w : World} {e : TypeId} {size n : Nat} {v : Value} {xs : List Value} (h : (own e size v n xs * F).on w) : ∃ a n c, v = .slice a n c := by
  obtain ⟨a, c, rfl, _⟩ := own_value h
  exact ⟨_, _, _, rfl⟩
/-- how newest ends -/
def NewEnd (R : RecS × Nat × Nat) (w : World) (e : Ending) (w' : World) : Prop := ∃ iv, e = .returned (.tuple #[.agg (stCells R.1 iv R.2.1), .int .i64 (R.2.2 : Nat)]) ∧ (ownR iv R.1.init * all w).on w' ∧ Str w w'

set_option maxRecDepth 100000 in
set_option maxHeartbeats 8000000 in
theorem newest_small (p : Nat) (s : FlS) (F : SP) (w : World) (h : (Flash p s * F).on w) (ok : s.Ok) (hB : s.B.length < 512) :
    Calls Tryz.prog 21 #[fptr p] w (NewEnd (zeroS, 0, 1) w) := by
  have hus := Tryz.underlying58
  have hz := st_hz
  have H := hide h
  have h0 := (on_all w).alloc (.cells (stCells zeroS nilV 0) 58)
  have s0 := (Str.refl w).alloc (.cells (stCells zeroS nilV 0) 58)
  have H0 := hide h0
  have S0 := hide s0
  have hS := size_any p s F (w.alloc (.cells (stCells zeroS nilV 0) 58)) (h.alloc' _) ok
  have gR := on_blk_mul h0
  have hBI : (s.B.length : Int) < 512 := by omega
  clear h h0 s0 ok hB
  have Ho := hide (st_one (s := zeroS) (iv := nilV) ⟨_, _, _, rfl⟩ 0)
  have Hs := hide (st_info zeroS nilV 0)
  generalize hZ : stCells zeroS nilV 0 = Z at *
  have HZ := hide hZ
  clear hZ
  go_enter Tryz.func21, Tryz.ntmps21
  go_wp2_with fail
  refine hS.mono ?_
  clear hS
  rintro e w1 ⟨rfl, rfl⟩
  go_wp2_with (first
    | (refine wpList_build_st0 rfl rfl ?_; rw [HZ.out])
    | (refine wpList_store_row rfl _ _ _ rfl w.heap.size Z rfl rfl _ _ gR Hs.out rfl Ho.out ?_))
  refine bodyPost_ret (v := .tuple #[.agg Z, .int .i64 1]) (results_cell_row_tmp Tryz.results21 _ _ w.heap.size _ Z (0, 0) _ rfl (setRow_heap_same _ _ _ _ _ _ gR) hus rfl Hs.out (.int .i64 1) rfl) rfl ?_
  refine ⟨nilV, by rw [← HZ.out]; rfl, own_nil _ _ (H0.out.setRow _).right, S0.out.setRow _ _⟩

set_option maxRecDepth 100000 in
set_option maxHeartbeats 8000000 in
theorem newest_off (p : Nat) (s : FlS) (F : SP) (w : World) (h : (Flash p s * F).on w) (ok : s.Ok) (hB : ¬ s.B.length < 512) (hoff : s.off = true) :
    Calls Tryz.prog 21 #[fptr p] w (NewEnd (zeroS, 0, 5) w) := by
  have hus := Tryz.underlying58
  have hz := st_hz
  have H := hide h
  have h0 := (on_all w).alloc (.cells (stCells zeroS nilV 0) 58)
  have s0 := (Str.refl w).alloc (.cells (stCells zeroS nilV 0) 58)
  have H0 := hide h0
  have S0 := hide s0
  have hS := size_any p s F (w.alloc (.cells (stCells zeroS nilV 0) 58)) (h.alloc' _) ok
  have hO := off_any p s F (w.alloc (.cells (stCells zeroS nilV 0) 58)) (h.alloc' _)
  rw [hoff] at hO
  have gR := on_blk_mul h0
  have hpg := ok.pages
  have hm := ok.most
  have hBI : ¬ (s.B.length : Int) < 512 := by omega
  have hB2 : s.B.length ≤ 16384 := by omega
  clear h h0 s0 ok hB hoff hpg hm
  have Ho := hide (st_one (s := zeroS) (iv := nilV) ⟨_, _, _, rfl⟩ 0)
  have Hs := hide (st_info zeroS nilV 0)
  generalize hZ : stCells zeroS nilV 0 = Z at *
  have HZ := hide hZ
  clear hZ
  go_enter Tryz.func21, Tryz.ntmps21
  go_wp2_with fail
  refine hS.mono ?_
  clear hS
  rintro e w1 ⟨rfl, rfl⟩
  go_wp2_with fail
  refine hO.mono ?_
  clear hO
  rintro e w1 ⟨rfl, rfl⟩
  go_wp2_with (first
    | (refine wpList_build_st0 rfl rfl ?_; rw [HZ.out])
    | (refine wpList_store_row rfl _ _ _ rfl w.heap.size Z rfl rfl _ _ gR Hs.out rfl Ho.out ?_))
  refine bodyPost_ret (v := .tuple #[.agg Z, .int .i64 5]) (results_cell_row_tmp Tryz.results21 _ _ w.heap.size _ Z (0, 0) _ rfl (setRow_heap_same _ _ _ _ _ _ gR) hus rfl Hs.out (.int .i64 5) rfl) rfl ?_
  refine ⟨nilV, by rw [← HZ.out]; rfl, own_nil _ _ (H0.out.setRow _).right, S0.out.setRow _ _⟩

/-- what lies there ahead of a round -/
def NewRel (p : Nat) (s : FlS) (w : World) (k : Nat) (iv : Value) (e i : Value) (wr : World) : Prop :=
  i = .int .i64 k ∧ e = .int .i64 ((s.best k).2.2 : Nat) ∧
    (blk (w.heap.size + 1) (.cells (stCells (s.best k).1 iv (s.best k).2.1) 58 (0, 0)) * (blk w.heap.size (.cells (stCells zeroS nilV 0) 58 (0, 0)) * (ownR iv (s.best k).1.init * all w))).on wr ∧ Str w wr

set_option maxRecDepth 100000 in
set_option maxHeartbeats 16000000 in
theorem newest_on (p : Nat) (s : FlS) (F : SP) (w : World) (h : (Flash p s * F).on w) (ok : s.Ok) (hB : ¬ s.B.length < 512) (hoff : s.off = false) :
    Calls Tryz.prog 21 #[fptr p] w (NewEnd (s.best 2) w) := by
  have hus := Tryz.underlying58
  have hur := Tryz.underlying31
  have hz := st_hz
  have hzr : ∀ X, (zeroValue 31).run Tryz.prog X = .ok (.agg (recCells zeroS nilV)) X := fun X => by kernel_rfl
  have H := hide h
  have h0 := (on_all w).alloc (.cells (stCells zeroS nilV 0) 58)
  have h1 := ((own_nil 5 1 (on_all w)).alloc (.cells (stCells zeroS nilV 0) 58)).alloc (.cells (stCells zeroS nilV 0) 58)
  simp only [World.size_alloc] at h1
  have s1 := ((Str.refl w).alloc (.cells (stCells zeroS nilV 0) 58)).alloc (.cells (stCells zeroS nilV 0) 58)
  have H1 := hide h1
  have S1 := hide s1
  have hS := size_any p s F (w.alloc (.cells (stCells zeroS nilV 0) 58)) (h.alloc' _) ok
  have hO := off_any p s F (w.alloc (.cells (stCells zeroS nilV 0) 58)) (h.alloc' _)
  rw [hoff] at hO
  have hpg := ok.pages
  have hm := ok.most
  have hBI : ¬ (s.B.length : Int) < 512 := by omega
  have hB2 : s.B.length ≤ 16384 := by omega
  have hB5 : 512 ≤ s.B.length := by omega
  have HR := hide (fun X k (hk : k < 2) (hX : (all w).on X) => flread_any p s F X ((all_le H.out).on hX) ok hoff (k * 256) 160 (by omega))
  clear h h0 h1 s1 ok hB hoff hpg hm
  go_enter Tryz.func21, Tryz.ntmps21
  go_wp2_with fail
  refine hS.mono ?_
  clear hS
  rintro e w1 ⟨rfl, rfl⟩
  go_wp2_with fail
  refine hO.mono ?_
  clear hO
  rintro e w1 ⟨rfl, rfl⟩
  go_wp2_with fail
  generalize hw1 : (w.alloc (.cells (stCells zeroS nilV 0) 58)).alloc (.cells (stCells zeroS nilV 0) 58) = w1 at *
  clear hw1
  go_loopw [5, 18] (fun e i wr => ∃ k iv, k ≤ 2 ∧ NewRel p s w k iv e i wr) (fun _ i _ => 2 - (intOf i).toNat)
  case atStart => exact ⟨0, nilV, by omega, rfl, rfl, H1.out, S1.out⟩
  case round =>
    obtain ⟨k, iv, hk, rfl, rfl, hw, hstr⟩ := hrel
    have Hw := hide hw
    have Hstr := hide hstr
    by_cases hlt : k < 2
    · have hR := HR.out wr k hlt hw.right.right.right
      have hpk : (s.B.drop (k * 256)).take 160 = s.pg k := by unfold FlS.pg; rw [Nat.mul_comm]
      rw [hpk] at hR
      have hkk : ((k * 256 : Nat) : Int) = (k : Int) * 256 := by omega
      rw [hkk] at hR
      have hll : (s.pg k).length = 160 := by unfold FlS.pg; simp; omega
      have Hll := hide hll
      clear hw hstr hpk hkk hll
      go_wp2_with fail
      refine hR.mono ?_
      clear hR
      rintro e w2 ⟨v, rfl, ho1, hs⟩
      obtain ⟨x, rfl, ho⟩ := readQ.out ho1
      have hp := recparse_any x (s.pg k) w2 (own_bytes ho) (by rw [Hll.out]; decide)
      have H2 := hide ((on_all_to ho Hw.out).right)
      have S2 := hide (Hstr.out.trans hs)
      obtain ⟨ax, cx, rfl, _, _, _, _⟩ := own_value ho
      clear ho ho1 hs
      go_wp2_with fail
      refine hp.mono ?_
      clear hp
      rintro e w3 ⟨iv2, rfl, ho, hs⟩
      have h3 := (on_all_to ho H2.out).alloc (.cells (recCells zeroS nilV) 31)
      have s3 := (S2.out.trans hs).alloc (.cells (recCells zeroS nilV) 31)
      have h4 := h3.setRow (recCells (recGot (s.pg k)) iv2)
      have s4 := s3.setRow w3.heap.size (recCells (recGot (s.pg k)) iv2)
      have gN := on_blk_mul h3
      have gM := on_blk_mul h4
      have gB := on_blk_mul h4.right.right
      have H4 := hide h4
      have S4 := hide s4
      have HoR := hide (rc_one (s := recGot (s.pg k)) (own_slice ho))
      have HsR := hide (rc_info (recGot (s.pg k)) iv2)
      have HoS := hide (st_one (s := recGot (s.pg k)) (own_slice ho) k)
      have HsS := hide (st_info (recGot (s.pg k)) iv2 k)
      have hbest : s.best (k + 1) = if recErr (s.pg k) = 0 ∧ ((s.best k).2.2 = 15 ∨ (s.best k).1.seq < (readS (s.pg k)).seq) then (readS (s.pg k), k, 0) else s.best k := rfl
      have hq1 := (best_ok s k).seq
      have hq2 := (readS_any (s.pg k)).seq
      have hee := best_err s k
      clear h3 s3 h4 s4 ho hs H2 S2
      have hgot : recErr (s.pg k) = 0 → recGot (s.pg k) = readS (s.pg k) := fun h => by unfold recGot; rw [if_pos h]
      generalize recErr (s.pg k) = re at *
      generalize recGot (s.pg k) = G at *
      generalize readS (s.pg k) = Gr at *
      generalize hbk : s.best k = bk at *
      obtain ⟨b1, bp, be⟩ := bk
      clear hbk
      simp only at hbest hq1 hee H4 S4 gM gB
      by_cases hre : re = 0
      · obtain rfl := hgot hre
        clear hgot
        have e1 : (((re : Nat) : Int) == 0) = true := by rw [hre]; rfl
        have c1 : ((w3.alloc (.cells (recCells zeroS nilV) 31)).setRow w3.heap.size (recCells G iv2)).cell? ⟨w3.heap.size, 0, Option.none⟩ = some (u32v G.seq) := cell_of_row _ _ 0 _ _ _ gM
        have c2 : ((w3.alloc (.cells (recCells zeroS nilV) 31)).setRow w3.heap.size (recCells G iv2)).cell? ⟨w.heap.size + 1, 0, Option.none⟩ = some (u32v b1.seq) := cell_of_row _ _ 0 _ _ _ gB
        have hput : ∀ X, (blk w3.heap.size (.cells (recCells G iv2) 31 (0, 0)) * (ownR iv2 G.init * (blk (w.heap.size + 1) (.cells (stCells b1 iv bp) 58 (0, 0)) * (blk w.heap.size (.cells (stCells zeroS nilV 0) 58 (0, 0)) * (ownR iv b1.init * all w))))).on X →
            (blk (w.heap.size + 1) (.cells (stCells G iv2 k) 58 (0, 0)) * (blk w.heap.size (.cells (stCells zeroS nilV 0) 58 (0, 0)) * (ownR iv2 G.init * all w))).on (X.setRow (w.heap.size + 1) (stCells G iv2 k)) := by
          intro X hX
          have h1 := hX.right
          rw [show ownR iv2 G.init * (blk (w.heap.size + 1) (.cells (stCells b1 iv bp) 58 (0, 0)) * (blk w.heap.size (.cells (stCells zeroS nilV 0) 58 (0, 0)) * (ownR iv b1.init * all w))) = ownR iv b1.init * (blk (w.heap.size + 1) (.cells (stCells b1 iv bp) 58 (0, 0)) * (blk w.heap.size (.cells (stCells zeroS nilV 0) 58 (0, 0)) * (ownR iv2 G.init * all w))) by ac_rfl] at h1
          exact h1.right.setRow _
        have Hput := hide (hput _ H4.out)
        have Sput := hide (S4.out.setRow (w.heap.size + 1) (stCells G iv2 k))
        clear hput
        by_cases hk5 : be = 15
        · rw [if_pos ⟨hre, .inl hk5⟩] at hbest
          have Hbest := hide hbest
          clear hbest hre hee c1 c2
          subst hk5
          rw [show ((15 : Nat) : Int) = 15 from rfl]
          have hstop : ∀ p : Prop, Hid p → p := fun _ h => h.out
          go_wp2_with (first
            | (refine wpList_store_row rfl _ _ _ rfl w3.heap.size (recCells G iv2) rfl rfl _ _ gN HsR.out rfl HoR.out ?_; refine hstop _ ?_))
          refine hide ?_
          clear hstop gN
          iterate 38 (first | go_values | go_skip | go_guarded | go_step | go_upon)
          generalize (w3.alloc (.cells (recCells zeroS nilV) 31)).setRow w3.heap.size (recCells G iv2) = w4 at *
          generalize w3.heap.size = g3 at *
          go_wp2_with (first
            | (refine wpList_load_row rfl _ _ rfl g3 rfl _ (recCells G iv2) _ _ gM hur rfl HsR.out ?_)
            | (refine wpList_build_st rfl _ _ rfl G iv2 k rfl rfl ?_)
            | (refine wpList_store_row rfl _ _ _ rfl (w.heap.size + 1) (stCells G iv2 k) rfl rfl _ _ gB HsS.out rfl HoS.out ?_))
          refine ⟨⟨k + 1, iv2, by omega, by simp, ?_, ?_, Sput.out⟩, by simp [intOf]; omega⟩
          · rw [Hbest.out]; rfl
          · rw [Hbest.out]; exact Hput.out
        · have hk0 : be = 0 := by omega
          have e2 : (((be : Nat) : Int) == 15) = false := by rw [hk0]; rfl
          by_cases hsq : b1.seq < G.seq
          · rw [if_pos ⟨hre, .inr hsq⟩] at hbest
            have Hbest := hide hbest
            have e3 : ((b1.seq : Nat) : Int) < ((G.seq : Nat) : Int) := by omega
            clear hbest hre hk5 hee hk0 hsq
            go_wp2_with (first
              | (refine wpList_store_row rfl _ _ _ rfl w3.heap.size (recCells G iv2) rfl rfl _ _ gN HsR.out rfl HoR.out ?_)
              | (refine wpList_load_row rfl _ _ rfl w3.heap.size rfl _ (recCells G iv2) _ _ gM hur rfl HsR.out ?_)
              | (refine wpList_build_st rfl _ _ rfl G iv2 k rfl rfl ?_)
              | (refine wpList_store_row rfl _ _ _ rfl (w.heap.size + 1) (stCells G iv2 k) rfl rfl _ _ gB HsS.out rfl HoS.out ?_))
            refine ⟨⟨k + 1, iv2, by omega, by simp, ?_, ?_, Sput.out⟩, by simp [intOf]; omega⟩
            · rw [Hbest.out]; rfl
            · rw [Hbest.out]; exact Hput.out
          · rw [if_neg (fun h => by rcases h.2 with h | h; exact hk5 h; exact hsq h)] at hbest
            have Hbest := hide hbest
            have e3 : ¬ ((b1.seq : Nat) : Int) < ((G.seq : Nat) : Int) := by omega
            clear hbest hre hk5 hee hk0 hsq Hput Sput
            go_wp2_with (first
              | (refine wpList_store_row rfl _ _ _ rfl w3.heap.size (recCells G iv2) rfl rfl _ _ gN HsR.out rfl HoR.out ?_))
            refine ⟨⟨k + 1, iv, by omega, by simp, ?_, ?_, S4.out⟩, by simp [intOf]; omega⟩
            · rw [Hbest.out]
            · rw [Hbest.out]; exact H4.out.right.right
      · rw [if_neg (by intro h; exact hre h.1)] at hbest
        have Hbest := hide hbest
        have e1 : (((re : Nat) : Int) == 0) = false := by simp only [beq_eq_false_iff_ne]; omega
        clear hbest hre
        clear hgot
        go_wp2_with (first
          | (refine wpList_store_row rfl _ _ _ rfl w3.heap.size (recCells G iv2) rfl rfl _ _ gN HsR.out rfl HoR.out ?_))
        refine ⟨⟨k + 1, iv, by omega, by simp, ?_, ?_, S4.out⟩, by simp [intOf]; omega⟩
        · rw [Hbest.out]
        · rw [Hbest.out]; exact H4.out.right.right
    · have hk2 : k = 2 := by omega
      subst hk2
      have gB := on_blk_mul hw
      have gZ := on_blk_mul hw.right
      have h9 := hw.right.setRow (stCells (s.best 2).1 iv (s.best 2).2.1)
      have s9 := hstr.setRow w.heap.size (stCells (s.best 2).1 iv (s.best 2).2.1)
      have H9 := hide h9.right
      have S9 := hide s9
      have HoS := hide (st_one (s := (s.best 2).1) (own_slice hw.right.right) (s.best 2).2.1)
      have HsS := hide (st_info (s.best 2).1 iv (s.best 2).2.1)
      clear hw hstr h9 s9
      go_wp2_with (first
        | (refine wpList_load_row rfl _ _ rfl (w.heap.size + 1) rfl _ (stCells (s.best 2).1 iv (s.best 2).2.1) _ _ gB hus rfl HsS.out ?_)
        | (refine wpList_store_row rfl _ _ _ rfl w.heap.size (stCells (s.best 2).1 iv (s.best 2).2.1) rfl rfl _ _ gZ HsS.out rfl HoS.out ?_))
      refine bodyPost_ret (v := .tuple #[.agg (stCells (s.best 2).1 iv (s.best 2).2.1), .int .i64 ((s.best 2).2.2 : Nat)]) (results_cell_row_tmp Tryz.results21 _ _ w.heap.size _ (stCells (s.best 2).1 iv (s.best 2).2.1) (0, 0) _ rfl (setRow_heap_same _ _ _ _ _ _ gZ) hus rfl HsS.out (.int .i64 ((s.best 2).2.2 : Nat)) rfl) rfl ?_
      exact ⟨iv, rfl, H9.out, S9.out⟩
theorem newest_any (p : Nat) (s : FlS) (F : SP) (w : World) (h : (Flash p s * F).on w) (ok : s.Ok) :
    Calls Tryz.prog 21 #[fptr p] w (NewEnd s.load w) := by
  unfold FlS.load
  by_cases hB : s.B.length < 512
  · rw [if_pos hB]; exact newest_small p s F w h ok hB
  · rw [if_neg hB]
    by_cases ho : s.off = true
    · rw [if_pos ho]; exact newest_off p s F w h ok hB ho
    · rw [if_neg ho]; exact newest_on p s F w h ok hB (by simpa using ho)
end Go.Proofs.YtgmpmlneoiagdaaGreatDoor
