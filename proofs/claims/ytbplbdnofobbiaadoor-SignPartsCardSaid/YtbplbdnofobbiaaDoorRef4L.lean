/- SHA-2 on words of 64 bits: the document's digest. -/
import Derived.Test.YtbplbdnofobbiaaDoorGRef
import Derived.Test.YtbplbdnofobbiaaDoorGBase
set_option linter.unusedVariables false
set_option linter.unusedSimpArgs false
set_option maxRecDepth 100000
set_option maxHeartbeats 8000000
namespace Go.Proofs.YtbplbdnofobbiaaDoor
open Go.ChangeShapes Go.WideShapes Go.ChangeAt Go.RowKit
namespace Sha64
def sliceLenH : Value → Nat
 | .slice _ n _ => n
 | _ => 0
theorem info64 : (Tryd.prog.info? 22).map (fun i => (i.zero, i.size, i.bytes)) = some (some (.int .u64 0), 1, 8) := by kernel_rfl
theorem nv_one (l : List Nat) : ∀ u ∈ l.map nv, u.oneCell' = true := by
 intro u hu
 simp at hu
 obtain ⟨x, _, rfl⟩ := hu
 rfl
theorem isb1r (w : World) (k : Nat) (hk : k = w.heap.size) (x : UInt8) (v : Value) (hv : v = vb x) (t : TypeId) : IsBytes (w.alloc (.cells #[v] t)) (.slice (some ⟨k, 0, .none⟩) 1 1) [x] := by
 subst hk hv
 exact IsBytes.new w [x] (by simp [maxLen]) t
theorem shr_at (n k : Nat) (hn : 8 * n ≤ 1000000000) (hk : k < 16) : Op.shift .shr .u64 (8 * (n : Int)) .i64 (8 * ((16 - 1 : Int) - (k : Int))) = (Pure.pure (.int .u64 (8 * (n : Int) / 2 ^ (120 - 8 * k))) : Sem Value) := by
 have e : 8 * ((16 - 1 : Int) - (k : Int)) = 120 - 8 * (k : Int) := by omega
 rw [e]
 exact shr_len n k (by omega) hk
theorem byte_high (n k : Nat) (hn : 8 * n ≤ 1000000000) (hk : ¬(16 - 1 - k < 8)) : byteK (8 * n) (120 - 8 * k) = 0 := by
 have h1 : 2 ^ 64 ≤ 2 ^ (120 - 8 * k) := Nat.pow_le_pow_right (by decide) (by omega)
 have h2 : 8 * n / 2 ^ (120 - 8 * k) = 0 := Nat.div_eq_of_lt (by omega)
 unfold byteK
 rw [h2]
 rfl
theorem wpList_append_nums {F : SP} {w : World} {ops : Array Oper} {rest : List Oper} {o : Oper} {a : Act} {Q : Exit → Act → World → Prop} (hgd : o.guard = Option.none) (s x : Operand) (t : TypeId)
  (ho : o.op = .call { callee := .builtin .append, args := #[s, x], argTypes := #[t, t] }) (ht : Tryd.prog.underlying t = some (.slice 22))
  (v : Value) (l m : List Nat) (hs : a.eval s = v) (hown : (ownN v l * F).on w)
  (ad : Option Addr) (c : Nat) (hx : a.eval x = .slice ad m.length c) (hac : ad = Option.none → c = 0) (hl : Lay w ad (m.map nv)) (hb : l.length + m.length ≤ 1000000)
  (h : ∀ v' w', (ownN v' (l ++ m) * F).on w' → Str w w' → wpList Tryd.prog ops Q rest (a.put o.dst v') w') : wpList Tryd.prog ops Q (o :: rest) a w := by
 obtain ⟨i, hq, hz, hsz, hby⟩ := info_some info64
 refine wpList_append_sp hgd s x t ho 22 i (.int .u64 0) 1 8 ht hq hz hsz hby rfl (by decide) v l.length (l.map nv) hs hown ad m.length c (m.map nv) hx hac (by simp) hl (nv_one m) (by unfold maxLen; omega) (by omega) ?_
 intro v' w' h2 h3
 refine h v' w' ?_ h3
 show (own 22 1 v' (l ++ m).length ((l ++ m).map nv) * F).on w'
 rw [List.map_append, List.length_append]
 exact h2
theorem word_next (m : List UInt8) (at' : Nat) : ∀ n, n ≤ 8 → (wordN m at' n).toNat < 2 ^ (8 * n) ∧ (n < 8 → (wordN m at' (n + 1)).toNat = (wordN m at' n).toNat * 256 + (m.getD (at' + n) 0).toNat)
 | n, hn => by
  have hlt : ∀ n, n ≤ 8 → (wordN m at' n).toNat < 2 ^ (8 * n) → n < 8 → (wordN m at' (n + 1)).toNat = (wordN m at' n).toNat * 256 + (m.getD (at' + n) 0).toNat := by
   intro n hn hb hw
   have hc := UInt8.toNat_lt (m.getD (at' + n) 0)
   have hp : 2 ^ (8 * n) * 256 ≤ 2 ^ 64 := by
    rw [show (256 : Nat) = 2 ^ 8 from rfl, ← Nat.pow_add]
    exact Nat.pow_le_pow_right (by decide) (by omega)
   simp only [wordN]
   generalize wordN m at' n = x at *
   generalize m.getD (at' + n) 0 = c at *
   have h1 : x.toNat * 256 < 2 ^ 64 := by
    have : x.toNat * 256 < 2 ^ (8 * n) * 256 := by omega
    omega
   rw [UInt64.toNat_or, UInt64.toNat_shiftLeft]
   have e8 : (8 : UInt64).toNat % 64 = 8 := rfl
   have ec : (c.toUInt64).toNat = c.toNat := by simp
   rw [e8, ec, Nat.shiftLeft_eq, Nat.mod_eq_of_lt (show x.toNat * 2 ^ 8 < 2 ^ 64 from h1)]
   have := Nat.shiftLeft_add_eq_or_of_lt (show c.toNat < 2 ^ 8 from hc) x.toNat
   rw [Nat.shiftLeft_eq] at this
   omega
  have hb : ∀ n, n ≤ 8 → (wordN m at' n).toNat < 2 ^ (8 * n) := by
   intro n
   induction n with
   | zero => intro _; simp [wordN]
   | succ n ih =>
    intro hn
    have h1 := ih (by omega)
    have h2 := hlt n (by omega) h1 (by omega)
    have hc := UInt8.toNat_lt (m.getD (at' + n) 0)
    rw [h2, show 8 * (n + 1) = 8 * n + 8 by omega, Nat.pow_add]
    omega
  exact ⟨hb n hn, fun h => hlt n hn (hb n hn) h⟩
abbrev PIv (A F : SP) (w : World) (ph : Bool) (X : World) : Prop := if ph then F.on X ∧ Str w X else (A * F).on X ∧ Str w X
theorem PIv.frame {A F : SP} {w : World} {ph : Bool} {X : World} (h : PIv A F w ph X) : F.on X ∧ Str w X := by
 cases ph with
 | true => exact h
 | false => exact ⟨h.1.right, h.2⟩
theorem PIv.stay {A F : SP} {w : World} (ph : Bool) (X Y : World) (h : PIv A F w ph X) (k : Stay X Y) : PIv A F w ph Y := by
 cases ph <;> exact ⟨SP.on.below h.1 k, h.2.trans (Str.below k)⟩
theorem ownN_cell {v : Value} {l : List Nat} {X : World} (h : (ownN v l).on X) (i : Nat) (hi : i < l.length) : ∃ g c, v = .slice (some ⟨g, 0, .none⟩) l.length c ∧ X.cell? ⟨g, i, .none⟩ = some (nv (l.getD i 0)) := by
 have h' := on_mul_emp.2 h
 obtain ⟨g, c, rfl, _, _⟩ := own_block h' (by omega)
 refine ⟨g, c, rfl, own_cell h' i _ ?_⟩
 rw [List.getElem?_map, List.getD_eq_getElem?_getD, List.getElem?_eq_getElem hi]
 rfl
def Nums (v : Value) (X : World) (l : List Nat) : Prop := ∃ a c, v = .slice a l.length c ∧ (a = Option.none → c = 0) ∧ Lay X a (l.map nv)
theorem Nums.below {v : Value} {X Y : World} {l : List Nat} (h : Nums v X l) (k : Stay X Y) : Nums v Y l := by
 obtain ⟨a, c, h1, h2, h3⟩ := h
 exact ⟨a, c, h1, h2, h3.below k⟩
theorem Nums.one (w : World) (n : Nat) (t : TypeId) : Nums (.slice (some ⟨w.heap.size, 0, .none⟩) 1 1) (w.alloc (.cells #[nv n] t)) [n] :=
 ⟨_, _, rfl, fun h => (nomatch h), Lay.new w [nv n] t⟩
theorem OpOk.append_nums {o : Oper} {ev : Operand → Value} {W : World} {R : Value → World → Prop} {F : SP} (s x : Operand) (t : TypeId)
  (ho : o.op = .call { callee := .builtin .append, args := #[s, x], argTypes := #[t, t] }) (ht : Tryd.prog.underlying t = some (.slice 22))
  (v : Value) (l m : List Nat) (hs : ev s = v) (hown : (ownN v l * F).on W) (hm : Nums (ev x) W m) (hb : l.length + m.length ≤ 1000000)
  (h : ∀ v' w', (ownN v' (l ++ m) * F).on w' → Str W w' → R v' w') : OpOk Tryd.prog o ev W R := by
 obtain ⟨ad, c, hx, hc, hl⟩ := hm
 obtain ⟨i, hq, hz, hsz, hby⟩ := info_some info64
 obtain ⟨v', w', hr, h2, h3⟩ := run_append_sp (P := Tryd.prog) t o.type 22 i (.int .u64 0) 1 8 ht hq hz hsz hby rfl (by decide) v l.length (l.map nv) hown ad m.length c (m.map nv) hc (by simp) hl (nv_one m) (by unfold maxLen; omega) (by omega)
 unfold OpOk execOp
 simp only [ho, resolve, invoke, builtin, Sem.run_bind, Sem.run_pure, Result.andThen_ok, List.map_toArray, List.map_cons, List.map_nil, hs, hx, hr]
 refine h v' w' ?_ h3
 show (own 22 1 v' (l ++ m).length ((l ++ m).map nv) * F).on w'
 rw [List.map_append, List.length_append]
 exact h2
theorem fc_small0 {X : World} {g : Nat} (h : X.heap[g]? = some (.cells fc 122 (0, 0))) : ∀ j v, (tc 1 8 7)[j]? = some v → X.cell? ⟨g, 8 + j, .none⟩ = some v := by
 intro j v hj
 rw [cell_of_row _ _ _ _ _ _ h]
 match j, hj with
 | 0, hj => exact hj
 | 1, hj => exact hj
 | 2, hj => exact hj
 | n + 3, hj => simp [tc] at hj
theorem fc_small1 {X : World} {g : Nat} (h : X.heap[g]? = some (.cells fc 122 (0, 0))) : ∀ j v, (tc 19 61 6)[j]? = some v → X.cell? ⟨g, 11 + j, .none⟩ = some v := by
 intro j v hj
 rw [cell_of_row _ _ _ _ _ _ h]
 match j, hj with
 | 0, hj => exact hj
 | 1, hj => exact hj
 | 2, hj => exact hj
 | n + 3, hj => simp [tc] at hj
theorem wrap_add64 (a b : Nat) : IntKind.u64.wrap ((a : Int) + (b : Int)) = (((a + b) % 18446744073709551616 : Nat) : Int) := by
 rw [IntKind.wrap_u64]
 omega
theorem rsum_any (v : Value) (b : List UInt8) (w : World) (hb : IsBytes w v b) (hlen : b.length ≤ 100000000) :
  Calls Tryd.prog 84 #[.agg fc, v] w (Makes w fun v => own 5 1 v (digest b).length (vbs (digest b))) := by
 have hu := Tryd.underlying56
 have Hb := hide hb
 obtain ⟨a, c, rfl, hc, hm, _, _⟩ := hb
 unfold maxLen at hm
 have h0 := (on_all w).alloc (.cells fc 122)
 have hs0 := (Str.refl w).alloc (.cells fc 122)
 have h1 := own_new 5 1 0 [] h0 rfl (by decide)
 simp only [World.size_alloc] at h1
 have H0 := hide h1
 have HS0 := hide hs0
 have HbX : Hid (∀ X, (all w).on X → True) := hide fun _ _ => trivial
 have Hb1 := hide ((Hb.out.below ((Below.refl w.heap.size w).alloc (Nat.le_refl _) (.cells fc 122))).below ((Below.refl _ _).alloc (Nat.le_refl _) (.cells #[] 5)))
 clear h0 h1 hs0 HbX
 go_enter Tryd.func84, Tryd.ntmps84
 go_wp2_with (first
  | (at_builtin; refine wpList_append_bytes (F := blk w.heap.size (.cells fc 122 (0, 0)) * all w) rfl _ _ 56 rfl 5 hu info8 _ b [128] rfl (H1.out.alloc' _) _ rfl (by have h9 := IsBytes.new w1 [128] (by decide) 5; exact h9) (by simp; omega) ?_; intro v2 w2 ho hs; simp only [List.length_append, List.length_cons, List.length_nil, Nat.zero_add] at ho; have H2 := hide ho; have HS2 := hide ((HS1.out.alloc _).trans hs); obtain ⟨aa, ac, rfl, _, _, _, _⟩ := own_value ho; clear ho hs)
  | (at_builtin; refine wpList_append_bytes (F := blk w.heap.size (.cells fc 122 (0, 0)) * all w) rfl _ _ 56 rfl 5 hu info8 _ [] b rfl H0.out _ rfl Hb1.out (by simp; omega) ?_; intro v1 w1 ho hs; rw [List.nil_append] at ho; have H1 := hide ho; have HS1 := hide ((HS0.out.alloc _).trans hs); obtain ⟨ba, bc, rfl, _, _, _, _⟩ := own_value ho; clear ho hs))
 clear H0 HS0 Hb1 H1 HS1
 rename Exit → Act → World → Prop => Q0
 go_loopw [6] (fun av wr => ∃ z : Nat, z ≤ padZ b.length ∧ (own 5 1 av (b.length + 1 + z) (vbs (b ++ [128] ++ List.replicate z 0)) * (blk w.heap.size (.cells fc 122 (0, 0)) * all w)).on wr ∧ Str w wr) (fun av _ => (112 + 128 - sliceLenH av % 128) % 128)
 case atStart => exact ⟨0, Nat.zero_le _, by rw [List.replicate_zero, List.append_nil]; exact H2.out, HS2.out⟩
 case round =>
  rename Exit → Act → World → Prop => Qr1
  obtain ⟨z, hz, hw, hstr⟩ := hrel
  obtain ⟨aa2, ac2, rfl, _, _, _, _⟩ := own_value hw
  have hzB : padZ b.length < 128 := by unfold padZ; omega
  have hzP : (b.length + 1 + padZ b.length) % 128 = 112 := by unfold padZ; omega
  have hll : (b ++ [128] ++ List.replicate z 0).length = b.length + 1 + z := by simp; omega
  have Hll := hide hll
  by_cases hP : (b.length + 1 + z) % 128 = 112
  ·obtain rfl : z = padZ b.length := by unfold padZ at hz ⊢; omega
   have hne : (((b.length : Int) + 1 + (padZ b.length : Int)) % 128 != 112) = false := by simp; omega
   have HD := hide (show padded b = (b ++ [128] ++ List.replicate (padZ b.length) 0) ++ lenB (8 * b.length) 16 from rfl)
   have Hpm := hide (padded_mod b)
   have hN : b.length + 1 + padZ b.length ≤ 100001000 := by omega
   have HN := hide hN
   have HW := hide hw
   have HSt := hide hstr
   clear hw hstr hP hzP hzB hll hz H2 HS2
   generalize b ++ [128] ++ List.replicate (padZ b.length) 0 = X0 at *
   have hn8 : 8 * b.length ≤ 1000000000 := by omega
   go_wp2_with fail
   clear hne
   generalize hNN : b.length + 1 + padZ b.length = N0 at *
   go_loopw [6, 7] (fun av i wr => ∃ k : Nat, k ≤ 16 ∧ i = .int .i64 k ∧ (own 5 1 av (N0 + k) (vbs (X0 ++ lenB (8 * b.length) k)) * (blk w.heap.size (.cells fc 122 (0, 0)) * all w)).on wr ∧ Str w wr) (fun _ i _ => 16 - (intOf i).toNat)
   case atStart => exact ⟨0, Nat.zero_le _, rfl, by unfold lenB; rw [List.append_nil]; exact HW.out, HSt.out⟩
   case round =>
    rename Exit → Act → World → Prop => Qr2
    obtain ⟨k, hk, rfl, hw, hstr⟩ := hrel
    obtain ⟨aa3, ac3, rfl, _, _, _, _⟩ := own_value hw
    by_cases hlt : k < 16
    ·try clear_value Q0; try clear_value Qr1
     as_aux_lemma =>
     have HK := hide (show X0 ++ lenB (8 * b.length) (k + 1) = (X0 ++ lenB (8 * b.length) k) ++ [byteK (8 * b.length) (120 - 8 * k)] by rw [List.append_assoc]; rfl)
     have hYl : (X0 ++ lenB (8 * b.length) k).length = N0 + k := by have := (own_cases hw).1; simp only [vbs, List.length_map] at this; omega
     have HYl := hide hYl
     have HW2 := hide hw
     have HS2 := hide hstr
     clear hw hstr HW HSt hYl
     generalize X0 ++ lenB (8 * b.length) k = Y at *
     by_cases h8 : 16 - 1 - k < 8
     ·have hshr := shr_at b.length k hn8 hlt
      have h8i : ((16 : Int) - 1 - (k : Int)) < 8 := by omega
      go_wp2_with (at_builtin; refine wpList_append_bytes (F := blk w.heap.size (.cells fc 122 (0, 0)) * all w) rfl _ _ 56 rfl 5 hu info8 _ Y [byteK (8 * b.length) (120 - 8 * k)] rfl (by rw [HYl.out]; exact HW2.out.alloc' _) _ rfl (isb1r _ _ (by simp) _ _ (by refine congrArg (Value.int _) ?_; unfold byteK; simp [IntKind.wrap_u8]; try rw [show 8 * (15 - k) = 120 - 8 * k by omega]) _) (by rw [HYl.out]; simp; omega) ?_; intro v3 w3 ho hs; rw [List.length_append, HYl.out, ← HK.out] at ho; have H3 := hide ho; have HS3 := hide ((HS2.out.alloc _).trans hs); obtain ⟨aa4, ac4, rfl, _, _, _, _⟩ := own_value ho; clear ho hs)
      exact ⟨⟨k + 1, by omega, by simp, H3.out, HS3.out⟩, by simp [intOf]; omega⟩
     ·have h8i : ¬((16 : Int) - 1 - (k : Int)) < 8 := by omega
      have HZ := hide (byte_high b.length k hn8 h8)
      clear h8
      go_wp2_with (at_builtin; refine wpList_append_bytes (F := blk w.heap.size (.cells fc 122 (0, 0)) * all w) rfl _ _ 56 rfl 5 hu info8 _ Y [byteK (8 * b.length) (120 - 8 * k)] rfl (by rw [HYl.out]; exact HW2.out.alloc' _) _ rfl (isb1r _ _ (by simp) _ _ (by rw [HZ.out]; rfl) _) (by rw [HYl.out]; simp; omega) ?_; intro v3 w3 ho hs; rw [List.length_append, HYl.out, ← HK.out] at ho; have H3 := hide ho; have HS3 := hide ((HS2.out.alloc _).trans hs); obtain ⟨aa4, ac4, rfl, _, _, _, _⟩ := own_value ho; clear ho hs)
      all_goals exact ⟨⟨k + 1, by omega, by simp, H3.out, HS3.out⟩, by simp [intOf]; omega⟩
    ·obtain rfl : k = 16 := by omega
     rw [← HD.out] at hw
     have HPl : Hid ((padded b).length = N0 + 16) := hide (by have := (own_cases hw).1; simp only [vbs, List.length_map] at this; omega)
     have HW2 := hide hw
     have HS2 := hide hstr
     clear hw hstr HW HSt
     generalize hP0 : padded b = PD at *
     have HP0 := hide hP0
     clear hP0
     go_wp2_with fail
     rw [show ((16 : Nat) : Int) = (16 : Int) from rfl]
     have H0L : Hid (H0.list.length = 8) := hide rfl
     have Hw0 : Hid ((ownN (.slice Option.none 0 0) ((H0.list.take 0).map (·.toNat)) * (own 5 1 (.slice aa3 (N0 + 16) ac3) (N0 + 16) (vbs PD) * (blk w.heap.size (.cells fc 122 (0, 0)) * all w))).on wr) := hide (own_nil 22 1 HW2.out)
     generalize hF1 : (own 5 1 (.slice aa3 (N0 + 16) ac3) (N0 + 16) (vbs PD) * (blk w.heap.size (.cells fc 122 (0, 0)) * all w)) = F1 at Hw0
     have HF1 := hide hF1
     clear hF1
     have HFc : Hid (∀ X, F1.on X → X.heap[w.heap.size]? = some (.cells fc 122 (0, 0))) := hide fun X hX => by rw [← HF1.out] at hX; exact on_blk_mul hX.right
     have hu31 := Tryd.underlying122
     have hs31 : (Tryd.prog.info? 122).map (·.size) = some fc.size := by kernel_rfl
     have hu74 := Tryd.underlying96
     go_loopw [9, 10] (fun hv i wr => ∃ k : Nat, k ≤ 8 ∧ i = .int .i64 k ∧ (ownN hv ((H0.list.take k).map (·.toNat)) * F1).on wr ∧ Str w wr) (fun _ i _ => 8 - (intOf i).toNat)
     case atStart => exact ⟨0, Nat.zero_le _, rfl, Hw0.out, HS2.out⟩
     case round =>
      rename Exit → Act → World → Prop => Qr3
      obtain ⟨k, hk, rfl, hw, hstr⟩ := hrel
      have hln : ((H0.list.take k).map (·.toNat)).length = k := by rw [List.length_map, List.length_take, H0L.out]; omega
      obtain ⟨ha, hc2, rfl, _, _, _, _⟩ := own_value hw
      rw [hln] at hw ⊢
      by_cases hlt : k < 8
      ·try clear_value Q0; try clear_value Qr1; try clear_value Qr2
       as_aux_lemma =>
       have hHg := HW_get k hlt
       have hx : H0.list[k]? = some (H0.list.getD k 0) := by rw [List.getD_eq_getElem?_getD, List.getElem?_eq_getElem (by rw [H0L.out]; exact hlt)]; rfl
       have HN := hide (show (H0.list.take (k + 1)).map (·.toNat) = (H0.list.take k).map (·.toNat) ++ [(H0.list.getD k 0).toNat] by
        rw [List.take_add_one, hx, List.map_append]; rfl)
       have HHl := hide hln
       have HW3 := hide hw
       have HS3 := hide hstr
       have k8 : (k : Int) < 8 := by omega
       clear hw hstr hln hx Hw0 HS2 HW2
       generalize (H0.list.take k).map (·.toNat) = hl at *
       generalize (H0.list.getD k 0).toNat = hk' at *
       obtain ⟨hHg1, hHg2⟩ := hHg
       have HHG := hide hHg1
       clear hHg1
       go_wp2_with fail
       refine AppK.wp_region_app 8 [isV (.slice ha k hc2), isV (.agg fc), (fun v X => (ownN v HW).on X), isV (.int .i64 (k : Int)), (fun v X => ∃ g, v = .pointer (some ⟨g, k, .none⟩) ∧ X.cell? ⟨g, k, .none⟩ = some (nv (HW.getD k 0))), isV (nv (HW.getD k 0)), isV (nv hk'), (fun v X => Nums v X [hk']), (fun _ _ => True), (fun _ _ => False)]
        [isV (.slice ha k hc2), isV (.agg fc), (fun _ _ => True), isV (.int .i64 (k : Int)), (fun _ _ => True), isV (nv (HW.getD k 0)), isV (nv hk'), (fun _ _ => True), (fun v X => (ownN v (hl ++ [hk']) * F1).on X), (fun v X => (ownN v (hl ++ [hk']) * F1).on X)] _ rfl (by kernel_rfl) (by kernel_rfl) rfl (by decide) (PIv (ownN (.slice ha k hc2) hl) F1 w) ⟨SP.on.drew HW3.out, Str.drew HS3.out⟩ PIv.stay ?keep ?keep2 ?store ?todo ?r76
       case keep => exact ⟨Keep.isV _, Keep.isV _, fun _ _ _ h k => SP.on.below h k, Keep.isV _, fun _ _ _ ⟨g, h1, h2⟩ k => ⟨g, h1, (k.cell (World.block_lt_of_cell? _ _ h2)).trans h2⟩, Keep.isV _, Keep.isV _, fun _ _ _ h k => Nums.below h k, fun _ _ _ h _ => h, fun _ _ _ h _ => h, trivial⟩
       case keep2 => exact ⟨Keep.isV _, Keep.isV _, fun _ _ _ h _ => h, Keep.isV _, fun _ _ _ h _ => h, Keep.isV _, Keep.isV _, fun _ _ _ h _ => h, fun _ _ _ h k => SP.on.below h k, fun _ _ _ h k => SP.on.below h k, trivial⟩
       case store =>
        intro ev X hT hb hk hf
        have e0 : ev (.tmp 78) = _ := hf.1
        have e1 : Nums (ev (.tmp 85)) X [hk'] := hf.2.1
        refine OpOk.append_nums (F := F1) _ _ _ rfl hu74 _ hl [hk'] e0 hT.1 e1 (by rw [HHl.out]; simp; omega) ?_
        intro v' X2 ho hs
        refine ⟨⟨ho.right, hT.2.trans hs⟩, ho, ?_⟩
        intro i his hv
        match i, his, hv with
        | 0, _, hv => exact hv
        | 1, _, hv => exact hv
        | 2, _, _ => exact trivial
        | 3, _, hv => exact hv
        | 4, _, _ => exact trivial
        | 5, _, hv => exact hv
        | 6, _, hv => exact hv
        | 7, _, _ => exact trivial
        | 8, h, _ => exact absurd rfl h
        | 9, _, hv => exact hv.elim
        | n + 10, _, _ => exact trivial
       case todo =>
        refine ⟨?_, ?_, ?_, ?_, ?_, ?_, ?_, ?_, ?_, ?_, trivial⟩
        ·rintro _ ph - h2 ev X hT hb hk hf
         obtain rfl := h2 (by kernel_rfl)
         have e0 : ev (.tmp 9) = .slice ha k hc2 := by have h9 := hk.1; rw [if_pos (by kernel_rfl)] at h9; exact h9
         exact OpOk.m rfl e0
        ·rintro _ ph - h2 ev X hT hb hk hf
         obtain rfl := h2 (by kernel_rfl)
         have e0 : ev (.tmp 2) = .pointer (some ⟨w.heap.size, 0, .none⟩) := hk.1
         exact OpOk.load_part _ _ rfl w.heap.size 0 e0 fc _ (part_of (HFc.out X hT.frame.1)) hu31 rfl hs31 ⟨rfl, Stay.refl _⟩
        ·rintro _ ph - h2 ev X hT hb hk hf
         obtain rfl := h2 (by kernel_rfl)
         refine OpOk.enters (f := 97) (args := #[]) (W' := X) (by simp [execOp, resolve, invoke, hb.2.1, go_sem]) ((start_any X).mono ?_)
         rintro e X2 ⟨v', rfl, h3, h4⟩
         exact ⟨_, rfl, h3.left, all_below h3.right h4⟩
        ·rintro _ ph - h2 ev X hT hb hk hf
         obtain rfl := h2 (by kernel_rfl)
         have e0 : ev (.tmp 10) = .int .i64 (k : Int) := hk.1
         exact OpOk.m rfl e0
        ·rintro _ ph - h2 ev X hT hb hk hf
         obtain rfl := h2 (by kernel_rfl)
         have e0 := hf.1
         have e1 : ev (.tmp 81) = _ := hf.2.1
         obtain ⟨g, c9, e9, h9⟩ := ownN_cell e0 k (by exact hlt)
         exact OpOk.run (v := .pointer (some ⟨g, k, .none⟩)) (W' := X) (by have e8 : ev (.tmp 80) = .slice (some ⟨g, 0, .none⟩) 8 c9 := e9; simp [execOp, e8, e1, hb.1, k8, go_sem]) ⟨⟨g, rfl, h9⟩, Stay.refl _⟩
        ·rintro _ ph - h2 ev X hT hb hk hf
         obtain rfl := h2 (by kernel_rfl)
         have e0 := hf.1
         obtain ⟨g, e9, h9⟩ := e0
         exact OpOk.run (v := nv (HW.getD k 0)) (W' := X) (by have e8 : ev (.tmp 82) = .pointer (some ⟨g, k, .none⟩) := e9; simp [execOp, e8, h9, go_sem, -List.getD_eq_getElem?_getD]) ⟨rfl, Stay.refl _⟩
        ·rintro _ ph - h2 ev X hT hb hk hf
         obtain rfl := h2 (by kernel_rfl)
         have e0 : ev (.tmp 79) = _ := hf.1
         have e1 : ev (.tmp 83) = _ := hf.2.1
         refine OpOk.enters (f := 96) (args := #[.agg fc, nv (HW.getD k 0)]) (W' := X) (by simp [execOp, resolve, invoke, e0, e1, hb.1, hb.2.1, go_sem]) ((constant_any (HW.getD k 0) hHg2 X).mono ?_)
         rintro e X2 ⟨rfl, h2⟩
         exact ⟨_, rfl, by rw [HHG.out]; exact rfl, h2⟩
        ·rintro _ ph - h2 ev X hT hb hk hf
         obtain rfl := h2 (by kernel_rfl)
         have e0 : ev (.tmp 84) = _ := hf.1
         exact OpOk.run (v := .slice (some ⟨X.heap.size, 0, .none⟩) 1 1) (W' := X.alloc (.cells #[nv hk'] 22)) (by simp [execOp, e0, go_sem]) ⟨Nums.one X hk' _, (Below.refl _ _).alloc (Nat.le_refl _) _⟩
        ·exact fun h => absurd rfl h
        ·intro _ ph h1 h2
         obtain rfl : ph = true := h1 (by kernel_rfl)
         intro ev X hT hb hk hf
         have e0 := hf.1
         exact OpOk.assign rfl rfl ⟨e0, Stay.refl _⟩
       intro X hT
       rintro _ rfl _ rfl _ - _ rfl _ - _ rfl _ rfl _ - v8 - v9 h9
       have h9' : (ownN v9 (hl ++ [hk']) * F1).on X := h9
       obtain ⟨ha9, hc9, e9, _, _, _, _⟩ := own_value h9'
       rw [show (hl ++ [hk']).length = k + 1 by rw [List.length_append, HHl.out]; rfl] at e9
       subst e9
       rw [← HN.out] at h9'
       have H9 := hide h9'
       have HT9 := hide hT.2
       clear h9 h9' hT
       go_wp2
       refine Rest.done ?_
       go_wp2_with fail
       exact ⟨⟨k + 1, by omega, by simp, H9.out, HT9.out⟩, by simp [intOf]; omega⟩
      ·obtain rfl : k = 8 := by omega
       have e8 : (H0.list.take 8).map (·.toNat) = H0.list.map (·.toNat) := by rw [List.take_of_length_le (by rw [H0L.out]; exact Nat.le_refl _)]
       rw [e8] at hw
       have HW3 := hide hw
       have HS3 := hide hstr
       clear hw hstr hln e8 Hw0 HS2 HW2
       go_wp2_with fail
       refine (words_any wr).mono ?_
       rintro e w3 ⟨kv, rfl, ho, hs3⟩
       have h4 := on_all_to ho HW3.out
       obtain ⟨ka, kc, rfl, _, _, _, _⟩ := own_value h4
       have H4 : Hid ((ownN (.slice ha 8 hc2) ((stK PD 0).list.map (·.toNat)) * (ownN (.slice ka KW.length kc) KW * F1)).on w3) := hide (by refine (SP.le_of_eq ?_).on h4; ac_rfl)
       have HS4 := hide (HS3.out.trans hs3)
       clear ho hs3 h4 HW3 HS3
       go_wp2_with fail
       have HPD8 : Hid (PD.length = N0 + 16) := HPl
       have HmB : Hid (PD.length % 128 = 0) := Hpm
       go_loopw [12] (fun i wr => ∃ k : Nat, 128 * k ≤ PD.length ∧ i = .int .i64 ((128 : Int) * (k : Int)) ∧ (ownN (.slice ha 8 hc2) ((stK PD k).list.map (·.toNat)) * (ownN (.slice ka KW.length kc) KW * F1)).on wr ∧ Str w wr) (fun i _ => PD.length - (intOf i).toNat)
       case atStart => exact ⟨0, Nat.zero_le _, rfl, H4.out, HS4.out⟩
       case round =>
        rename Exit → Act → World → Prop => Qr4
        obtain ⟨k, hk, rfl, hw, hstr⟩ := hrel
        have hpl := HPD8.out
        by_cases hlt : 128 * k < N0 + 16
        ·have hm2 : 128 * k + 128 ≤ PD.length := by have := HmB.out; omega
         have hml : ((PD.drop (128 * k)).take 128).length = 128 := by rw [List.length_take, List.length_drop]; omega
         have hmg : ∀ j, j < 128 → PD[128 * k + j]? = some (((PD.drop (128 * k)).take 128).getD j 0) := by
          intro j hj
          rw [List.getD_eq_getElem?_getD, List.getElem?_take, if_pos hj, List.getElem?_drop, List.getElem?_eq_getElem (by omega)]
          rfl
         have HC := hide (show stK PD (k + 1) = compress (stK PD k) ((PD.drop (128 * k)).take 128) from rfl)
         have Hmg := hide hmg
         have Hm2 := hide hm2
         have HW4 := hide hw
         have HS5 := hide hstr
         clear hmg hml hw hstr H4 HS4
         generalize (PD.drop (128 * k)).take 128 = m at *
         have hltI : ((128 : Int) * (k : Int)) < (N0 : Int) + 16 := by omega
         have HFp : Hid (∀ X, F1.on X → Lay X (some ⟨0, 0, .none⟩) [] → True) := hide fun _ _ _ => trivial
         have HAll : Hid (∀ X, F1.on X → ∀ j, j < 128 → ∃ bg bo, aa3 = some ⟨bg, bo, .none⟩ ∧ X.cell? ⟨bg, bo + (128 * k + j), .none⟩ = some (vb (m.getD j 0))) := hide fun X hX j hj => by
          rw [← HF1.out] at hX
          obtain ⟨_, _, e1, _, _, hl, _⟩ := own_value hX
          simp only [Value.slice.injEq] at e1
          obtain ⟨rfl, _, rfl⟩ := e1
          exact hl (128 * k + j) _ (by rw [List.getElem?_map, Hmg.out j hj]; rfl)
         generalize hF3 : (ownN (.slice ha 8 hc2) ((stK PD k).list.map (·.toNat)) * (ownN (.slice ka KW.length kc) KW * F1)) = F3 at HW4
         have HF3 := hide hF3
         clear hF3 HFp
         have Hw0 : Hid ((ownN (.slice Option.none 0 0) ((sched m 0).map (·.toNat)) * F3).on wr) := hide (own_nil 22 1 HW4.out)
         go_wp2_with fail
         go_loopw [13, 14] (fun wv' i wr => ∃ i' : Nat, i' ≤ 80 ∧ i = .int .i64 i' ∧ (own 22 1 wv' i' (((sched m i').map (·.toNat)).map nv) * F3).on wr ∧ Str w wr) (fun _ i _ => 80 - (intOf i).toNat)
         case atStart => exact ⟨0, Nat.zero_le _, rfl, Hw0.out, HS5.out⟩
         case round =>
          rename Exit → Act → World → Prop => Qr5
          obtain ⟨i', hi, rfl, hw, hstr⟩ := hrel
          obtain ⟨wa, wc, rfl, _, _, _, _⟩ := own_value hw
          by_cases hlt2 : i' < 80
          ·have HW5 := hide hw
           have HS6 := hide hstr
           have HF13 : Hid (∀ X, F3.on X → F1.on X) := hide fun X hX => by rw [← HF3.out] at hX; exact hX.right.right
           have cR := (fc_part w wr w.heap.size (HFc.out wr (HF13.out wr hw.right))).2
           clear hw hstr Hw0 HS5 HW4
           by_cases h16 : i' < 16
           ·try clear_value Q0; try clear_value Qr1; try clear_value Qr2; try clear_value Qr3; try clear_value Qr4
            as_aux_lemma =>
            have h16i : (i' : Int) < 16 := by omega
            go_wp2_with fail
            go_loopw [15, 16] (fun xv i wr2 => ∃ n : Nat, n ≤ 8 ∧ i = .int .i64 n ∧ xv = .int .u64 ((wordN m (8 * i') n).toNat : Int) ∧ wr2 = wr) (fun _ i _ => 8 - (intOf i).toNat)
            case atStart => exact ⟨0, Nat.zero_le _, rfl, rfl, rfl⟩
            case round =>
             rename Exit → Act → World → Prop => Qr6
             obtain ⟨n, hn, rfl, rfl, rfl⟩ := hrel
             obtain ⟨hwn, hwx⟩ := word_next m (8 * i') n hn
             by_cases hnt : n < 8
             ·obtain ⟨bg, bo, hba, cb⟩ := HAll.out _ (HF13.out _ HW5.out.right) (8 * i' + n) (by omega)
              subst hba
              rw [show bo + (128 * k + (8 * i' + n)) = bo + (128 * k + i' * 8 + n) by omega] at cb
              have HX := hide (hwx hnt)
              have hxb : (wordN m (8 * i') n).toNat < 2 ^ 56 := Nat.lt_of_lt_of_le hwn (Nat.pow_le_pow_right (by decide) (by omega))
              have hin : 128 * k + (8 * i' + n) < N0 + 16 := by have := Hm2.out; omega
              clear hwn hwx
              generalize m.getD (8 * i' + n) 0 = cB at *
              generalize hxx : (wordN m (8 * i') n).toNat = xx at *
              have HXX := hide hxx
              clear hxx
              have hcB := UInt8.toNat_lt cB
              go_wp2_with fail
              exact ⟨⟨n + 1, by omega, by simp, congrArg (Value.int _) (by rw [HX.out]; omega), trivial⟩, by simp [intOf]; omega⟩
             ·obtain rfl : n = 8 := by omega
              have HSn := hide (show (sched m (i' + 1)).map (·.toNat) = (sched m i').map (·.toNat) ++ [(wordN m (8 * i') 8).toNat] by simp only [sched, if_pos h16, List.map_append]; rfl)
              have hxl := UInt64.toNat_lt (wordN m (8 * i') 8)
              have Hfcw := hide (HFc.out _ (HF13.out _ HW5.out.right))
              have hsl : ((sched m i').map (·.toNat)).length = i' := by rw [List.length_map, sched_len]
              have HSl := hide hsl
              clear hwn hwx hsl
              generalize (sched m i').map (·.toNat) = sl at *
              generalize (wordN m (8 * i') 8).toNat = xx at *
              go_wp2_with (refine wpList_load_row rfl _ _ rfl w.heap.size rfl _ fc _ _ Hfcw.out hu31 rfl hs31 ?_)
              refine (cut_any xx (by omega) wr).mono ?_
              rintro e w5 ⟨rfl, hb5⟩
              have HW6 := hide (HW5.out.below hb5)
              have HS7 := hide (HS6.out.trans (Str.below hb5))
              rw [show xx % 18446744073709551616 = xx from Nat.mod_eq_of_lt hxl]
              clear hb5 Hfcw
              go_wp2_with (at_builtin; refine wpList_append_nums (F := F3) rfl _ _ _ rfl hu74 _ sl [xx] rfl (by unfold ownN; rw [HSl.out]; exact HW6.out.alloc' _) _ _ rfl (fun h => by cases h) (Lay.new w5 [nv xx] _) (by rw [HSl.out]; simp; omega) ?_; intro v6 w6 ho hs; rw [← HSn.out] at ho; have H6 := hide ho; have HS8 := hide ((HS7.out.alloc _).trans hs); clear ho hs)
              have H6o := H6.out
              obtain ⟨wa6, wc6, rfl, _, _, _, _⟩ := own_value H6o
              have HSl1 : ((sched m (i' + 1)).map (·.toNat)).length = i' + 1 := by rw [List.length_map, sched_len]
              unfold ownN at H6o
              rw [HSl1] at H6o ⊢
              exact ⟨⟨i' + 1, by omega, by simp, H6o, HS8.out⟩, by simp [intOf]; omega⟩
           ·try clear_value Q0; try clear_value Qr1; try clear_value Qr2; try clear_value Qr3; try clear_value Qr4
            as_aux_lemma =>
            have hsl : ((sched m i').map (·.toNat)).length = i' := by rw [List.length_map, sched_len]
            have HSl := hide hsl
            obtain ⟨gw, wcc, ew, _, _⟩ := own_block HW5.out (by omega)
            simp only [Value.slice.injEq] at ew
            obtain ⟨rfl, _, rfl⟩ := ew
            have HFcs : Hid (∀ X, Stay wr X → X.heap[w.heap.size]? = some (.cells fc 122 (0, 0))) := hide fun X k => HFc.out X (HF13.out X (SP.on.below HW5.out.right k))
            have HCs : Hid (∀ X, Stay wr X → ∀ j, j < i' → X.cell? ⟨gw, j, .none⟩ = some (w64 ((sched m i').getD j 0))) := hide fun X k j hj => own_cell (SP.on.below HW5.out k) j _ (by
             rw [List.getD_eq_getElem?_getD, List.getElem?_map, List.getElem?_map, List.getElem?_eq_getElem (by rw [sched_len]; exact hj)]
             rfl)
            obtain ⟨j16, hj16⟩ : ∃ j, j = i' - 16 := ⟨_, rfl⟩
            obtain ⟨j15, hj15⟩ : ∃ j, j = i' - 15 := ⟨_, rfl⟩
            obtain ⟨j7, hj7⟩ : ∃ j, j = i' - 7 := ⟨_, rfl⟩
            obtain ⟨j2, hj2⟩ : ∃ j, j = i' - 2 := ⟨_, rfl⟩
            have hs16 : IntKind.i64.wrap ((i' : Int) - 16) = (j16 : Int) := by rw [IntWalk.i64_in _ (by omega)]; omega
            have hs15 : IntKind.i64.wrap ((i' : Int) - 15) = (j15 : Int) := by rw [IntWalk.i64_in _ (by omega)]; omega
            have hs7 : IntKind.i64.wrap ((i' : Int) - 7) = (j7 : Int) := by rw [IntWalk.i64_in _ (by omega)]; omega
            have hs2 : IntKind.i64.wrap ((i' : Int) - 2) = (j2 : Int) := by rw [IntWalk.i64_in _ (by omega)]; omega
            have hn16 : nextW (sched m i') i' = ((sched m i').getD j16 0 + small0 ((sched m i').getD j15 0)) + (sched m i').getD j7 0 + small1 ((sched m i').getD j2 0) := by unfold nextW; rw [hj16, hj15, hj7, hj2]
            have hb16 : j16 < i' := by omega
            have hb15 : j15 < i' := by omega
            have hb7 : j7 < i' := by omega
            have hb2 : j2 < i' := by omega
            have k16 : (j16 : Int) < (i' : Int) := by omega
            have k15 : (j15 : Int) < (i' : Int) := by omega
            have k7 : (j7 : Int) < (i' : Int) := by omega
            have k2 : (j2 : Int) < (i' : Int) := by omega
            have hc16 := fun X k => HCs.out X k j16 hb16
            have hc15 := fun X k => HCs.out X k j15 hb15
            have hc7 := fun X k => HCs.out X k j7 hb7
            have hc2' := fun X k => HCs.out X k j2 hb2
            have HSn0 : Hid ((sched m (i' + 1)).map (·.toNat) = (sched m i').map (·.toNat) ++ [(nextW (sched m i') i').toNat]) := hide (by simp only [sched, if_neg h16, List.map_append]; rfl)
            rw [hn16] at HSn0
            generalize (sched m i').getD j16 0 = x16 at *
            generalize (sched m i').getD j15 0 = x15 at *
            generalize (sched m i').getD j7 0 = x7 at *
            generalize (sched m i').getD j2 0 = x2 at *
            obtain ⟨A14, kA14, hA14⟩ : ∃ A, A = (x16.toNat + (small0 x15).toNat) % 18446744073709551616 ∧ IntKind.u64.wrap (((x16.toNat : Nat) : Int) + (((small0 x15).toNat : Nat) : Int)) = (A : Int) := ⟨_, rfl, wrap_add64 _ _⟩
            obtain ⟨A20, kA20, hA20⟩ : ∃ A, A = (A14 + x7.toNat) % 18446744073709551616 ∧ IntKind.u64.wrap ((A14 : Int) + ((x7.toNat : Nat) : Int)) = (A : Int) := ⟨_, rfl, wrap_add64 _ _⟩
            obtain ⟨A30, kA30, hA30⟩ : ∃ A, A = (A20 + (small1 x2).toNat) % 18446744073709551616 ∧ IntKind.u64.wrap ((A20 : Int) + (((small1 x2).toNat : Nat) : Int)) = (A : Int) := ⟨_, rfl, wrap_add64 _ _⟩
            have hlt30 : A30 < 18446744073709551616 := by omega
            have hfin : (x16 + small0 x15 + x7 + small1 x2).toNat = A30 % 18446744073709551616 := by simp only [UInt64.toNat_add]; omega
            rw [hfin] at HSn0
            have HSn := HSn0
            have h16i : ¬(i' : Int) < 16 := by omega
            have hu29 := Tryd.underlying120
            have hs29 : (Tryd.prog.info? 120).map (·.size) = some (tc 1 8 7).size := by kernel_rfl
            have hs29b : (Tryd.prog.info? 120).map (·.size) = some (tc 19 61 6).size := by kernel_rfl
            clear hfin hn16 hj16 hj15 hj7 hj2 kA14 kA20 kA30 hsl HSn0
            generalize (sched m i').map (·.toNat) = sl at *
            go_wp2_with fail
            refine wp_region_vs [isV (.slice (some ⟨gw, 0, .none⟩) i' wc), isV (.int .i64 (i' : Int)), isV (.int .i64 (j16 : Int)), isV (.pointer (some ⟨gw, j16, .none⟩)), isV (w64 x16), isV (.agg fc), isV (.slice (some ⟨gw, 0, .none⟩) i' wc), isV (.int .i64 (i' : Int)), isV (.int .i64 (j15 : Int)), isV (.pointer (some ⟨gw, j15, .none⟩)), isV (w64 x15), isV (.pointer (some ⟨w.heap.size, 8, .none⟩)), isV ((.agg (tc 1 8 7))), isV (w64 (small0 x15)), isV (.int .u64 (A14 : Int)), isV (.slice (some ⟨gw, 0, .none⟩) i' wc), isV (.int .i64 (i' : Int)), isV (.int .i64 (j7 : Int)), isV (.pointer (some ⟨gw, j7, .none⟩)), isV (w64 x7), isV (.int .u64 (A20 : Int)), isV (.agg fc), isV (.slice (some ⟨gw, 0, .none⟩) i' wc), isV (.int .i64 (i' : Int)), isV (.int .i64 (j2 : Int)), isV (.pointer (some ⟨gw, j2, .none⟩)), isV (w64 x2), isV (.pointer (some ⟨w.heap.size, 11, .none⟩)), isV ((.agg (tc 19 61 6))), isV (w64 (small1 x2)), isV (.int .u64 (A30 : Int)), isV (.int .u64 (A30 : Int))]
             (by kernel_rfl) (by kernel_rfl) rfl ?keep ?todo ?r77
            case keep => repeat (first | exact trivial | refine ⟨Keep.isV _, ?_⟩)
            case todo =>
             refine ⟨?_, ?_, ?_, ?_, ?_, ?_, ?_, ?_, ?_, ?_, ?_, ?_, ?_, ?_, ?_, ?_, ?_, ?_, ?_, ?_, ?_, ?_, ?_, ?_, ?_, ?_, ?_, ?_, ?_, ?_, ?_, ?_, trivial⟩
             ·exact fun _ _ _ _ hk hf => OpOk.m rfl hk.1
             ·exact fun _ _ _ _ hk hf => OpOk.m rfl hk.1
             ·intro ev X hT hb hk hf
              have e0 : ev (.tmp 124) = _ := hf.1
              exact OpOk.r (by simp [execOp, e0, hb.1, hs16, go_sem])
             ·intro ev X hT hb hk hf
              have e0 : ev (.tmp 123) = _ := hf.1
              have e1 : ev (.tmp 125) = _ := hf.2.1
              exact OpOk.r (by simp [execOp, e0, e1, hb.1, k16, hb16, go_sem])
             ·intro ev X hT hb hk hf
              have e0 : ev (.tmp 126) = _ := hf.1
              have cW := hc16 X hT
              exact OpOk.r (by simp [execOp, e0, cW, go_sem])
             ·intro ev X hT hb hk hf
              have e0 : ev (.tmp 2) = .pointer (some ⟨w.heap.size, 0, .none⟩) := hk.1
              exact OpOk.load_part _ _ rfl w.heap.size 0 e0 fc _ (part_of (HFcs.out X hT)) hu31 rfl hs31 ⟨rfl, Stay.refl _⟩
             ·exact fun _ _ _ _ hk hf => OpOk.m rfl hk.1
             ·exact fun _ _ _ _ hk hf => OpOk.m rfl hk.1
             ·intro ev X hT hb hk hf
              have e0 : ev (.tmp 130) = _ := hf.1
              exact OpOk.r (by simp [execOp, e0, hb.1, hs15, go_sem])
             ·intro ev X hT hb hk hf
              have e0 : ev (.tmp 129) = _ := hf.1
              have e1 : ev (.tmp 131) = _ := hf.2.1
              exact OpOk.r (by simp [execOp, e0, e1, hb.1, k15, hb15, go_sem])
             ·intro ev X hT hb hk hf
              have e0 : ev (.tmp 132) = _ := hf.1
              have cW := hc15 X hT
              exact OpOk.r (by simp [execOp, e0, cW, go_sem])
             ·intro ev X hT hb hk hf
              have e0 : ev (.tmp 2) = .pointer (some ⟨w.heap.size, 0, .none⟩) := hk.1
              exact OpOk.r (by simp [execOp, e0, hb.1, go_sem])
             ·intro ev X hT hb hk hf
              have e0 : ev (.tmp 134) = _ := hf.1
              exact OpOk.load_part _ _ rfl w.heap.size 8 e0 (tc 1 8 7) _ (fc_small0 (HFcs.out X hT)) hu29 rfl hs29 ⟨rfl, Stay.refl _⟩
             ·intro ev X hT hb hk hf
              have e0 : ev (.tmp 128) = _ := hf.1
              have e1 : ev (.tmp 133) = _ := hf.2.1
              have e2 : ev (.tmp 135) = _ := hf.2.2.1
              refine OpOk.enters (f := 99) (args := #[.agg fc, w64 x15, .agg (tc 1 8 7)]) (W' := X) (by simp [execOp, resolve, invoke, e0, e1, e2, hb.1, hb.2.1, go_sem]) ((rsmall0_any x15 X).mono ?_)
              rintro e X2 ⟨rfl, h2⟩
              exact ⟨_, rfl, rfl, h2⟩
             ·intro ev X hT hb hk hf
              have e0 : ev (.tmp 127) = _ := hf.1
              have e1 : ev (.tmp 136) = _ := hf.2.1
              exact OpOk.r (by simp [execOp, e0, e1, hb.1, hA14, -UInt64.toNat_add, -UInt64.toNat_xor, -UInt64.toNat_and, -UInt64.toNat_or, -UInt64.toNat_not, -UInt64.toNat_shiftRight, -UInt64.toNat_shiftLeft, go_sem])
             ·exact fun _ _ _ _ hk hf => OpOk.m rfl hk.1
             ·exact fun _ _ _ _ hk hf => OpOk.m rfl hk.1
             ·intro ev X hT hb hk hf
              have e0 : ev (.tmp 139) = _ := hf.1
              exact OpOk.r (by simp [execOp, e0, hb.1, hs7, go_sem])
             ·intro ev X hT hb hk hf
              have e0 : ev (.tmp 138) = _ := hf.1
              have e1 : ev (.tmp 140) = _ := hf.2.1
              exact OpOk.r (by simp [execOp, e0, e1, hb.1, k7, hb7, go_sem])
             ·intro ev X hT hb hk hf
              have e0 : ev (.tmp 141) = _ := hf.1
              have cW := hc7 X hT
              exact OpOk.r (by simp [execOp, e0, cW, go_sem])
             ·intro ev X hT hb hk hf
              have e0 : ev (.tmp 137) = _ := hf.1
              have e1 : ev (.tmp 142) = _ := hf.2.1
              exact OpOk.r (by simp [execOp, e0, e1, hb.1, hA20, -UInt64.toNat_add, -UInt64.toNat_xor, -UInt64.toNat_and, -UInt64.toNat_or, -UInt64.toNat_not, -UInt64.toNat_shiftRight, -UInt64.toNat_shiftLeft, go_sem])
             ·intro ev X hT hb hk hf
              have e0 : ev (.tmp 2) = .pointer (some ⟨w.heap.size, 0, .none⟩) := hk.1
              exact OpOk.load_part _ _ rfl w.heap.size 0 e0 fc _ (part_of (HFcs.out X hT)) hu31 rfl hs31 ⟨rfl, Stay.refl _⟩
             ·exact fun _ _ _ _ hk hf => OpOk.m rfl hk.1
             ·exact fun _ _ _ _ hk hf => OpOk.m rfl hk.1
             ·intro ev X hT hb hk hf
              have e0 : ev (.tmp 146) = _ := hf.1
              exact OpOk.r (by simp [execOp, e0, hb.1, hs2, go_sem])
             ·intro ev X hT hb hk hf
              have e0 : ev (.tmp 145) = _ := hf.1
              have e1 : ev (.tmp 147) = _ := hf.2.1
              exact OpOk.r (by simp [execOp, e0, e1, hb.1, k2, hb2, go_sem])
             ·intro ev X hT hb hk hf
              have e0 : ev (.tmp 148) = _ := hf.1
              have cW := hc2' X hT
              exact OpOk.r (by simp [execOp, e0, cW, go_sem])
             ·intro ev X hT hb hk hf
              have e0 : ev (.tmp 2) = .pointer (some ⟨w.heap.size, 0, .none⟩) := hk.1
              exact OpOk.r (by simp [execOp, e0, hb.1, go_sem])
             ·intro ev X hT hb hk hf
              have e0 : ev (.tmp 150) = _ := hf.1
              exact OpOk.load_part _ _ rfl w.heap.size 11 e0 (tc 19 61 6) _ (fc_small1 (HFcs.out X hT)) hu29 rfl hs29b ⟨rfl, Stay.refl _⟩
             ·intro ev X hT hb hk hf
              have e0 : ev (.tmp 144) = _ := hf.1
              have e1 : ev (.tmp 149) = _ := hf.2.1
              have e2 : ev (.tmp 151) = _ := hf.2.2.1
              refine OpOk.enters (f := 99) (args := #[.agg fc, w64 x2, .agg (tc 19 61 6)]) (W' := X) (by simp [execOp, resolve, invoke, e0, e1, e2, hb.1, hb.2.1, go_sem]) ((rsmall1_any x2 X).mono ?_)
              rintro e X2 ⟨rfl, h2⟩
              exact ⟨_, rfl, rfl, h2⟩
             ·intro ev X hT hb hk hf
              have e0 : ev (.tmp 143) = _ := hf.1
              have e1 : ev (.tmp 152) = _ := hf.2.1
              exact OpOk.r (by simp [execOp, e0, e1, hb.1, hA30, -UInt64.toNat_add, -UInt64.toNat_xor, -UInt64.toNat_and, -UInt64.toNat_or, -UInt64.toNat_not, -UInt64.toNat_shiftRight, -UInt64.toNat_shiftLeft, go_sem])
             ·intro ev X hT hb hk hf
              have e0 : ev (.tmp 153) = _ := hf.1
              exact OpOk.assign rfl e0 ⟨rfl, Stay.refl _⟩
            intro X hT
            rintro _ rfl _ rfl _ rfl _ rfl _ rfl _ rfl _ rfl _ rfl _ rfl _ rfl _ rfl _ rfl _ rfl _ rfl _ rfl _ rfl _ rfl _ rfl _ rfl _ rfl _ rfl _ rfl _ rfl _ rfl _ rfl _ rfl _ rfl _ rfl _ rfl _ rfl _ rfl _ rfl
            have Hfcw := hide (HFcs.out X hT)
            have HW5' := hide (SP.on.below HW5.out hT)
            have HS6' := hide (HS6.out.trans (Str.below hT))
            clear hT HFcs HCs hc16 hc15 hc7 hc2' hs16 hs15 hs7 hs2 hA14 hA20 hA30
            go_wp2
            refine Rest.done ?_
            go_wp2_with (refine wpList_load_row rfl _ _ rfl w.heap.size rfl _ fc _ _ Hfcw.out hu31 rfl hs31 ?_)
            refine (cut_any A30 hlt30 X).mono ?_
            rintro e w5 ⟨rfl, hb5⟩
            have HW6 := hide (HW5'.out.below hb5)
            have HS7 := hide (HS6'.out.trans (Str.below hb5))
            clear hb5 Hfcw
            generalize A30 % 18446744073709551616 = xx at *
            go_wp2_with (at_builtin; refine wpList_append_nums (F := F3) rfl _ _ _ rfl hu74 _ sl [xx] rfl (by unfold ownN; rw [HSl.out]; exact HW6.out.alloc' _) _ _ rfl (fun h => by cases h) (Lay.new w5 [nv xx] _) (by rw [HSl.out]; simp; omega) ?_; intro v6 w6 ho hs; rw [← HSn.out] at ho; have H6 := hide ho; have HS8 := hide ((HS7.out.alloc _).trans hs); clear ho hs)
            have H6o := H6.out
            obtain ⟨wa6, wc6, rfl, _, _, _, _⟩ := own_value H6o
            have HSl1 : ((sched m (i' + 1)).map (·.toNat)).length = i' + 1 := by rw [List.length_map, sched_len]
            unfold ownN at H6o
            rw [HSl1] at H6o ⊢
            exact ⟨⟨i' + 1, by omega, by simp, H6o, HS8.out⟩, by simp [intOf]; omega⟩
          ·obtain rfl : i' = 80 := by omega
           have hF31 : F1.on wr := by
            have h9 := hw.right
            rw [← HF3.out] at h9
            exact h9.right.right
           have cR := (fc_part w wr w.heap.size (HFc.out wr hF31)).2
           have hS8 : ((stK PD k).list.map (·.toNat)).length = 8 := by rw [List.length_map]; rfl
           have HS8l := hide hS8
           have HL8 : Hid (∀ X, F3.on X → Lay X ha (((stK PD k).list.map (·.toNat)).map nv) ∧ (ha = Option.none → hc2 = 0)) := hide fun X hX => by
            rw [← HF3.out] at hX
            obtain ⟨g9, c8, e2, _, _⟩ := own_block hX (by rw [hS8]; decide)
            obtain ⟨a9, c9, e1, _, _, hl, _⟩ := own_value hX
            simp only [Value.slice.injEq] at e1 e2
            obtain ⟨rfl, _, rfl⟩ := e1
            exact ⟨hl, fun h => by rw [e2.1] at h; cases h⟩
           have hF4 : ∃ F4, F4 = (ownN (.slice wa 80 wc) ((sched m 80).map (·.toNat)) * F3) := ⟨_, rfl⟩
           obtain ⟨F4, hF4⟩ := hF4
           have HF4 := hide hF4
           have HW7 : Hid (F4.on wr) := hide (by rw [hF4]; unfold ownN; rw [List.length_map, sched_len]; exact hw)
           have HS7 := hide hstr
           clear hF4 hw hstr hS8 Hw0 HS5 HW4
           generalize hsK : (stK PD k).list.map (·.toNat) = sK at *
           have HsK := hide hsK
           clear hsK
           go_wp2_with (at_builtin; refine wpList_append_nums (F := F4) rfl _ _ _ rfl hu74 _ [] sK rfl (by first | exact own_new 22 1 0 [] HW7.out rfl (by decide) | exact SP.on.drew (own_new 22 1 0 [] HW7.out rfl (by decide))) ha hc2 (by have h9 := HS8l.out; rw [h9]; first | done | rfl) (by have h9 := HW7.out; rw [HF4.out] at h9; exact (HL8.out _ h9.right).2) (by first | (have h9 := (own_new 22 1 0 [] HW7.out rfl (by decide)).right; rw [HF4.out] at h9; exact (HL8.out _ h9.right).1) | (have h9 := (SP.on.drew (own_new 22 1 0 [] HW7.out rfl (by decide))).right; rw [HF4.out] at h9; exact (HL8.out _ h9.right).1)) (by rw [HS8l.out]; decide) ?_; intro v6 w6 ho hs; have H6 := hide ho; have HS8 := hide (by first | exact (HS7.out.alloc _).trans hs | exact (Str.drew (HS7.out.alloc _)).trans hs : Str w w6); clear ho hs)
           rw [List.nil_append] at H6
           have HsF : Hid ((own 22 1 v6 8 (stN (runR (stK PD k) (sched m 80) 0)) * F4).on w6) := hide (by have h9 := H6.out; rw [← HsK.out] at h9; exact h9)
           have HSc := hide (sched_len m 80)
           have HSK : Hid (F4 = (own 22 1 (.slice ha 8 hc2) 8 (stN (stK PD k)) * (own 22 1 (.slice wa 80 wc) 80 ((sched m 80).map w64) * (ownN (.slice ka KW.length kc) KW * F1)))) := hide (by
            rw [HF4.out, ← HF3.out, ← HsK.out]
            unfold ownN
            rw [List.length_map, sched_len, List.map_map]
            show (own 22 1 (.slice wa 80 wc) 80 ((sched m 80).map w64) * (own 22 1 (.slice ha 8 hc2) 8 (stN (stK PD k)) * (own 22 1 (.slice ka KW.length kc) KW.length (KW.map nv) * F1))) = _
            ac_rfl)
           clear H6 HS7 HL8 HS8l HF4 HF3 HAll Hmg HsK hF31 cR HW7
           have hu29 := Tryd.underlying120
           have hsb0 : (Tryd.prog.info? 120).map (·.size) = some (tc 28 34 39).size := by kernel_rfl
           have hsb1 : (Tryd.prog.info? 120).map (·.size) = some (tc 14 18 41).size := by kernel_rfl
           go_loopw [17, 18] (fun sv i wr => ∃ j : Nat, j ≤ 80 ∧ i = .int .i64 j ∧ (own 22 1 sv 8 (stN (runR (stK PD k) (sched m 80) j)) * F4).on wr ∧ Str w wr) (fun _ i _ => 80 - (intOf i).toNat)
           case atStart => exact ⟨0, Nat.zero_le _, rfl, HsF.out, HS8.out⟩
           case round =>
            rename Exit → Act → World → Prop => Qr7
            obtain ⟨j, hj, rfl, hw, hstr⟩ := hrel
            clear HsF HS8
            obtain ⟨gs, cs, rfl, _, _⟩ := own_block hw (by decide)
            have h9 := hw.right
            rw [HSK.out] at h9
            obtain ⟨gw, wc2, ew, _, _⟩ := own_block h9.right (by decide)
            obtain ⟨gk, kc2, ek, _, _⟩ := own_block h9.right.right (by decide)
            simp only [Value.slice.injEq] at ew ek
            obtain ⟨rfl, _, rfl⟩ := ew
            obtain ⟨rfl, _, rfl⟩ := ek
            have hfc := fc_part w wr w.heap.size (HFc.out wr h9.right.right.right)
            obtain ⟨_, cR⟩ := hfc
            by_cases hjt : j < 80
            ·have hjI : (j : Int) < 80 := by omega
             have hjK : (j : Int) < (KW.length : Int) := by rw [KW_len]; omega
             have HR1 := hide (show runR (stK PD k) (sched m 80) (j + 1) = rnd (runR (stK PD k) (sched m 80) j) (K j) ((sched m 80).getD j 0) from rfl)
             obtain ⟨hkc, hkl⟩ := KW_get j hjt
             have HQ0 : Hid (∀ Y, Stay wr Y → RQ w.heap.size gs gw gk j (runR (stK PD k) (sched m 80) j) ((sched m 80).getD j 0) (KW.getD j 0) Y) := hide fun Y hY => by
              have h8 := SP.on.below hw hY
              have h7 := h8.right
              rw [HSK.out] at h7
              refine ⟨HFc.out Y h7.right.right.right, fun t x ht => own_cell h8 t x ht, own_cell h7.right j _ ?_, own_cell h7.right.right j _ ?_⟩
              ·rw [List.getElem?_map, List.getD_eq_getElem?_getD, List.getElem?_eq_getElem (by rw [sched_len]; exact hjt)]; rfl
              ·rw [List.getElem?_map, List.getD_eq_getElem?_getD, List.getElem?_eq_getElem (by rw [KW_len]; omega)]; rfl
             have HWr0 := hide hw
             have HSr0 := hide hstr
             have HKl := hide hkl
             have HKc := hide hkc
             clear hw hstr h9 hkl hkc
             generalize runR (stK PD k) (sched m 80) j = s at *
             generalize (sched m 80).getD j 0 = xw at *
             generalize KW.getD j 0 = kj at *
             obtain ⟨sa, sb, sc, sd, se, sf, sg, sh⟩ := s
             have HX1 := hide (pq_nat ⟨sa, sb, sc, sd, se, sf, sg, sh⟩ (K j) xw)
             have HX2 := hide (dp_nat ⟨sa, sb, sc, sd, se, sf, sg, sh⟩ (K j) xw)
             have HNx := hide (show rnd ⟨sa, sb, sc, sd, se, sf, sg, sh⟩ (K j) xw = ⟨pOf ⟨sa, sb, sc, sd, se, sf, sg, sh⟩ (K j) xw + qOf ⟨sa, sb, sc, sd, se, sf, sg, sh⟩, sa, sb, sc, sd + pOf ⟨sa, sb, sc, sd, se, sf, sg, sh⟩ (K j) xw, se, sf, sg⟩ from rfl)
             rw [← HR1.out] at HNx
             dsimp only at HX1 HX2
             have HCh := hide (show chW ⟨sa, sb, sc, sd, se, sf, sg, sh⟩ = (se &&& sf) ||| (~~~se &&& sg) from rfl)
             have HMo := hide (show maW ⟨sa, sb, sc, sd, se, sf, sg, sh⟩ = ((sa &&& sb) ||| (sa &&& sc)) ||| (sb &&& sc) from rfl)
             generalize chW ⟨sa, sb, sc, sd, se, sf, sg, sh⟩ = ch at *
             generalize maW ⟨sa, sb, sc, sd, se, sf, sg, sh⟩ = mo at *
             generalize pOf ⟨sa, sb, sc, sd, se, sf, sg, sh⟩ (K j) xw + qOf ⟨sa, sb, sc, sd, se, sf, sg, sh⟩ = nx at *
             generalize sd + pOf ⟨sa, sb, sc, sd, se, sf, sg, sh⟩ (K j) xw = ny at *
             have hp1 := wrap_m64 sh.toNat (big1 se).toNat
             have hq1 := wrap_m64 (big0 sa).toNat mo.toNat
             generalize m64 (sh.toNat + (big1 se).toNat) = p1 at *
             generalize m64 ((big0 sa).toNat + mo.toNat) = q1 at *
             have hp2 := wrap_m64 p1 ch.toNat
             generalize m64 (p1 + ch.toNat) = p2 at *
             generalize hkk : (K j).toNat = kk at *
             have hp3 := wrap_m64 p2 kk
             generalize m64 (p2 + kk) = p3 at *
             have hp4 := wrap_m64 p3 xw.toNat
             generalize m64 (p3 + xw.toNat) = p4 at *
             have ht1 := wrap_m64 p4 q1
             have Ht1l := hide (m64_lt (p4 + q1))
             generalize m64 (p4 + q1) = t1 at *
             have ht2 := wrap_m64 sd.toNat p4
             have Ht2l := hide (m64_lt (sd.toNat + p4))
             generalize m64 (sd.toNat + p4) = t2 at *
             replace HX1 := hide HX1.out.symm
             replace HX2 := hide HX2.out.symm
             have HN := hide (notw se)
             have HNc := hide (not_cut se)
             have HNl := hide (show 18446744073709551615 - se.toNat < 18446744073709551616 by omega)
             generalize 18446744073709551615 - se.toNat = nn at *
             clear hkk HR1
             go_wp2_with fail
             refine wp_region_vs [isV (.slice (some ⟨gs, 0, .none⟩) 8 cs), isV (.pointer (some ⟨gs, 4, .none⟩)), isV (w64 se), isV (.slice (some ⟨gs, 0, .none⟩) 8 cs), isV (.pointer (some ⟨gs, 5, .none⟩)), isV (w64 sf), isV (w64 (se &&& sf)), isV (.agg fc), isV (.slice (some ⟨gs, 0, .none⟩) 8 cs), isV (.pointer (some ⟨gs, 4, .none⟩)), isV (w64 se), isV (.int .u64 (nn : Int)), isV (w64 (~~~se)), isV (.slice (some ⟨gs, 0, .none⟩) 8 cs), isV (.pointer (some ⟨gs, 6, .none⟩)), isV (w64 sg), isV (w64 (~~~se &&& sg)), isV (w64 ((se &&& sf) ||| (~~~se &&& sg))), isV (w64 ((se &&& sf) ||| (~~~se &&& sg)))]
              (by kernel_rfl) (by kernel_rfl) rfl ?keep ?todo ?r78
             case keep => repeat (first | exact trivial | refine ⟨Keep.isV _, ?_⟩)
             case todo =>
              refine ⟨?_, ?_, ?_, ?_, ?_, ?_, ?_, ?_, ?_, ?_, ?_, ?_, ?_, ?_, ?_, ?_, ?_, ?_, ?_, trivial⟩
              ·exact fun _ _ _ _ hk hf => OpOk.m rfl hk.1
              ·intro ev X hT hb hk hf
               have e0 : ev (.tmp 169) = _ := hf.1
               exact OpOk.r (by simp [execOp, e0, hb.1, go_sem])
              ·intro ev X hT hb hk hf
               have e0 : ev (.tmp 170) = _ := hf.1
               have cW := (HQ0.out X hT).2.1 4 _ rfl
               exact OpOk.r (by simp [execOp, e0, cW, go_sem])
              ·exact fun _ _ _ _ hk hf => OpOk.m rfl hk.1
              ·intro ev X hT hb hk hf
               have e0 : ev (.tmp 172) = _ := hf.1
               exact OpOk.r (by simp [execOp, e0, hb.1, go_sem])
              ·intro ev X hT hb hk hf
               have e0 : ev (.tmp 173) = _ := hf.1
               have cW := (HQ0.out X hT).2.1 5 _ rfl
               exact OpOk.r (by simp [execOp, e0, cW, go_sem])
              ·intro ev X hT hb hk hf
               have e0 : ev (.tmp 171) = _ := hf.1
               have e1 : ev (.tmp 174) = _ := hf.2.1
               exact OpOk.r (by simp [execOp, e0, e1, hb.1, andw, -UInt64.toNat_add, -UInt64.toNat_xor, -UInt64.toNat_and, -UInt64.toNat_or, -UInt64.toNat_not, -UInt64.toNat_shiftRight, -UInt64.toNat_shiftLeft, go_sem])
              ·intro ev X hT hb hk hf
               have e0 : ev (.tmp 2) = .pointer (some ⟨w.heap.size, 0, .none⟩) := hk.1
               exact OpOk.load_part _ _ rfl w.heap.size 0 e0 fc _ (part_of (HQ0.out X hT).1) hu31 rfl hs31 ⟨rfl, Stay.refl _⟩
              ·exact fun _ _ _ _ hk hf => OpOk.m rfl hk.1
              ·intro ev X hT hb hk hf
               have e0 : ev (.tmp 177) = _ := hf.1
               exact OpOk.r (by simp [execOp, e0, hb.1, go_sem])
              ·intro ev X hT hb hk hf
               have e0 : ev (.tmp 178) = _ := hf.1
               have cW := (HQ0.out X hT).2.1 4 _ rfl
               exact OpOk.r (by simp [execOp, e0, cW, go_sem])
              ·intro ev X hT hb hk hf
               have e0 : ev (.tmp 179) = _ := hf.1
               exact OpOk.r (by simp [execOp, e0, hb.1, IntKind.signed, HN.out, -UInt64.toNat_add, -UInt64.toNat_xor, -UInt64.toNat_and, -UInt64.toNat_or, -UInt64.toNat_not, -UInt64.toNat_shiftRight, -UInt64.toNat_shiftLeft, go_sem])
              ·intro ev X hT hb hk hf
               have e0 : ev (.tmp 176) = _ := hf.1
               have e1 : ev (.tmp 180) = _ := hf.2.1
               refine OpOk.enters (f := 100) (args := #[.agg fc, .int .u64 (nn : Int)]) (W' := X) (by simp [execOp, resolve, invoke, e0, e1, hb.1, hb.2.1, go_sem]) ((cut_any nn HNl.out X).mono ?_)
               rintro e X2 ⟨rfl, h2⟩
               exact ⟨_, rfl, by rw [HNc.out]; exact rfl, h2⟩
              ·exact fun _ _ _ _ hk hf => OpOk.m rfl hk.1
              ·intro ev X hT hb hk hf
               have e0 : ev (.tmp 182) = _ := hf.1
               exact OpOk.r (by simp [execOp, e0, hb.1, go_sem])
              ·intro ev X hT hb hk hf
               have e0 : ev (.tmp 183) = _ := hf.1
               have cW := (HQ0.out X hT).2.1 6 _ rfl
               exact OpOk.r (by simp [execOp, e0, cW, go_sem])
              ·intro ev X hT hb hk hf
               have e0 : ev (.tmp 181) = _ := hf.1
               have e1 : ev (.tmp 184) = _ := hf.2.1
               exact OpOk.r (by simp [execOp, e0, e1, hb.1, andw, -UInt64.toNat_add, -UInt64.toNat_xor, -UInt64.toNat_and, -UInt64.toNat_or, -UInt64.toNat_not, -UInt64.toNat_shiftRight, -UInt64.toNat_shiftLeft, go_sem])
              ·intro ev X hT hb hk hf
               have e0 : ev (.tmp 175) = _ := hf.1
               have e1 : ev (.tmp 185) = _ := hf.2.1
               exact OpOk.r (by simp [execOp, e0, e1, hb.1, orw, -UInt64.toNat_add, -UInt64.toNat_xor, -UInt64.toNat_and, -UInt64.toNat_or, -UInt64.toNat_not, -UInt64.toNat_shiftRight, -UInt64.toNat_shiftLeft, go_sem])
              ·intro ev X hT hb hk hf
               have e0 : ev (.tmp 186) = _ := hf.1
               exact OpOk.assign rfl e0 ⟨rfl, Stay.refl _⟩
             intro X1 hT
             rintro _ rfl _ rfl _ rfl _ rfl _ rfl _ rfl _ rfl _ rfl _ rfl _ rfl _ rfl _ rfl _ rfl _ rfl _ rfl _ rfl _ rfl _ rfl _ rfl
             have HQ1 := hide fun (Y : World) (hY : Stay X1 Y) => HQ0.out Y (hT.trans hY)
             have HWr1 := hide (SP.on.below HWr0.out hT)
             have HSr1 := hide (HSr0.out.trans (Str.below hT))
             clear hT HQ0 HWr0 HSr0
             rw [← HCh.out]
             clear HCh HN HNc HNl
             go_wp2
             refine Rest.done ?_
             go_wp2_with fail
             refine wp_region_vs [isV (.slice (some ⟨gs, 0, .none⟩) 8 cs), isV (.pointer (some ⟨gs, 0, .none⟩)), isV (w64 sa), isV (.slice (some ⟨gs, 0, .none⟩) 8 cs), isV (.pointer (some ⟨gs, 1, .none⟩)), isV (w64 sb), isV (w64 (sa &&& sb)), isV (.slice (some ⟨gs, 0, .none⟩) 8 cs), isV (.pointer (some ⟨gs, 0, .none⟩)), isV (w64 sa), isV (.slice (some ⟨gs, 0, .none⟩) 8 cs), isV (.pointer (some ⟨gs, 2, .none⟩)), isV (w64 sc), isV (w64 (sa &&& sc)), isV (w64 ((sa &&& sb) ||| (sa &&& sc))), isV (.slice (some ⟨gs, 0, .none⟩) 8 cs), isV (.pointer (some ⟨gs, 1, .none⟩)), isV (w64 sb), isV (.slice (some ⟨gs, 0, .none⟩) 8 cs), isV (.pointer (some ⟨gs, 2, .none⟩)), isV (w64 sc), isV (w64 (sb &&& sc)), isV (w64 (((sa &&& sb) ||| (sa &&& sc)) ||| (sb &&& sc))), isV (w64 (((sa &&& sb) ||| (sa &&& sc)) ||| (sb &&& sc)))]
              (by kernel_rfl) (by kernel_rfl) rfl ?keep ?todo ?r79
             case keep => repeat (first | exact trivial | refine ⟨Keep.isV _, ?_⟩)
             case todo =>
              refine ⟨?_, ?_, ?_, ?_, ?_, ?_, ?_, ?_, ?_, ?_, ?_, ?_, ?_, ?_, ?_, ?_, ?_, ?_, ?_, ?_, ?_, ?_, ?_, ?_, trivial⟩
              ·exact fun _ _ _ _ hk hf => OpOk.m rfl hk.1
              ·intro ev X hT hb hk hf
               have e0 : ev (.tmp 187) = _ := hf.1
               exact OpOk.r (by simp [execOp, e0, hb.1, go_sem])
              ·intro ev X hT hb hk hf
               have e0 : ev (.tmp 188) = _ := hf.1
               have cW := (HQ1.out X hT).2.1 0 _ rfl
               exact OpOk.r (by simp [execOp, e0, cW, go_sem])
              ·exact fun _ _ _ _ hk hf => OpOk.m rfl hk.1
              ·intro ev X hT hb hk hf
               have e0 : ev (.tmp 190) = _ := hf.1
               exact OpOk.r (by simp [execOp, e0, hb.1, go_sem])
              ·intro ev X hT hb hk hf
               have e0 : ev (.tmp 191) = _ := hf.1
               have cW := (HQ1.out X hT).2.1 1 _ rfl
               exact OpOk.r (by simp [execOp, e0, cW, go_sem])
              ·intro ev X hT hb hk hf
               have e0 : ev (.tmp 189) = _ := hf.1
               have e1 : ev (.tmp 192) = _ := hf.2.1
               exact OpOk.r (by simp [execOp, e0, e1, hb.1, andw, -UInt64.toNat_add, -UInt64.toNat_xor, -UInt64.toNat_and, -UInt64.toNat_or, -UInt64.toNat_not, -UInt64.toNat_shiftRight, -UInt64.toNat_shiftLeft, go_sem])
              ·exact fun _ _ _ _ hk hf => OpOk.m rfl hk.1
              ·intro ev X hT hb hk hf
               have e0 : ev (.tmp 194) = _ := hf.1
               exact OpOk.r (by simp [execOp, e0, hb.1, go_sem])
              ·intro ev X hT hb hk hf
               have e0 : ev (.tmp 195) = _ := hf.1
               have cW := (HQ1.out X hT).2.1 0 _ rfl
               exact OpOk.r (by simp [execOp, e0, cW, go_sem])
              ·exact fun _ _ _ _ hk hf => OpOk.m rfl hk.1
              ·intro ev X hT hb hk hf
               have e0 : ev (.tmp 197) = _ := hf.1
               exact OpOk.r (by simp [execOp, e0, hb.1, go_sem])
              ·intro ev X hT hb hk hf
               have e0 : ev (.tmp 198) = _ := hf.1
               have cW := (HQ1.out X hT).2.1 2 _ rfl
               exact OpOk.r (by simp [execOp, e0, cW, go_sem])
              ·intro ev X hT hb hk hf
               have e0 : ev (.tmp 196) = _ := hf.1
               have e1 : ev (.tmp 199) = _ := hf.2.1
               exact OpOk.r (by simp [execOp, e0, e1, hb.1, andw, -UInt64.toNat_add, -UInt64.toNat_xor, -UInt64.toNat_and, -UInt64.toNat_or, -UInt64.toNat_not, -UInt64.toNat_shiftRight, -UInt64.toNat_shiftLeft, go_sem])
              ·intro ev X hT hb hk hf
               have e0 : ev (.tmp 193) = _ := hf.1
               have e1 : ev (.tmp 200) = _ := hf.2.1
               exact OpOk.r (by simp [execOp, e0, e1, hb.1, orw, -UInt64.toNat_add, -UInt64.toNat_xor, -UInt64.toNat_and, -UInt64.toNat_or, -UInt64.toNat_not, -UInt64.toNat_shiftRight, -UInt64.toNat_shiftLeft, go_sem])
              ·exact fun _ _ _ _ hk hf => OpOk.m rfl hk.1
              ·intro ev X hT hb hk hf
               have e0 : ev (.tmp 202) = _ := hf.1
               exact OpOk.r (by simp [execOp, e0, hb.1, go_sem])
              ·intro ev X hT hb hk hf
               have e0 : ev (.tmp 203) = _ := hf.1
               have cW := (HQ1.out X hT).2.1 1 _ rfl
               exact OpOk.r (by simp [execOp, e0, cW, go_sem])
              ·exact fun _ _ _ _ hk hf => OpOk.m rfl hk.1
              ·intro ev X hT hb hk hf
               have e0 : ev (.tmp 205) = _ := hf.1
               exact OpOk.r (by simp [execOp, e0, hb.1, go_sem])
              ·intro ev X hT hb hk hf
               have e0 : ev (.tmp 206) = _ := hf.1
               have cW := (HQ1.out X hT).2.1 2 _ rfl
               exact OpOk.r (by simp [execOp, e0, cW, go_sem])
              ·intro ev X hT hb hk hf
               have e0 : ev (.tmp 204) = _ := hf.1
               have e1 : ev (.tmp 207) = _ := hf.2.1
               exact OpOk.r (by simp [execOp, e0, e1, hb.1, andw, -UInt64.toNat_add, -UInt64.toNat_xor, -UInt64.toNat_and, -UInt64.toNat_or, -UInt64.toNat_not, -UInt64.toNat_shiftRight, -UInt64.toNat_shiftLeft, go_sem])
              ·intro ev X hT hb hk hf
               have e0 : ev (.tmp 201) = _ := hf.1
               have e1 : ev (.tmp 208) = _ := hf.2.1
               exact OpOk.r (by simp [execOp, e0, e1, hb.1, orw, -UInt64.toNat_add, -UInt64.toNat_xor, -UInt64.toNat_and, -UInt64.toNat_or, -UInt64.toNat_not, -UInt64.toNat_shiftRight, -UInt64.toNat_shiftLeft, go_sem])
              ·intro ev X hT hb hk hf
               have e0 : ev (.tmp 209) = _ := hf.1
               exact OpOk.assign rfl e0 ⟨rfl, Stay.refl _⟩
             intro X2 hT
             rintro _ rfl _ rfl _ rfl _ rfl _ rfl _ rfl _ rfl _ rfl _ rfl _ rfl _ rfl _ rfl _ rfl _ rfl _ rfl _ rfl _ rfl _ rfl _ rfl _ rfl _ rfl _ rfl _ rfl _ rfl
             have HQ2 := hide fun (Y : World) (hY : Stay X2 Y) => HQ1.out Y (hT.trans hY)
             have HWr2 := hide (SP.on.below HWr1.out hT)
             have HSr2 := hide (HSr1.out.trans (Str.below hT))
             clear hT HQ1 HWr1 HSr1
             rw [← HMo.out]
             clear HMo
             go_wp2
             refine Rest.done ?_
             go_wp2_with fail
             refine wp_region_vs [isV (.slice (some ⟨gs, 0, .none⟩) 8 cs), isV (.pointer (some ⟨gs, 7, .none⟩)), isV (w64 sh), isV (.agg fc), isV (.slice (some ⟨gs, 0, .none⟩) 8 cs), isV (.pointer (some ⟨gs, 4, .none⟩)), isV (w64 se), isV (.pointer (some ⟨w.heap.size, 5, .none⟩)), isV (.agg (tc 14 18 41)), isV (w64 (big1 se)), isV (.int .u64 (p1 : Int)), isV (w64 ch), isV (.int .u64 (p2 : Int)), isV (.agg fc), isV (.slice (some ⟨gk, 0, .none⟩) KW.length kc), isV (.int .i64 (j : Int)), isV (.pointer (some ⟨gk, j, .none⟩)), isV (nv kj), isV (nv kk), isV (.int .u64 (p3 : Int)), isV (.slice (some ⟨gw, 0, .none⟩) 80 wc), isV (.int .i64 (j : Int)), isV (.pointer (some ⟨gw, j, .none⟩)), isV (w64 xw), isV (.int .u64 (p4 : Int)), isV (.int .u64 (p4 : Int))]
              (by kernel_rfl) (by kernel_rfl) rfl ?keep ?todo ?r80
             case keep => repeat (first | exact trivial | refine ⟨Keep.isV _, ?_⟩)
             case todo =>
              refine ⟨?_, ?_, ?_, ?_, ?_, ?_, ?_, ?_, ?_, ?_, ?_, ?_, ?_, ?_, ?_, ?_, ?_, ?_, ?_, ?_, ?_, ?_, ?_, ?_, ?_, ?_, trivial⟩
              ·exact fun _ _ _ _ hk hf => OpOk.m rfl hk.1
              ·intro ev X hT hb hk hf
               have e0 : ev (.tmp 210) = _ := hf.1
               exact OpOk.r (by simp [execOp, e0, hb.1, go_sem])
              ·intro ev X hT hb hk hf
               have e0 : ev (.tmp 211) = _ := hf.1
               have cW := (HQ2.out X hT).2.1 7 _ rfl
               exact OpOk.r (by simp [execOp, e0, cW, go_sem])
              ·intro ev X hT hb hk hf
               have e0 : ev (.tmp 2) = .pointer (some ⟨w.heap.size, 0, .none⟩) := hk.1
               exact OpOk.load_part _ _ rfl w.heap.size 0 e0 fc _ (part_of (HQ2.out X hT).1) hu31 rfl hs31 ⟨rfl, Stay.refl _⟩
              ·exact fun _ _ _ _ hk hf => OpOk.m rfl hk.1
              ·intro ev X hT hb hk hf
               have e0 : ev (.tmp 214) = _ := hf.1
               exact OpOk.r (by simp [execOp, e0, hb.1, go_sem])
              ·intro ev X hT hb hk hf
               have e0 : ev (.tmp 215) = _ := hf.1
               have cW := (HQ2.out X hT).2.1 4 _ rfl
               exact OpOk.r (by simp [execOp, e0, cW, go_sem])
              ·intro ev X hT hb hk hf
               have e0 : ev (.tmp 2) = .pointer (some ⟨w.heap.size, 0, .none⟩) := hk.1
               exact OpOk.r (by simp [execOp, e0, hb.1, go_sem])
              ·intro ev X hT hb hk hf
               have e0 : ev (.tmp 217) = _ := hf.1
               exact OpOk.load_part _ _ rfl w.heap.size 5 e0 (tc 14 18 41) _ (fc_big1 (HQ2.out X hT).1) hu29 rfl hsb1 ⟨rfl, Stay.refl _⟩
              ·intro ev X hT hb hk hf
               have e0 : ev (.tmp 213) = _ := hf.1
               have e1 : ev (.tmp 216) = _ := hf.2.1
               have e2 : ev (.tmp 218) = _ := hf.2.2.1
               refine OpOk.enters (f := 101) (args := #[.agg fc, w64 se, .agg (tc 14 18 41)]) (W' := X) (by simp [execOp, resolve, invoke, e0, e1, e2, hb.1, hb.2.1, go_sem]) ((rbig1_any se X).mono ?_)
               rintro e X2 ⟨rfl, h2⟩
               exact ⟨_, rfl, rfl, h2⟩
              ·intro ev X hT hb hk hf
               have e0 : ev (.tmp 212) = _ := hf.1
               have e1 : ev (.tmp 219) = _ := hf.2.1
               exact OpOk.r (by simp [execOp, e0, e1, hb.1, hp1, -UInt64.toNat_add, -UInt64.toNat_xor, -UInt64.toNat_and, -UInt64.toNat_or, -UInt64.toNat_not, -UInt64.toNat_shiftRight, -UInt64.toNat_shiftLeft, go_sem])
              ·exact fun _ _ _ _ hk hf => OpOk.m rfl hk.1
              ·intro ev X hT hb hk hf
               have e0 : ev (.tmp 220) = _ := hf.1
               have e1 : ev (.tmp 221) = _ := hf.2.1
               exact OpOk.r (by simp [execOp, e0, e1, hb.1, hp2, -UInt64.toNat_add, -UInt64.toNat_xor, -UInt64.toNat_and, -UInt64.toNat_or, -UInt64.toNat_not, -UInt64.toNat_shiftRight, -UInt64.toNat_shiftLeft, go_sem])
              ·intro ev X hT hb hk hf
               have e0 : ev (.tmp 2) = .pointer (some ⟨w.heap.size, 0, .none⟩) := hk.1
               exact OpOk.load_part _ _ rfl w.heap.size 0 e0 fc _ (part_of (HQ2.out X hT).1) hu31 rfl hs31 ⟨rfl, Stay.refl _⟩
              ·exact fun _ _ _ _ hk hf => OpOk.m rfl hk.1
              ·exact fun _ _ _ _ hk hf => OpOk.m rfl hk.1
              ·intro ev X hT hb hk hf
               have e0 : ev (.tmp 224) = _ := hf.1
               have e1 : ev (.tmp 225) = _ := hf.2.1
               exact OpOk.r (by simp [execOp, e0, e1, hb.1, hjK, go_sem])
              ·intro ev X hT hb hk hf
               have e0 : ev (.tmp 226) = _ := hf.1
               have cW := (HQ2.out X hT).2.2.2
               exact OpOk.r (by simp [execOp, e0, cW, go_sem])
              ·intro ev X hT hb hk hf
               have e0 : ev (.tmp 223) = _ := hf.1
               have e1 : ev (.tmp 227) = _ := hf.2.1
               refine OpOk.enters (f := 96) (args := #[.agg fc, nv kj]) (W' := X) (by simp [execOp, resolve, invoke, e0, e1, hb.1, hb.2.1, go_sem]) ((constant_any kj HKl.out X).mono ?_)
               rintro e X2 ⟨rfl, h2⟩
               exact ⟨_, rfl, by rw [HKc.out]; exact rfl, h2⟩
              ·intro ev X hT hb hk hf
               have e0 : ev (.tmp 222) = _ := hf.1
               have e1 : ev (.tmp 228) = _ := hf.2.1
               exact OpOk.r (by simp [execOp, e0, e1, hb.1, hp3, -UInt64.toNat_add, -UInt64.toNat_xor, -UInt64.toNat_and, -UInt64.toNat_or, -UInt64.toNat_not, -UInt64.toNat_shiftRight, -UInt64.toNat_shiftLeft, go_sem])
              ·exact fun _ _ _ _ hk hf => OpOk.m rfl hk.1
              ·exact fun _ _ _ _ hk hf => OpOk.m rfl hk.1
              ·intro ev X hT hb hk hf
               have e0 : ev (.tmp 230) = _ := hf.1
               have e1 : ev (.tmp 231) = _ := hf.2.1
               exact OpOk.r (by simp [execOp, e0, e1, hb.1, hjI, go_sem])
              ·intro ev X hT hb hk hf
               have e0 : ev (.tmp 232) = _ := hf.1
               have cW := (HQ2.out X hT).2.2.1
               exact OpOk.r (by simp [execOp, e0, cW, go_sem])
              ·intro ev X hT hb hk hf
               have e0 : ev (.tmp 229) = _ := hf.1
               have e1 : ev (.tmp 233) = _ := hf.2.1
               exact OpOk.r (by simp [execOp, e0, e1, hb.1, hp4, -UInt64.toNat_add, -UInt64.toNat_xor, -UInt64.toNat_and, -UInt64.toNat_or, -UInt64.toNat_not, -UInt64.toNat_shiftRight, -UInt64.toNat_shiftLeft, go_sem])
              ·intro ev X hT hb hk hf
               have e0 : ev (.tmp 234) = _ := hf.1
               exact OpOk.assign rfl e0 ⟨rfl, Stay.refl _⟩
             intro X3 hT
             rintro _ rfl _ rfl _ rfl _ rfl _ rfl _ rfl _ rfl _ rfl _ rfl _ rfl _ rfl _ rfl _ rfl _ rfl _ rfl _ rfl _ rfl _ rfl _ rfl _ rfl _ rfl _ rfl _ rfl _ rfl _ rfl _ rfl
             have HQ3 := hide fun (Y : World) (hY : Stay X3 Y) => HQ2.out Y (hT.trans hY)
             have HWr3 := hide (SP.on.below HWr2.out hT)
             have HSr3 := hide (HSr2.out.trans (Str.below hT))
             clear hT HQ2 HWr2 HSr2
             go_wp2
             refine Rest.done ?_
             go_wp2_with fail
             refine wp_region_vs [isV (.agg fc), isV (.slice (some ⟨gs, 0, .none⟩) 8 cs), isV (.pointer (some ⟨gs, 0, .none⟩)), isV (w64 sa), isV (.pointer (some ⟨w.heap.size, 2, .none⟩)), isV (.agg (tc 28 34 39)), isV (w64 (big0 sa)), isV (w64 mo), isV (.int .u64 (q1 : Int)), isV (.int .u64 (q1 : Int))]
              (by kernel_rfl) (by kernel_rfl) rfl ?keep ?todo ?r81
             case keep => repeat (first | exact trivial | refine ⟨Keep.isV _, ?_⟩)
             case todo =>
              refine ⟨?_, ?_, ?_, ?_, ?_, ?_, ?_, ?_, ?_, ?_, trivial⟩
              ·intro ev X hT hb hk hf
               have e0 : ev (.tmp 2) = .pointer (some ⟨w.heap.size, 0, .none⟩) := hk.1
               exact OpOk.load_part _ _ rfl w.heap.size 0 e0 fc _ (part_of (HQ3.out X hT).1) hu31 rfl hs31 ⟨rfl, Stay.refl _⟩
              ·exact fun _ _ _ _ hk hf => OpOk.m rfl hk.1
              ·intro ev X hT hb hk hf
               have e0 : ev (.tmp 236) = _ := hf.1
               exact OpOk.r (by simp [execOp, e0, hb.1, go_sem])
              ·intro ev X hT hb hk hf
               have e0 : ev (.tmp 237) = _ := hf.1
               have cW := (HQ3.out X hT).2.1 0 _ rfl
               exact OpOk.r (by simp [execOp, e0, cW, go_sem])
              ·intro ev X hT hb hk hf
               have e0 : ev (.tmp 2) = .pointer (some ⟨w.heap.size, 0, .none⟩) := hk.1
               exact OpOk.r (by simp [execOp, e0, hb.1, go_sem])
              ·intro ev X hT hb hk hf
               have e0 : ev (.tmp 239) = _ := hf.1
               exact OpOk.load_part _ _ rfl w.heap.size 2 e0 (tc 28 34 39) _ (fc_big0 (HQ3.out X hT).1) hu29 rfl hsb0 ⟨rfl, Stay.refl _⟩
              ·intro ev X hT hb hk hf
               have e0 : ev (.tmp 235) = _ := hf.1
               have e1 : ev (.tmp 238) = _ := hf.2.1
               have e2 : ev (.tmp 240) = _ := hf.2.2.1
               refine OpOk.enters (f := 101) (args := #[.agg fc, w64 sa, .agg (tc 28 34 39)]) (W' := X) (by simp [execOp, resolve, invoke, e0, e1, e2, hb.1, hb.2.1, go_sem]) ((rbig0_any sa X).mono ?_)
               rintro e X2 ⟨rfl, h2⟩
               exact ⟨_, rfl, rfl, h2⟩
              ·exact fun _ _ _ _ hk hf => OpOk.m rfl hk.1
              ·intro ev X hT hb hk hf
               have e0 : ev (.tmp 241) = _ := hf.1
               have e1 : ev (.tmp 242) = _ := hf.2.1
               exact OpOk.r (by simp [execOp, e0, e1, hb.1, hq1, -UInt64.toNat_add, -UInt64.toNat_xor, -UInt64.toNat_and, -UInt64.toNat_or, -UInt64.toNat_not, -UInt64.toNat_shiftRight, -UInt64.toNat_shiftLeft, go_sem])
              ·intro ev X hT hb hk hf
               have e0 : ev (.tmp 243) = _ := hf.1
               exact OpOk.assign rfl e0 ⟨rfl, Stay.refl _⟩
             intro X4 hT
             rintro _ rfl _ rfl _ rfl _ rfl _ rfl _ rfl _ rfl _ rfl _ rfl _ rfl
             have HQ4 := hide fun (Y : World) (hY : Stay X4 Y) => HQ3.out Y (hT.trans hY)
             have HWr4 := hide (SP.on.below HWr3.out hT)
             have HSr4 := hide (HSr3.out.trans (Str.below hT))
             clear hT HQ3 HWr3 HSr3
             go_wp2
             refine Rest.done ?_
             go_wp2_with fail
             refine wp_tail 31 [isV (.agg fc), isV (.int .u64 (p4 : Int)), isV (.int .u64 (q1 : Int)), isV (.int .u64 (t1 : Int)), isV (w64 nx), isV (.slice (some ⟨gs, 0, .none⟩) 8 cs), isV (.pointer (some ⟨gs, 0, .none⟩)), isV (w64 sa), isV (.slice (some ⟨gs, 0, .none⟩) 8 cs), isV (.pointer (some ⟨gs, 1, .none⟩)), isV (w64 sb), isV (.slice (some ⟨gs, 0, .none⟩) 8 cs), isV (.pointer (some ⟨gs, 2, .none⟩)), isV (w64 sc), isV (.agg fc), isV (.slice (some ⟨gs, 0, .none⟩) 8 cs), isV (.pointer (some ⟨gs, 3, .none⟩)), isV (w64 sd), isV (.int .u64 (p4 : Int)), isV (.int .u64 (t2 : Int)), isV (w64 ny), isV (.slice (some ⟨gs, 0, .none⟩) 8 cs), isV (.pointer (some ⟨gs, 4, .none⟩)), isV (w64 se), isV (.slice (some ⟨gs, 0, .none⟩) 8 cs), isV (.pointer (some ⟨gs, 5, .none⟩)), isV (w64 sf), isV (.slice (some ⟨gs, 0, .none⟩) 8 cs), isV (.pointer (some ⟨gs, 6, .none⟩)), isV (w64 sg), fun v X => (own 22 1 v 8 [w64 nx, w64 sa, w64 sb, w64 sc, w64 ny, w64 se, w64 sf, w64 sg] * F4).on X] ?keep ?todo ?r82
             case keep => exact ⟨Keep.isV _, Keep.isV _, Keep.isV _, Keep.isV _, Keep.isV _, Keep.isV _, Keep.isV _, Keep.isV _, Keep.isV _, Keep.isV _, Keep.isV _, Keep.isV _, Keep.isV _, Keep.isV _, Keep.isV _, Keep.isV _, Keep.isV _, Keep.isV _, Keep.isV _, Keep.isV _, Keep.isV _, Keep.isV _, Keep.isV _, Keep.isV _, Keep.isV _, Keep.isV _, Keep.isV _, Keep.isV _, Keep.isV _, Keep.isV _, fun _ _ _ h k => SP.on.below h k, trivial⟩
             case todo =>
              refine ⟨?_, ?_, ?_, ?_, ?_, ?_, ?_, ?_, ?_, ?_, ?_, ?_, ?_, ?_, ?_, ?_, ?_, ?_, ?_, ?_, ?_, ?_, ?_, ?_, ?_, ?_, ?_, ?_, ?_, ?_, ?_, trivial⟩
              ·intro ev X hT hb hk hf
               have e0 : ev (.tmp 2) = .pointer (some ⟨w.heap.size, 0, .none⟩) := hk.1
               exact OpOk.load_part _ _ rfl w.heap.size 0 e0 fc _ (part_of (HQ4.out X hT).1) hu31 rfl hs31 ⟨rfl, Stay.refl _⟩
              ·exact fun _ _ _ _ hk hf => OpOk.m rfl hk.1
              ·exact fun _ _ _ _ hk hf => OpOk.m rfl hk.1
              ·intro ev X hT hb hk hf
               have e0 : ev (.tmp 245) = _ := hf.1
               have e1 : ev (.tmp 246) = _ := hf.2.1
               exact OpOk.r (by simp [execOp, e0, e1, hb.1, ht1, -UInt64.toNat_add, -UInt64.toNat_xor, -UInt64.toNat_and, -UInt64.toNat_or, -UInt64.toNat_not, -UInt64.toNat_shiftRight, -UInt64.toNat_shiftLeft, go_sem])
              ·intro ev X hT hb hk hf
               have e0 : ev (.tmp 244) = _ := hf.1
               have e1 : ev (.tmp 247) = _ := hf.2.1
               refine OpOk.enters (f := 100) (args := #[.agg fc, .int .u64 (t1 : Int)]) (W' := X) (by simp [execOp, resolve, invoke, e0, e1, hb.1, hb.2.1, go_sem]) ((cut_any t1 Ht1l.out X).mono ?_)
               rintro e X2 ⟨rfl, h2⟩
               exact ⟨_, rfl, by rw [HX1.out]; exact rfl, h2⟩
              ·exact fun _ _ _ _ hk hf => OpOk.m rfl hk.1
              ·intro ev X hT hb hk hf
               have e0 : ev (.tmp 249) = _ := hf.1
               exact OpOk.r (by simp [execOp, e0, hb.1, go_sem])
              ·intro ev X hT hb hk hf
               have e0 : ev (.tmp 250) = _ := hf.1
               have cW := (HQ4.out X hT).2.1 0 _ rfl
               exact OpOk.r (by simp [execOp, e0, cW, go_sem])
              ·exact fun _ _ _ _ hk hf => OpOk.m rfl hk.1
              ·intro ev X hT hb hk hf
               have e0 : ev (.tmp 252) = _ := hf.1
               exact OpOk.r (by simp [execOp, e0, hb.1, go_sem])
              ·intro ev X hT hb hk hf
               have e0 : ev (.tmp 253) = _ := hf.1
               have cW := (HQ4.out X hT).2.1 1 _ rfl
               exact OpOk.r (by simp [execOp, e0, cW, go_sem])
              ·exact fun _ _ _ _ hk hf => OpOk.m rfl hk.1
              ·intro ev X hT hb hk hf
               have e0 : ev (.tmp 255) = _ := hf.1
               exact OpOk.r (by simp [execOp, e0, hb.1, go_sem])
              ·intro ev X hT hb hk hf
               have e0 : ev (.tmp 256) = _ := hf.1
               have cW := (HQ4.out X hT).2.1 2 _ rfl
               exact OpOk.r (by simp [execOp, e0, cW, go_sem])
              ·intro ev X hT hb hk hf
               have e0 : ev (.tmp 2) = .pointer (some ⟨w.heap.size, 0, .none⟩) := hk.1
               exact OpOk.load_part _ _ rfl w.heap.size 0 e0 fc _ (part_of (HQ4.out X hT).1) hu31 rfl hs31 ⟨rfl, Stay.refl _⟩
              ·exact fun _ _ _ _ hk hf => OpOk.m rfl hk.1
              ·intro ev X hT hb hk hf
               have e0 : ev (.tmp 259) = _ := hf.1
               exact OpOk.r (by simp [execOp, e0, hb.1, go_sem])
              ·intro ev X hT hb hk hf
               have e0 : ev (.tmp 260) = _ := hf.1
               have cW := (HQ4.out X hT).2.1 3 _ rfl
               exact OpOk.r (by simp [execOp, e0, cW, go_sem])
              ·exact fun _ _ _ _ hk hf => OpOk.m rfl hk.1
              ·intro ev X hT hb hk hf
               have e0 : ev (.tmp 261) = _ := hf.1
               have e1 : ev (.tmp 262) = _ := hf.2.1
               exact OpOk.r (by simp [execOp, e0, e1, hb.1, ht2, -UInt64.toNat_add, -UInt64.toNat_xor, -UInt64.toNat_and, -UInt64.toNat_or, -UInt64.toNat_not, -UInt64.toNat_shiftRight, -UInt64.toNat_shiftLeft, go_sem])
              ·intro ev X hT hb hk hf
               have e0 : ev (.tmp 258) = _ := hf.1
               have e1 : ev (.tmp 263) = _ := hf.2.1
               refine OpOk.enters (f := 100) (args := #[.agg fc, .int .u64 (t2 : Int)]) (W' := X) (by simp [execOp, resolve, invoke, e0, e1, hb.1, hb.2.1, go_sem]) ((cut_any t2 Ht2l.out X).mono ?_)
               rintro e X2 ⟨rfl, h2⟩
               exact ⟨_, rfl, by rw [HX2.out]; exact rfl, h2⟩
              ·exact fun _ _ _ _ hk hf => OpOk.m rfl hk.1
              ·intro ev X hT hb hk hf
               have e0 : ev (.tmp 265) = _ := hf.1
               exact OpOk.r (by simp [execOp, e0, hb.1, go_sem])
              ·intro ev X hT hb hk hf
               have e0 : ev (.tmp 266) = _ := hf.1
               have cW := (HQ4.out X hT).2.1 4 _ rfl
               exact OpOk.r (by simp [execOp, e0, cW, go_sem])
              ·exact fun _ _ _ _ hk hf => OpOk.m rfl hk.1
              ·intro ev X hT hb hk hf
               have e0 : ev (.tmp 268) = _ := hf.1
               exact OpOk.r (by simp [execOp, e0, hb.1, go_sem])
              ·intro ev X hT hb hk hf
               have e0 : ev (.tmp 269) = _ := hf.1
               have cW := (HQ4.out X hT).2.1 5 _ rfl
               exact OpOk.r (by simp [execOp, e0, cW, go_sem])
              ·exact fun _ _ _ _ hk hf => OpOk.m rfl hk.1
              ·intro ev X hT hb hk hf
               have e0 : ev (.tmp 271) = _ := hf.1
               exact OpOk.r (by simp [execOp, e0, hb.1, go_sem])
              ·intro ev X hT hb hk hf
               have e0 : ev (.tmp 272) = _ := hf.1
               have cW := (HQ4.out X hT).2.1 6 _ rfl
               exact OpOk.r (by simp [execOp, e0, cW, go_sem])
              ·intro ev X hT hb hk hf
               have e0 : ev (.tmp 248) = _ := hf.1
               have e1 : ev (.tmp 251) = _ := hf.2.1
               have e2 : ev (.tmp 254) = _ := hf.2.2.1
               have e3 : ev (.tmp 257) = _ := hf.2.2.2.1
               have e4 : ev (.tmp 264) = _ := hf.2.2.2.2.1
               have e5 : ev (.tmp 267) = _ := hf.2.2.2.2.2.1
               have e6 : ev (.tmp 270) = _ := hf.2.2.2.2.2.2.1
               have e7 : ev (.tmp 273) = _ := hf.2.2.2.2.2.2.2.1
               exact OpOk.run (v := .slice (some ⟨X.heap.size, 0, .none⟩) 8 8) (W' := X.alloc (.cells #[w64 nx, w64 sa, w64 sb, w64 sc, w64 ny, w64 se, w64 sf, w64 sg] 22)) (by simp [execOp, e0, e1, e2, e3, e4, e5, e6, e7, hb.1, go_sem]) ⟨own_new 22 1 8 [w64 nx, w64 sa, w64 sb, w64 sc, w64 ny, w64 se, w64 sf, w64 sg] (SP.on.below HWr4.out hT).right rfl (by decide), (Below.refl _ _).alloc (Nat.le_refl _) _⟩
             intro X5 hT
             rintro _ rfl _ rfl _ rfl _ rfl _ rfl _ rfl _ rfl _ rfl _ rfl _ rfl _ rfl _ rfl _ rfl _ rfl _ rfl _ rfl _ rfl _ rfl _ rfl _ rfl _ rfl _ rfl _ rfl _ rfl _ rfl _ rfl _ rfl _ rfl _ rfl _ rfl v31 h31
             have h31' : (own 22 1 v31 8 [w64 nx, w64 sa, w64 sb, w64 sc, w64 ny, w64 se, w64 sf, w64 sg] * F4).on X5 := h31
             obtain ⟨g9, c9, rfl, _, _⟩ := own_block h31' (by decide)
             have H9 := hide h31'
             have HSr5 := hide (HSr4.out.trans (Str.below hT))
             clear hT h31 h31' HQ4 HWr4 HSr4
             clear hp1 hp2 hp3 hp4 hq1 ht1 ht2 HX1 HX2
             go_wp2
             refine Rest.done ?_
             go_wp2_with fail
             exact ⟨⟨j + 1, by omega, by simp, by rw [HNx.out]; exact H9.out, HSr5.out⟩, by simp [intOf]; omega⟩
            ·obtain rfl : j = 80 := by omega
             obtain ⟨G2, hG2⟩ : ∃ G2, G2 = (own 22 1 (.slice (some ⟨gw, 0, .none⟩) 80 wc) 80 ((sched m 80).map w64) * (ownN (.slice (some ⟨gk, 0, .none⟩) KW.length kc) KW * F1)) := ⟨_, rfl⟩
             have HC2 := hide (show stK PD (k + 1) = addS (stK PD k) (runR (stK PD k) (sched m 80) 80) from HC.out)
             have hwm : (own 22 1 (.slice ha 8 hc2) 8 ((mixL (stK PD k) (runR (stK PD k) (sched m 80) 80) 0).map w64) * (own 22 1 (.slice (some ⟨gs, 0, .none⟩) 8 cs) 8 (stN (runR (stK PD k) (sched m 80) 80)) * G2)).on wr := by
              rw [HSK.out, ← hG2] at hw
              rw [show (mixL (stK PD k) (runR (stK PD k) (sched m 80) 80) 0).map w64 = stN (stK PD k) from rfl]
              refine (SP.le_of_eq ?_).on hw
              ac_rfl
             clear hw HC h9
             have HG2 := hide hG2
             clear hG2
             generalize runR (stK PD k) (sched m 80) 80 = T at *
             generalize stK PD k = S at *
             obtain ⟨gh, hc3, eh, _, _⟩ := own_block hwm (by decide)
             simp only [Value.slice.injEq] at eh
             obtain ⟨rfl, _, rfl⟩ := eh
             have Hwm := hide hwm
             have HS9 := hide hstr
             clear hwm hstr
             go_wp2_with fail
             go_loopw [23] (fun i wr => ∃ j : Nat, j ≤ 8 ∧ i = .int .i64 j ∧ (own 22 1 (.slice (some ⟨gh, 0, .none⟩) 8 hc2) 8 ((mixL S T j).map w64) * (own 22 1 (.slice (some ⟨gs, 0, .none⟩) 8 cs) 8 (stN T) * G2)).on wr ∧ Str w wr) (fun i _ => 8 - (intOf i).toNat)
             case atStart => exact ⟨0, Nat.zero_le _, rfl, Hwm.out, HS9.out⟩
             case round =>
              rename Exit → Act → World → Prop => Qr8
              obtain ⟨j, hj, rfl, hw, hstr⟩ := hrel
              clear Hwm HS9
              by_cases hjt : j < 8
              ·try clear_value Q0; try clear_value Qr1; try clear_value Qr2; try clear_value Qr3; try clear_value Qr4; try clear_value Qr5; try clear_value Qr7
               as_aux_lemma =>
               obtain ⟨x, y, hy, hx, hxy⟩ := mixL_next S T j hjt
               have hj8 : (j : Int) < 8 := by omega
               have HXY := hide hxy
               have HQ0 : Hid (∀ Y, Stay wr Y → Y.heap[w.heap.size]? = some (.cells fc 122 (0, 0)) ∧ Y.cell? ⟨gh, j, .none⟩ = some (w64 x) ∧ Y.cell? ⟨gs, j, .none⟩ = some (w64 y)) := hide fun Y hY => by
                have h8 := SP.on.below hw hY
                have h7 := h8.right.right
                rw [HG2.out] at h7
                refine ⟨HFc.out Y h7.right.right, own_cell h8 j _ ?_, own_cell h8.right j _ ?_⟩
                ·rw [List.getElem?_map, hx]; rfl
                ·rw [stN_list, List.map_map, List.getElem?_map, hy]; rfl
               have HWr0 := hide hw
               have HSr0 := hide hstr
               have ht := wrap_m64 x.toNat y.toNat
               have Htl := hide (m64_lt (x.toNat + y.toNat))
               have HZ : Hid (m64 (x.toNat + y.toNat) % 18446744073709551616 = (x + y).toNat) := hide (by rw [UInt64.toNat_add]; unfold m64; omega)
               generalize m64 (x.toNat + y.toNat) = t1 at *
               generalize x + y = z at *
               clear hw hstr hx hy hxy
               go_wp2_with fail
               refine wp_tail 13 [isV (.slice (some ⟨gh, 0, .none⟩) 8 hc2), isV (.int .i64 (j : Int)), isV (.agg fc), isV (.slice (some ⟨gh, 0, .none⟩) 8 hc2), isV (.int .i64 (j : Int)), isV (.pointer (some ⟨gh, j, .none⟩)), isV (w64 x), isV (.slice (some ⟨gs, 0, .none⟩) 8 cs), isV (.int .i64 (j : Int)), isV (.pointer (some ⟨gs, j, .none⟩)), isV (w64 y), isV (.int .u64 (t1 : Int)), isV (w64 z)] ?keep ?todo ?r83
               case keep => repeat (first | exact trivial | refine ⟨Keep.isV _, ?_⟩)
               case todo =>
                refine ⟨?_, ?_, ?_, ?_, ?_, ?_, ?_, ?_, ?_, ?_, ?_, ?_, ?_, trivial⟩
                ·exact fun _ _ _ _ hk hf => OpOk.m rfl hk.1
                ·exact fun _ _ _ _ hk hf => OpOk.m rfl hk.1
                ·intro ev X hT hb hk hf
                 have e0 : ev (.tmp 2) = .pointer (some ⟨w.heap.size, 0, .none⟩) := hk.1
                 exact OpOk.load_part _ _ rfl w.heap.size 0 e0 fc _ (part_of (HQ0.out X hT).1) hu31 rfl hs31 ⟨rfl, Stay.refl _⟩
                ·exact fun _ _ _ _ hk hf => OpOk.m rfl hk.1
                ·exact fun _ _ _ _ hk hf => OpOk.m rfl hk.1
                ·intro ev X hT hb hk hf
                 have e0 : ev (.tmp 282) = _ := hf.1
                 have e1 : ev (.tmp 283) = _ := hf.2.1
                 exact OpOk.r (by simp [execOp, e0, e1, hb.1, hj8, go_sem])
                ·intro ev X hT hb hk hf
                 have e0 : ev (.tmp 284) = _ := hf.1
                 have cW := (HQ0.out X hT).2.1
                 exact OpOk.r (by simp [execOp, e0, cW, go_sem])
                ·exact fun _ _ _ _ hk hf => OpOk.m rfl hk.1
                ·exact fun _ _ _ _ hk hf => OpOk.m rfl hk.1
                ·intro ev X hT hb hk hf
                 have e0 : ev (.tmp 286) = _ := hf.1
                 have e1 : ev (.tmp 287) = _ := hf.2.1
                 exact OpOk.r (by simp [execOp, e0, e1, hb.1, hj8, go_sem])
                ·intro ev X hT hb hk hf
                 have e0 : ev (.tmp 288) = _ := hf.1
                 have cW := (HQ0.out X hT).2.2
                 exact OpOk.r (by simp [execOp, e0, cW, go_sem])
                ·intro ev X hT hb hk hf
                 have e0 : ev (.tmp 285) = _ := hf.1
                 have e1 : ev (.tmp 289) = _ := hf.2.1
                 exact OpOk.r (by simp [execOp, e0, e1, hb.1, ht, -UInt64.toNat_add, -UInt64.toNat_xor, -UInt64.toNat_and, -UInt64.toNat_or, -UInt64.toNat_not, -UInt64.toNat_shiftRight, -UInt64.toNat_shiftLeft, go_sem])
                ·intro ev X hT hb hk hf
                 have e0 : ev (.tmp 281) = _ := hf.1
                 have e1 : ev (.tmp 290) = _ := hf.2.1
                 refine OpOk.enters (f := 100) (args := #[.agg fc, .int .u64 (t1 : Int)]) (W' := X) (by simp [execOp, resolve, invoke, e0, e1, hb.1, hb.2.1, go_sem]) ((cut_any t1 Htl.out X).mono ?_)
                 rintro e X2 ⟨rfl, h2⟩
                 exact ⟨_, rfl, by rw [HZ.out]; exact rfl, h2⟩
               intro X hT
               rintro _ rfl _ rfl _ rfl _ rfl _ rfl _ rfl _ rfl _ rfl _ rfl _ rfl _ rfl _ rfl _ rfl
               have hw2 := SP.on.below HWr0.out hT
               have cx := (HQ0.out X hT).2.1
               have fr := own_free hw2 j
               have h9 := own_store hw2 hjt (w64 z)
               rw [← List.map_set, HXY.out] at h9
               have H9 := hide h9
               have HSr1 := hide (HSr0.out.trans (Str.below hT))
               clear hT hw2 h9 HQ0 HWr0 HSr0 HXY HZ Htl ht
               go_wp2
               refine Rest.done ?_
               go_wp2_with fail
               refine ⟨by (repeat apply Exists.intro); refine ⟨⟨j + 1, by omega, ?_, H9.out, HSr1.out.setCell _ _⟩, rfl⟩; simp, ?_⟩
               simp [intOf]; omega
              ·try clear_value Q0; try clear_value Qr1; try clear_value Qr2; try clear_value Qr3; try clear_value Qr4; try clear_value Qr5; try clear_value Qr7
               as_aux_lemma =>
               obtain rfl : j = 8 := by omega
               have e8 : mixL S T 8 = (addS S T).list := by simp [mixL, St.list]
               rw [e8, ← HC2.out, HG2.out] at hw
               have hfin : (ownN (.slice (some ⟨gh, 0, .none⟩) 8 hc2) ((stK PD (k + 1)).list.map (·.toNat)) * (ownN (.slice (some ⟨gk, 0, .none⟩) KW.length kc) KW * F1)).on wr := by
                have h9 := (SP.le_of_eq (show _ = ((own 22 1 (.slice (some ⟨gs, 0, .none⟩) 8 cs) 8 (stN T) * own 22 1 (.slice (some ⟨gw, 0, .none⟩) 80 wc) 80 ((sched m 80).map w64)) * (own 22 1 (.slice (some ⟨gh, 0, .none⟩) 8 hc2) 8 ((stK PD (k + 1)).list.map w64) * (ownN (.slice (some ⟨gk, 0, .none⟩) KW.length kc) KW * F1))) by ac_rfl)).on hw
                exact h9.right
               have HFin := hide hfin
               have HS10 := hide hstr
               have Hk1 : Hid (128 * (k + 1) ≤ PD.length) := hide (by have := Hm2.out; omega)
               clear hw hstr hfin e8
               go_wp2_with fail
               exact ⟨⟨k + 1, Hk1.out, by refine congrArg (Value.int _) ?_; omega, HFin.out, HS10.out⟩, by have := Hk1.out; simp [intOf]; omega⟩
        ·have hke : k = PD.length / 128 := by have := HmB.out; omega
         have HDg := hide (show digest b = outS (stK PD k) by unfold digest; rw [HP0.out, hke])
         have hw2 : (own 22 1 (.slice ha 8 hc2) 8 (stN (stK PD k)) * (ownN (.slice ka KW.length kc) KW * F1)).on wr := hw
         clear hke hw H4 HS4
         generalize stK PD k = S at *
         obtain ⟨gh, hc3, eh, _, _⟩ := own_block hw2 (by decide)
         simp only [Value.slice.injEq] at eh
         obtain ⟨rfl, _, rfl⟩ := eh
         obtain ⟨F5, hF5⟩ : ∃ F5, F5 = (own 22 1 (.slice (some ⟨gh, 0, .none⟩) 8 hc2) 8 (stN S) * (ownN (.slice ka KW.length kc) KW * F1)) := ⟨_, rfl⟩
         rw [← hF5] at hw2
         have HC5 : Hid (∀ X, F5.on X → ∀ t x, (stN S)[t]? = some x → X.cell? ⟨gh, t, .none⟩ = some x) := hide fun X hX t x ht => by
          rw [hF5] at hX
          exact own_cell hX t x ht
         have Hw0 : Hid ((own 5 1 (.slice Option.none 0 0) (8 * 0) (vbs (outN S 0)) * F5).on wr) := hide (own_nil 5 1 hw2)
         have HS5 := hide hstr
         have HF5 := hide hF5
         clear hF5 hw2 hstr
         go_wp2_with fail
         go_loopw [24, 25] (fun ov i wr => ∃ i' : Nat, i' ≤ 8 ∧ i = .int .i64 i' ∧ (own 5 1 ov (8 * i') (vbs (outN S i')) * F5).on wr ∧ Str w wr) (fun _ i _ => 8 - (intOf i).toNat)
         case atStart => exact ⟨0, Nat.zero_le _, rfl, Hw0.out, HS5.out⟩
         case round =>
          rename Exit → Act → World → Prop => Qr9
          obtain ⟨i', hi, rfl, hw, hstr⟩ := hrel
          clear Hw0 HS5
          obtain ⟨oa, oc, rfl, _, _, _, _⟩ := own_value hw
          by_cases hlt2 : i' < 8
          ·try clear_value Q0; try clear_value Qr1; try clear_value Qr2; try clear_value Qr3; try clear_value Qr4
           as_aux_lemma =>
           have hx : S.list[i']? = some (S.list.getD i' 0) := by rw [List.getD_eq_getElem?_getD, List.getElem?_eq_getElem (by rw [list_len]; exact hlt2)]; rfl
           have HNx := hide (outN_step S i' _ hx)
           have HX : Hid (∀ X, F5.on X → X.cell? ⟨gh, i', .none⟩ = some (w64 (S.list.getD i' 0))) := hide fun X hX => HC5.out X hX i' _ (by rw [stN_list, List.map_map, List.getElem?_map, hx]; rfl)
           have hl8 : (i' : Int) < 8 := by omega
           have HOl := hide (outN_len S i' (by omega))
           have Hw1 : Hid ((own 5 1 (.slice oa (8 * i') oc) (8 * i' + 0) (vbs (outN S i' ++ outW (S.list.getD i' 0) 0)) * F5).on wr) := hide (by unfold outW; rw [List.append_nil]; exact hw)
           have HS6 := hide hstr
           clear hw hstr hx
           generalize S.list.getD i' 0 = x at *
           go_wp2_with fail
           go_loopw [24, 26] (fun ov n wr => ∃ q : Nat, q ≤ 8 ∧ n = .int .i64 ((8 - 1 : Int) - (q : Int)) ∧ (own 5 1 ov (8 * i' + q) (vbs (outN S i' ++ outW x q)) * F5).on wr ∧ Str w wr) (fun _ n _ => (intOf n + 1).toNat)
           case atStart => exact ⟨0, Nat.zero_le _, rfl, Hw1.out, HS6.out⟩
           case round =>
            rename Exit → Act → World → Prop => Qr10
            obtain ⟨q, hq, rfl, hw, hstr⟩ := hrel
            clear Hw1 HS6
            obtain ⟨oa2, oc2, rfl, _, _, _, _⟩ := own_value hw
            by_cases hqt : q < 8
            ·have hYl : (outN S i' ++ outW x q).length = 8 * i' + q := by rw [List.length_append, HOl.out, outW_len]
             have HK := hide (show outN S i' ++ outW x (q + 1) = (outN S i' ++ outW x q) ++ [byteK x.toNat (56 - 8 * q)] by rw [List.append_assoc]; rfl)
             have HYl := hide hYl
             have cx := HX.out _ hw.right
             have hshr := shr_out x.toNat q hqt
             have hq0 : 0 ≤ (8 - 1 : Int) - (q : Int) := by omega
             have hsh0 : 0 ≤ 8 * ((8 - 1 : Int) - (q : Int)) := by omega
             have HW2 := hide hw
             have HS7 := hide hstr
             clear hw hstr hYl
             generalize outN S i' ++ outW x q = Y at *
             go_wp2_with (at_builtin; refine wpList_append_bytes (F := F5) rfl _ _ 56 rfl 5 hu info8 _ Y [byteK x.toNat (56 - 8 * q)] rfl (by rw [HYl.out]; exact HW2.out.alloc' _) _ rfl (isb1r _ _ (by simp) _ _ (by refine congrArg (Value.int _) ?_; unfold byteK; simp [IntKind.wrap_u8]; try rw [show 8 * (8 - 1 - q) = 56 - 8 * q by omega]) _) (by rw [HYl.out]; simp; omega) ?_; intro v3 w3 ho hs; rw [List.length_append, HYl.out, ← HK.out] at ho; have H3 := hide ho; have HS8 := hide ((HS7.out.alloc _).trans hs); obtain ⟨oa4, oc4, rfl, _, _, _, _⟩ := own_value ho; clear ho hs)
             exact ⟨⟨q + 1, by omega, by refine congrArg (Value.int _) ?_; omega, H3.out, HS8.out⟩, by simp [intOf]; omega⟩
            ·obtain rfl : q = 8 := by omega
             have hw9 : (own 5 1 (.slice oa2 (8 * i' + 8) oc2) (8 * (i' + 1)) (vbs (outN S (i' + 1))) * F5).on wr := by
              rw [HNx.out]
              exact hw
             have HW9 := hide hw9
             have HS7 := hide hstr
             clear hw hstr hw9
             go_wp2_with fail
             exact ⟨⟨i' + 1, by omega, by simp, HW9.out, HS7.out⟩, by simp [intOf]; omega⟩
          ·obtain rfl : i' = 8 := by omega
           have hfin : (own 5 1 (.slice oa (8 * 8) oc) (digest b).length (vbs (digest b)) * all w).on wr := by
            rw [outN_all, ← HDg.out, HF5.out, ← HF1.out] at hw
            rw [digest_len]
            have h9 := (SP.le_of_eq (show _ = ((own 22 1 (.slice (some ⟨gh, 0, .none⟩) 8 hc2) 8 (stN S) * (ownN (.slice ka KW.length kc) KW * (own 5 1 (.slice aa3 (N0 + 16) ac3) (N0 + 16) (vbs PD) * blk w.heap.size (.cells fc 122 (0, 0))))) * (own 5 1 (.slice oa (8 * 8) oc) (8 * 8) (vbs (digest b)) * all w)) by ac_rfl)).on hw
            exact h9.right
           have HFin := hide hfin
           have HS7 := hide hstr
           clear hw hstr hfin
           go_wp2_with fail
           go_ret
           exact ⟨_, rfl, HFin.out, HS7.out⟩
  ·try clear_value Q0
   as_aux_lemma =>
   have hne : (((b.length + 1 + z : Nat) : Int) % 128 != 112) = true := by simp; omega
   have hzz : z + 1 ≤ padZ b.length := by
    rcases Nat.lt_or_ge z (padZ b.length) with h | h
    ·omega
    ·have : z = padZ b.length := by omega
     rw [this] at hP
     exact absurd hzP hP
   have HW := hide hw
   have HSt := hide hstr
   have HPP := hide hP
   clear hw hstr hll hP hzP H2 HS2
   go_wp2_with (at_builtin; refine wpList_append_bytes (F := blk w.heap.size (.cells fc 122 (0, 0)) * all w) rfl _ _ 56 rfl 5 hu info8 _ (b ++ [128] ++ List.replicate z 0) [0] rfl (by rw [Hll.out]; exact HW.out.alloc' _) _ rfl (by have h9 := IsBytes.new wr [0] (by decide) 5; exact h9) (by rw [Hll.out]; simp; omega) ?_; intro v3 w3 ho hs; simp only [List.length_append, List.length_replicate, List.length_cons, List.length_nil, Nat.zero_add] at ho; have H3 := hide ho; have HS3 := hide ((HSt.out.alloc _).trans hs); obtain ⟨aa3, ac3, rfl, _, _, _, _⟩ := own_value ho; clear ho hs)
   have HPP2 := HPP.out
   exact ⟨⟨z + 1, hzz, by rw [List.replicate_succ', ← List.append_assoc]; exact H3.out, HS3.out⟩, by simp only [sliceLenH]; omega⟩
end Sha64
end Go.Proofs.YtbplbdnofobbiaaDoor
