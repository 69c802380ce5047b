/- A part. -/
import Derived.WalkKit
import Derived.Test.YtjdebgbiockafaaGreatDoorGBase
import Derived.ChangeKeysEq
import Derived.Laws.Slices
set_option linter.unusedVariables false
set_option linter.unusedSimpArgs false
set_option maxRecDepth 100000
set_option maxHeartbeats 8000000
namespace Go.Proofs.YtjdebgbiockafaaGreatDoor
def b4 (n k : Nat) : UInt8 := UInt8.ofNat (n / 2 ^ (8 * k) % 256)
theorem b4_toNat (n k : Nat) : (b4 n k).toNat = n / 2 ^ (8 * k) % 256 := by
 unfold b4
 generalize n / 2 ^ (8 * k) = m
 simp
def wordB (n : Nat) : List UInt8 := [b4 n 0, b4 n 1, b4 n 2, b4 n 3]
theorem wordB_len (n : Nat) : (wordB n).length = 4 := rfl
def numS (l : List UInt8) (at' : Nat) : Nat → Nat
 | 0 => 0
 | k + 1 => numS l at' k + (l.getD (at' + k) 0).toNat * 2 ^ (8 * k)
theorem numS_lt (l : List UInt8) (at' : Nat) : ∀ k, numS l at' k < 2 ^ (8 * k) := by
 intro k
 induction k with
 | zero => simp [numS]
 | succ k ih =>
  have hc := UInt8.toNat_lt (l.getD (at' + k) 0)
  simp only [numS]
  rw [show 8 * (k + 1) = 8 * k + 8 by omega, Nat.pow_add]
  have : (l.getD (at' + k) 0).toNat * 2 ^ (8 * k) ≤ 255 * 2 ^ (8 * k) := Nat.mul_le_mul_right _ (by omega)
  omega
theorem numS_word (A B : List UInt8) (n : Nat) (h : n < 4294967296) (i : Nat) (hi : i = A.length) : numS (A ++ (wordB n ++ B)) i 4 = n := by
 subst hi
 have g : ∀ j (hj : j < 4), (A ++ (wordB n ++ B)).getD (A.length + j) 0 = b4 n j := by
  intro j hj
  rw [List.getD_eq_getElem?_getD, List.getElem?_append_right (by omega), Nat.add_sub_cancel_left, List.getElem?_append_left (by rw [wordB_len]; omega)]
  match j, hj with
  | 0, _ => rfl
  | 1, _ => rfl
  | 2, _ => rfl
  | 3, _ => rfl
 simp only [numS]
 rw [show A.length + 0 = A.length + 0 from rfl, g 0 (by omega), g 1 (by omega), g 2 (by omega), g 3 (by omega), b4_toNat, b4_toNat, b4_toNat, b4_toNat]
 simp only [Nat.mul_zero, Nat.pow_zero, Nat.div_one, Nat.mul_one, Nat.zero_add]
 omega
end Go.Proofs.YtjdebgbiockafaaGreatDoor
namespace Go.Proofs.YtjdebgbiockafaaGreatDoor
open Go.ChangeShapes Go.WideShapes Go.ChangeAt Go.RowKit
abbrev n32v (n : Nat) : Value := .int .u32 (n : Int)
theorem wordB_snoc12 (n k : Nat) (h : k < 4) : (wordB n).take (k + 1) = (wordB n).take k ++ [b4 n k] := by
 match k, h with
 | 0, _ => rfl
 | 1, _ => rfl
 | 2, _ => rfl
 | 3, _ => rfl
theorem rword12_any (n : Nat) (hn : n < 4294967296) (w : World) :
  Calls Tryz.prog 25 #[n32v n] w (Makes w fun v => ownT v (wordB n)) := by
 have hu := Tryz.underlying35
 have H0 := hide (own_nil 5 1 (on_all w))
 go_enter Tryz.func25, Tryz.ntmps25
 go_wp2_with fail
 go_loopw [0, 3, 4] (fun nv v i wr => ∃ k : Nat, k ≤ 4 ∧ i = .int .i64 k ∧ nv = n32v (n / 2 ^ (8 * k)) ∧ (ownT v ((wordB n).take k) * all w).on wr ∧ Str w wr) (fun _ _ i _ => 4 - (intOf i).toNat)
 case atStart => exact ⟨0, by omega, rfl, by simp, H0.out, Str.refl _⟩
 obtain ⟨k, hk, rfl, rfl, how, hstr⟩ := hrel
 by_cases hlt : k < 4
 ·have HS := hide (wordB_snoc12 n k hlt)
  have hl : ((wordB n).take k).length ≤ 4 := by rw [List.length_take]; omega
  have hml : n / 2 ^ (8 * k) ≤ n := Nat.div_le_self _ _
  have Hm := hide (show n / 2 ^ (8 * (k + 1)) = n / 2 ^ (8 * k) / 256 by rw [Nat.div_div_eq_div_mul, show 8 * (k + 1) = 8 * k + 8 by omega, Nat.pow_add])
  have hb := b4_toNat n k
  have hv : (vbs [b4 n k]).toArray = #[.int .u8 ((n / 2 ^ (8 * k) % 256 : Nat) : Int)] := by simp [vbs, vb, hb]
  have Hv := hide hv
  clear hb hv
  generalize (wordB n).take k = acc at *
  generalize n / 2 ^ (8 * k) = m at *
  obtain ⟨oa, oc, rfl, _, _, _, _⟩ := own_value how
  have How := hide how
  have Hstr := hide hstr
  clear how hstr
  have hm2 : m % 256 < 256 := by omega
  have hm4 : m / 256 ≤ m := Nat.div_le_self _ _
  go_wp2_with (at_builtin; refine wpList_append_bytes (F := all w) rfl _ _ 35 rfl 5 hu infoT _ acc [b4 n k] rfl (How.out.alloc' _) _ rfl (by have := IsBytes.new wr [b4 n k] (by simp [maxLen]) 5; rw [Hv.out] at this; exact this) (by simp; omega) ?_; intro v2 w2 ho2 hs2; obtain ⟨oa2, oc2, rfl, _, _, _, _⟩ := own_value ho2; have Ho2 := hide ho2; have Hs2 := hide hs2; clear ho2 hs2)
  refine ⟨⟨k + 1, by omega, by simp, ?_, ?_, (Hstr.out.alloc _).trans Hs2.out⟩, by simp [intOf]; omega⟩
  ·rw [Hm.out]; rfl
  rw [HS.out]
  have h2 := Ho2.out
  have e : (acc ++ [b4 n k]).length = acc.length + 1 := by simp
  unfold ownT
  rw [e] at h2 ⊢
  exact h2
 obtain rfl : k = 4 := by omega
 have How := hide how
 have Hstr := hide hstr
 clear how hstr
 go_wp2
 go_ret
 exact ⟨_, rfl, How.out, Hstr.out⟩
theorem numS_step12 (l : List UInt8) (n : Nat) (k : Nat) (hk : k < 4) : numS (l.drop k) 0 (4 - k) = (numS (l.drop (k + 1)) 0 (4 - (k + 1))) * 256 + (l.getD k 0).toNat := by
 match k, hk with
 | 0, _ => simp [numS]; omega
 | 1, _ => simp [numS]; omega
 | 2, _ => simp [numS]; omega
 | 3, _ => simp [numS]
theorem rnumber12_any (v : Value) (l : List UInt8) (w : World) (h : IsBytes w v l) (hl : l.length = 4) :
  Calls Tryz.prog 55 #[v] w fun e w' => e = .returned (n32v (numS l 0 4)) ∧ w = w' := by
 obtain ⟨a, c, rfl, hc, hm, hla, _⟩ := h
 unfold maxLen at hm
 have Hl := hide hla
 clear hla
 go_enter Tryz.func55, Tryz.ntmps55
 go_wp2_with fail
 go_loop [3, 4] (fun q i => ∃ k : Nat, k ≤ 4 ∧ i = .int .i64 ((k : Int) - 1) ∧ q = n32v (numS (l.drop k) 0 (4 - k))) (fun _ i => (intOf i + 1).toNat)
 case atStart => exact ⟨4, by omega, by simp, rfl⟩
 obtain ⟨k, hk, rfl, rfl⟩ := hrel
 by_cases hlt : 0 < k
 ·obtain ⟨k, rfl⟩ : ∃ j, k = j + 1 := ⟨k - 1, by omega⟩
  have HS := hide (numS_step12 l 0 k (by omega))
  have hb := numS_lt (l.drop (k + 1)) 0 (4 - (k + 1))
  obtain ⟨b, off, rfl⟩ := Lay.isAddr Hl.out k (by simp; omega)
  have cb := Lay.cell Hl.out k (vbs_get l k (by omega))
  have hg : l[k]'(by omega) = l.getD k 0 := by rw [List.getD_eq_getElem?_getD, List.getElem?_eq_getElem (by omega)]; rfl
  rw [hg] at cb
  clear hg
  have hx := UInt8.toNat_lt (l.getD k 0)
  have hb2 : numS (l.drop (k + 1)) 0 (4 - (k + 1)) < 16777216 := by
   refine Nat.lt_of_lt_of_le hb ?_
   match k, hk with
   | 0, _ => decide
   | 1, _ => decide
   | 2, _ => decide
   | 3, _ => decide
  clear hb
  generalize l.getD k 0 = x at *
  generalize numS (l.drop (k + 1)) 0 (4 - (k + 1)) = q at *
  have e1 : (((k + 1 : Nat) : Int) - 1) = (k : Int) := by omega
  rw [e1]
  have d1 : (0 : Int) ≤ (k : Int) := by omega
  go_wp2
  go_round
  case rel => exact ⟨k, by omega, by go_num, by rw [HS.out]; simp⟩
  case measure => simp [intOf]
 obtain rfl : k = 0 := by omega
 go_wp2
 go_ret
 exact ⟨rfl, rfl⟩
theorem IsBytes.mid12 {w : World} {g off n cap : Nat} {l : List UInt8} (h : IsBytes w (.slice (some ⟨g, off, .none⟩) n cap) l) (a k : Nat) (hk : a + k ≤ l.length) : IsBytes w (.slice (some ⟨g, off + a, .none⟩) k (cap - a)) ((l.drop a).take k) := by
 obtain ⟨ad, c, e, h1, h2, h3, _⟩ := h
 simp only [Value.slice.injEq] at e
 obtain ⟨rfl, rfl, rfl⟩ := e
 refine ⟨_, _, by rw [List.length_take, List.length_drop, Nat.min_eq_left (by omega)], by simp; omega, by omega, ?_, by simp⟩
 have := (h3.drop a).take k
 rwa [← List.map_drop, ← List.map_take] at this
theorem numS_sub12 (l : List UInt8) (a : Nat) (h : a + 4 ≤ l.length) : numS ((l.drop a).take 4) 0 4 = numS l a 4 := by
 have g : ∀ j, j < 4 → ((l.drop a).take 4).getD j 0 = l.getD (a + j) 0 := by
  intro j hj
  rw [List.getD_eq_getElem?_getD, List.getD_eq_getElem?_getD, List.getElem?_take, if_pos hj, List.getElem?_drop]
 simp only [numS, Nat.zero_add]
 rw [g 0 (by omega), g 1 (by omega), g 2 (by omega), g 3 (by omega)]
end Go.Proofs.YtjdebgbiockafaaGreatDoor
namespace Go.Proofs.YtjdebgbiockafaaGreatDoor
open Go.RowKit
variable {P : Program}
theorem run_part_int (w : World) (e : TypeId) (k : IntKind) (he : P.underlying e = some (.int k)) (cs : Array Value) (i : Nat) (v : Value) (h : cs[i]? = some v) : (part e cs i).run P w = .ok v w := by
 have hagg : (isAgg e).run P w = .ok false w := by
  unfold isAgg
  rw [Sem.run_bind, run_underlying he w]
  simp
 simp [part, hagg, h]
theorem run_eq_int (w : World) (d : Nat) (e : TypeId) (k : IntKind) (he : P.underlying e = some (.int k)) (a b : Int) : (Op.equalIn (d + 1) e (.int k a) (.int k b)).run P w = .ok (a == b) w := by
 simp [Op.equalIn, run_underlying he]
theorem run_eq_items (w : World) (d : Nat) (e : TypeId) (k : IntKind) (he : P.underlying e = some (.int k)) (xa bs : List Int) : ∀ (is : List Nat), (∀ i ∈ is, i < xa.length ∧ i < bs.length) →
  (Op.eqItems (d + 1) e 1 (xa.map (Value.int k)).toArray (bs.map (Value.int k)).toArray is).run P w = .ok (decide (∀ i ∈ is, xa[i]? = bs[i]?)) w
 | [], _ => by simp [Op.eqItems]
 | i :: is, h => by
  obtain ⟨h1, h2⟩ := h i (by simp)
  have p1 := run_part_int (P := P) w e k he (xa.map (Value.int k)).toArray i (.int k xa[i]) (by simp [h1])
  have p2 := run_part_int (P := P) w e k he (bs.map (Value.int k)).toArray i (.int k bs[i]) (by simp [h2])
  have ih := run_eq_items w d e k he xa bs is (fun j hj => h j (by simp [hj]))
  simp only [Op.eqItems, Nat.mul_one, Sem.run_bind, p1, p2, Result.andThen_ok, run_eq_int w d e k he]
  by_cases hab : xa[i] = bs[i]
  ·have e1 : (xa[i] == bs[i]) = true := by rw [hab]; simp
   rw [e1]
   simp only [Bool.not_true, Bool.false_eq_true, if_false, ih]
   have : xa[i]? = bs[i]? := by rw [List.getElem?_eq_getElem h1, List.getElem?_eq_getElem h2, hab]
   simp [this]
  have e1 : (xa[i] == bs[i]) = false := by simpa using hab
  rw [e1]
  have : ¬xa[i]? = bs[i]? := by rw [List.getElem?_eq_getElem h1, List.getElem?_eq_getElem h2]; simpa using hab
  simp [this]
theorem run_eq_ints (w : World) (d : Nat) (t e : TypeId) (n : Nat) (k : IntKind) (ht : P.underlying t = some (.array n e)) (he : P.underlying e = some (.int k)) (hi : (P.info? e).map (·.size) = some 1) (xa bs : List Int) (ha : xa.length = n) (hb : bs.length = n) :
  (Op.equalIn (d + 2) t (.agg (xa.map (Value.int k)).toArray) (.agg (bs.map (Value.int k)).toArray)).run P w = .ok (decide (xa = bs)) w := by
 cases hq : P.info? e with
 | none => simp [hq] at hi
 | some inf =>
  have hc : P.cellsOf e = 1 := by simp [Program.cellsOf, hq] at hi ⊢; exact hi
  rw [run_equalIn_array w (d + 1) _ _ ht hq, hc, run_eq_items w d e k he xa bs _ (fun i hi => by have := List.mem_range.1 hi; omega)]
  congr 1
  apply decide_eq_decide.2
  constructor
  ·intro h
   apply List.ext_getElem?
   intro i
   rcases Nat.lt_or_ge i n with hin | hin
   ·exact h i (List.mem_range.2 hin)
   rw [List.getElem?_eq_none (by omega), List.getElem?_eq_none (by omega)]
  intro h i _
  rw [h]
theorem run_eq_bytes (w : World) (d : Nat) (t e : TypeId) (n : Nat) (ht : P.underlying t = some (.array n e)) (he : P.underlying e = some (.int .u8)) (hi : (P.info? e).map (·.size) = some 1) (a b : List UInt8) (ha : a.length = n) (hb : b.length = n) :
  (Op.equalIn (d + 2) t (.agg (vbs a).toArray) (.agg (vbs b).toArray)).run P w = .ok (decide (a = b)) w := by
 have hv : ∀ l : List UInt8, vbs l = (l.map fun x => ((x.toNat : Nat) : Int)).map (Value.int .u8) := fun l => by simp [vbs, vb]
 rw [hv a, hv b, run_eq_ints w d t e n .u8 ht he hi _ _ (by simpa using ha) (by simpa using hb)]
 congr 1
 apply decide_eq_decide.2
 constructor
 ·intro h
  exact List.map_inj_right (fun x y h => UInt8.toNat_inj.1 (by have h' : ((x.toNat : Nat) : Int) = ((y.toNat : Nat) : Int) := h; omega)) |>.1 h
 intro h; rw [h]
abbrev v64 (x : UInt64) : Value := .int .u64 ((x.toNat : Nat) : Int)
theorem add64 (x y : UInt64) : IntKind.u64.wrap ((x.toNat : Int) + (y.toNat : Int)) = ((x + y).toNat : Int) := by
 rw [IntKind.wrap_u64, UInt64.toNat_add]; omega
theorem xor64 (x y : UInt64) : bits .xor .u64 (x.toNat : Int) (y.toNat : Int) = ((x ^^^ y).toNat : Int) := by
 rw [u64_xor_nat _ _ (UInt64.toNat_lt x) (UInt64.toNat_lt y), UInt64.toNat_xor]
theorem and64 (x y : UInt64) : bits .and .u64 (x.toNat : Int) (y.toNat : Int) = ((x &&& y).toNat : Int) := by
 rw [u64_and_nat _ _ (UInt64.toNat_lt x) (UInt64.toNat_lt y), UInt64.toNat_and]
theorem or64 (x y : UInt64) : bits .or .u64 (x.toNat : Int) (y.toNat : Int) = ((x ||| y).toNat : Int) := by
 rw [u64_or_nat _ _ (UInt64.toNat_lt x) (UInt64.toNat_lt y), UInt64.toNat_or]
theorem not64 (x : UInt64) : bits .xor .u64 IntKind.u64.max (x.toNat : Int) = ((~~~x).toNat : Int) := by
 rw [not_u64 _ (UInt64.toNat_lt x), UInt64.toNat_not]; rfl
theorem all_block {w X : World} (h : (all w).on X) {k : Nat} {o : Obj} (hk : w.heap[k]? = some o) : X.heap[k]? = some o := by
 obtain ⟨x, hs, p⟩ := h
 exact hs k o ((p k (Array.getElem?_eq_some_iff.1 hk).1).trans hk)
theorem all_cell {w X : World} (h : (all w).on X) {b i : Nat} {v : Value} (hc : w.cell? ⟨b, i, .none⟩ = some v) : X.cell? ⟨b, i, .none⟩ = some v := by
 have hlt : b < w.heap.size := World.block_lt_of_cell? w _ hc
 have h1 : w.heap[b]? = some w.heap[b] := by simp [hlt]
 have h2 := all_block h h1
 unfold World.cell? at hc ⊢
 simp only at hc ⊢
 rw [h2]
 rw [h1] at hc
 exact hc
theorem Lay.all {w X : World} {a : Option Addr} {l : List Value} (h : Lay w a l) (ha : (Go.Proofs.YtjdebgbiockafaaGreatDoor.all w).on X) : Lay X a l := fun i v e => by
 obtain ⟨b, off, h1, hc⟩ := h i v e
 exact ⟨b, off, h1, all_cell ha hc⟩
theorem IsBytes.all {w X : World} {v : Value} {l : List UInt8} (h : IsBytes w v l) (ha : (Go.Proofs.YtjdebgbiockafaaGreatDoor.all w).on X) : IsBytes X v l := by
 obtain ⟨a, c, h1, h2, h3, h4, h5⟩ := h
 exact ⟨a, c, h1, h2, h3, h4.all ha, h5⟩
end Go.Proofs.YtjdebgbiockafaaGreatDoor
namespace Go.Proofs.YtjdebgbiockafaaGreatDoor
open Go.RowKit Go.WideShapes Go.ChangeShapes
variable {P : Program}
theorem IsBytes.sliced {w : World} {a : Option Addr} {n c : Nat} {l : List UInt8} (h : IsBytes w (.slice a n c) l) (k : Nat) (hk : k ≤ l.length) : IsBytes w (sliced a k n c 1) (l.drop k) := by
 obtain ⟨a', c', e, h1, h2, h3, h4⟩ := h
 simp only [Value.slice.injEq] at e
 obtain ⟨rfl, rfl, rfl⟩ := e
 unfold Go.sliced
 by_cases hc : c = k
 ·rw [if_pos hc]
  have hl : l.length = k := by omega
  have hd : l.drop k = [] := List.drop_of_length_le (by omega)
  rw [hd]
  refine ⟨a, c - k, by simp [hl], by simp, by omega, Lay.nil _ _, fun _ => by omega⟩
 rw [if_neg hc]
 refine ⟨a.map (·.add (k * 1)), c - k, by rw [List.length_drop], by rw [List.length_drop]; omega, by omega, ?_, ?_⟩
 ·rcases Nat.eq_zero_or_pos l.length with h0 | h0
  ·have : l.drop k = [] := List.drop_of_length_le (by omega)
   rw [this]; exact Lay.nil _ _
  obtain ⟨b, off, rfl⟩ := h3.isAddr 0 (by simpa using h0)
  have : (⟨b, off, .none⟩ : Addr).add (k * 1) = ⟨b, off + k, .none⟩ := by unfold Addr.add; split <;> simp_all
  simp only [Option.map_some, this]
  have h5 := h3.drop k
  rwa [← List.map_drop] at h5
 intro hn
 have : a = Option.none := by cases a <;> simp_all
 have := h4 this
 omega
theorem run_slice_from {w : World} {v : Value} {l : List UInt8} (h : IsBytes w v l) (k : Nat) (hk : k ≤ l.length) (t e : TypeId) (ht : P.underlying t = some (.slice e)) (hi : (P.info? e).map (fun i => (i.zero, i.size, i.bytes)) = some (some (.int .u8 0), 1, 1)) :
  ∃ v', (Instr.sliceAt t v (some (.int .i64 (k : Int))) Option.none Option.none).run P w = .ok v' w ∧ ∀ w', IsBytes w' v l → IsBytes w' v' (l.drop k) := by
 obtain ⟨a, c, rfl, h1, h2, h3, h4⟩ := h
 have he : P.elem t = e := by simp [Program.elem, ht]
 have ht' : P.underlying t = some (.slice (P.elem t)) := by rw [he]; exact ht
 obtain ⟨i, hq, _, hs, _⟩ := info_some hi
 refine ⟨_, ?_, fun w' h => h.sliced k hk⟩
 rw [run_sliceAt_slice w t _ _ _ _ ht', run_slice_l w t a l.length c ht' .i64 (k : Int) (by omega) (by omega)]
 simp [sizeOf, typeInfo, he, hq, hs]
end Go.Proofs.YtjdebgbiockafaaGreatDoor
