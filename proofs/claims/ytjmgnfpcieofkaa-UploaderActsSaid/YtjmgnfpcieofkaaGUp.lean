/- LAID TOGETHER: Up1, Up2. -/
import Derived.Test.YtjmgnfpcieofkaaGOpcB
import Derived.Test.YtjmgnfpcieofkaaGSlip
import Derived.Test.YtjmgnfpcieofkaaGBase2
import Derived.Test.YtjmgnfpcieofkaaGDs
/- uploader: requests in memory, and their frames. -/
namespace Go.Proofs.Ytjmgnfpcieofkaa
open Go.ChangeShapes Go.WideShapes Go.ChangeAt Go.RowKit
set_option linter.unusedVariables false
set_option linter.unusedSimpArgs false

def rqCells (L : List (Value × ReqS)) : List Value := L.flatMap fun y => [vb y.2.op, vb y.2.type, u32v y.2.size, y.1]
def IsReqs (w : World) (v : Value) (L : List (Value × ReqS)) : Prop := ∃ a c, v = .slice a L.length c ∧ L.length ≤ c ∧ c ≤ maxLen ∧ Lay w a (rqCells L) ∧ (∀ (i : Nat) (u : Value) (q : ReqS), L[i]? = some (u, q) → IsBytes w u q.data ∧ q.size < 4294967296 ∧ q.data.length ≤ 1000)
theorem rqCells_get : ∀ (L : List (Value × ReqS)) (i : Nat) (v : Value) (q : ReqS), L[i]? = some (v, q) → ∀ j x, (reqCells q v)[j]? = some x → (rqCells L)[i * 4 + j]? = some x
  | [], i, v, e, h => by simp at h
  | y :: t, 0, v, e, hi => by
    simp only [List.getElem?_cons_zero, Option.some.injEq] at hi
    subst hi
    intro j x hx
    match j, hx with
    | 0, hx => exact hx
    | 1, hx => exact hx
    | 2, hx => exact hx
    | 3, hx => exact hx
    | j + 4, hx => simp at hx
  | y :: t, i + 1, v, e, hi => by
    intro j x hx
    have := rqCells_get t i v e (by simpa using hi) j x hx
    rw [show (i + 1) * 4 + j = (i * 4 + j) + 4 by omega]
    exact this
/-- what a request is sent as -/
def encT (q : ReqS) : List UInt8 := if encOk q then encBytes q else []
def rowStars : List (Value × List UInt8) → SP
  | [] => emp
  | y :: t => ownR y.1 y.2 * rowStars t
theorem rowStars_snoc (L : List (Value × List UInt8)) (y : Value × List UInt8) : rowStars (L ++ [y]) = rowStars L * ownR y.1 y.2 := by
  induction L with
  | nil => exact SP.mul_comm _ _
  | cons z t ih => show _ * rowStars (t ++ [y]) = _; rw [ih, ← SP.mul_assoc]; rfl
theorem rowStars_get {F : SP} {w : World} : ∀ (L : List (Value × List UInt8)) (i : Nat) (v : Value) (e : List UInt8), (rowStars L * F).on w → L[i]? = some (v, e) → IsBytes w v e
  | [], i, v, e, _, h => by simp at h
  | y :: t, 0, v, e, h, hi => by
    simp only [List.getElem?_cons_zero, Option.some.injEq] at hi
    subst hi
    have h2 : ((ownR v e * rowStars t) * F).on w := h
    rw [SP.mul_assoc] at h2
    exact own_bytes h2
  | y :: t, i + 1, v, e, h, hi => by
    have h2 : ((ownR y.1 y.2 * rowStars t) * F).on w := h
    rw [SP.mul_assoc] at h2
    exact rowStars_get t i v e h2.right (by simpa using hi)
theorem frames_small : ∀ (ls : List (List UInt8)) (n : Nat), (∀ l ∈ ls, l.length ≤ n) → (frames ls).length ≤ ls.length * (2 * n + 1)
  | [], n, _ => by simp [frames]
  | l :: ls, n, h => by
    have h1 := frames_small ls n (fun x hx => h x (by simp [hx]))
    have h2 := (encText_len l).1
    have h3 := h l (by simp)
    simp only [frames, List.flatMap_cons, List.length_append, List.length_cons, frame, List.length_nil] at h1 ⊢
    rw [Nat.add_mul]
    omega
theorem encT_small (q : ReqS) (h : q.data.length ≤ 1000) : (encT q).length ≤ 1006 := by
  unfold encT
  split
  · unfold encBytes
    have h1 : ((wordB q.size).take (formD q.op).size).length ≤ 4 := by rw [List.length_take]; have := wordB_len q.size; omega
    have h2 : ((if (formD q.op).kind = 0 then [] else [q.type]) : List UInt8).length ≤ 1 := by split <;> simp
    simp only [List.length_append, List.length_cons, List.length_nil]
    omega
  · simp

set_option maxRecDepth 100000 in
set_option maxHeartbeats 8000000 in
theorem upframes_any (v : Value) (L : List (Value × ReqS)) (w : World) (h : IsReqs w v L) (hl : L.length ≤ 1000) :
    Calls Try.prog 65 #[v] w (Makes w fun u => ownB u (frames (L.map fun y => encT y.2))) := by
  have huq := Try.underlying159
  have hsq : (Try.prog.info? 159).map (·.size) = some 4 := by kernel_rfl
  have hzq : ∀ w, (zeroValue 159).run Try.prog w = .ok (.agg zq) w := fun w => by kernel_rfl
  have hue := Try.underlying145
  obtain ⟨ie, hie, hz, hsz, hby⟩ := info_some (show (Try.prog.info? 33).map (fun i => (i.zero, i.size, i.bytes)) = some (some (.slice Option.none 0 0), 1, 24) by kernel_rfl)
  have Hie := hide hie
  have Hz := hide hz
  have Hsz := hide hsz
  have Hby := hide hby
  clear hie hz hsz hby
  obtain ⟨a, c, rfl, hc, hm, hla, hin⟩ := h
  unfold maxLen at hm
  have Hla := hide hla
  have Hin := hide hin
  have H0 := hide (own_nil 33 1 (on_all w))
  clear hla hin
  go_enter Try.func65, Try.ntmps65
  go_wp2_with fail
  go_loopw [3, 10] (fun tv i wr => ∃ (k : Nat) (R : List (Value × List UInt8)), k ≤ L.length ∧ i = .int .i64 k ∧ R.map Prod.snd = (L.take k).map (fun y => encT y.2) ∧ (own 33 1 tv k (R.map Prod.fst) * (rowStars R * all w)).on wr ∧ Str w wr) (fun _ i _ => L.length - (intOf i).toNat)
  case atStart => exact ⟨0, [], by omega, rfl, rfl, by rw [SP.mul_comm (rowStars []), ← SP.mul_assoc]; exact on_mul_emp.2 H0.out, Str.refl _⟩
  case round =>
    obtain ⟨k, R, hk, rfl, hR, how, hstr⟩ := hrel
    obtain ⟨ta, tc, rfl, htk, htm, _, _⟩ := own_value how
    have How := hide how
    have Hstr := hide hstr
    have HR := hide hR
    clear how hstr hR
    by_cases hlt : k < L.length
    · obtain ⟨⟨u, q⟩, hq⟩ : ∃ y, L[k]? = some y := ⟨_, List.getElem?_eq_getElem hlt⟩
      obtain ⟨hqb, hqs, hqd⟩ := Hin.out k u q hq
      have HB := hide (all_below How.out.right.right Hstr.out)
      obtain ⟨bg, bo, rfl⟩ : ∃ b off, a = some ⟨b, off, Option.none⟩ := by obtain ⟨b, off, e, _⟩ := Hla.out _ _ (rqCells_get L k u q hq 0 _ rfl); exact ⟨b, off, e⟩
      have Hpart : Hid (∀ j x, (reqCells q u)[j]? = some x → wr.cell? ⟨bg, (bo + k * 4) + j, Option.none⟩ = some x) := hide fun j x hx => by
        have := Lay.cell (Hla.out.below HB.out) _ (rqCells_get L k u q hq j x hx)
        rw [Nat.add_assoc]
        exact this
      have hqb2 := hqb
      obtain ⟨ua, uc, rfl, _, _, _, _⟩ := hqb2
      have Hqb := hide hqb
      have Hqs := hide hqs
      have Hqd := hide hqd
      have Hq := hide hq
      clear hqb hqs hqd hq
      have hr := heap_alloc_new wr (.cells zq 159)
      have H1 := hide (((How.out.alloc (.cells zq 159))).setRow (reqCells q (.slice ua q.data.length uc)))
      have HS1 := hide ((Hstr.out.alloc (.cells zq 159)).setRow wr.heap.size (reqCells q (.slice ua q.data.length uc)))
      have hg1 := on_blk_mul H1.out
      have hE := oencode_any q (.slice ua q.data.length uc) ((wr.alloc (.cells zq 159)).setRow wr.heap.size (reqCells q (.slice ua q.data.length uc))) Hqs.out (Hqb.out.below (all_below H1.out.right.right.right HS1.out)) (by have := Hqd.out; omega)
      have hreq1 := req_one q ua q.data.length uc
      go_wp2_with (first
        | (refine wpList_load_part rfl _ _ rfl bg (bo + k * 4) rfl (reqCells q (.slice ua q.data.length uc)) _ Hpart.out huq rfl hsq ?_)
        | (refine wpList_store_row rfl _ _ _ rfl wr.heap.size (reqCells q (.slice ua q.data.length uc)) rfl rfl _ _ hr hsq (zq_size _ _) hreq1 ?_)
        | (refine wpList_load_row rfl _ _ rfl wr.heap.size rfl _ (reqCells q (.slice ua q.data.length uc)) _ _ hg1 huq rfl hsq ?_))
      generalize (wr.alloc (.cells zq 159)).setRow wr.heap.size (reqCells q (.slice ua q.data.length uc)) = w1 at *
      refine hE.mono ?_
      clear hE hg1 hr hreq1
      rintro e w2 ⟨out, rfl, ho, hs⟩
      have ho' : (ownR out (encT q) * all w1).on w2 := ho
      have h2 := on_all_to ho' H1.out.right
      have HS2 := hide (HS1.out.trans hs)
      obtain ⟨oa, oc, rfl, _, _, _, _⟩ := own_value ho'
      have h3 : (own 33 1 (.slice ta k tc) k (R.map Prod.fst) * ((rowStars R * ownR (.slice oa (encT q).length oc) (encT q)) * all w)).on w2 := by
        rw [SP.mul_left_comm] at h2
        rw [SP.mul_assoc (rowStars R), SP.mul_left_comm (rowStars R)]
        exact h2
      rw [show rowStars R * ownR (.slice oa (encT q).length oc) (encT q) = rowStars (R ++ [(.slice oa (encT q).length oc, encT q)]) from (rowStars_snoc R (_, _)).symm] at h3
      have H3 := hide h3
      clear ho ho' hs h2 h3
      generalize (if encOk q = true then (0 : Int) else 1) = er at *
      have HEq : Hid (encT q = encT q) := hide rfl
      generalize hen : (encT q).length = en at *
      have Hen := hide hen
      clear hen
      go_wp2_with (at_builtin; go_loud (refine wpList_append_sp (F := rowStars (R ++ [(Value.slice oa en oc, encT q)]) * all w) rfl _ _ 145 rfl 33 ie _ 1 24 hue Hie.out Hz.out Hsz.out Hby.out rfl (by decide) _ k (R.map Prod.fst) rfl (H3.out.alloc' _) (some ⟨w2.heap.size, 0, Option.none⟩) 1 1 [.slice oa en oc] rfl (fun h => (nomatch h)) rfl (Lay.new _ _ _) (by intro u hu; simp at hu; rw [hu]; rfl) (by unfold maxLen; omega) (by omega) ?_); intro v4 w4 ho4 hs4)
      refine ⟨⟨k + 1, R ++ [(.slice oa en oc, encT q)], by omega, by simp, ?_, ?_, (HS2.out.alloc _).trans hs4⟩, by simp [intOf]; omega⟩
      · rw [List.map_append, HR.out, List.take_add_one, Hq.out]
        simp
      · rw [List.map_append]
        exact ho4
    · obtain rfl : k = L.length := by omega
      rw [List.take_length] at HR
      have hlen : R.length = L.length := by have := congrArg List.length HR.out; simpa using this
      have hrows : IsRows wr (.slice ta L.length tc) (L.map fun y => encT y.2) := by
        obtain ⟨_, _, e, _, _, hl2, _⟩ := own_value How.out
        simp only [Value.slice.injEq] at e
        obtain ⟨rfl, _, rfl⟩ := e
        refine ⟨_, _, R.map Prod.fst, by rw [List.length_map], by rw [List.length_map]; exact htk, htm, hl2, by simp [hlen], ?_⟩
        intro i v l hv hl3
        rw [← HR.out] at hl3
        rw [List.getElem?_map] at hv hl3
        cases hRi : R[i]? with
        | none => rw [hRi] at hv; simp at hv
        | some y =>
          rw [hRi] at hv hl3
          simp only [Option.map_some, Option.some.injEq] at hv hl3
          subst hv hl3
          exact rowStars_get R i _ _ How.out.right hRi
      have hE := encode_any _ _ wr hrows (by
        have h1 := frames_small (L.map fun y => encT y.2) 1006 (fun l hl2 => by
          obtain ⟨y, hy, rfl⟩ := List.mem_map.1 hl2
          obtain ⟨i, hi⟩ := List.getElem?_of_mem hy
          exact encT_small y.2 (Hin.out i y.1 y.2 hi).2.2)
        rw [List.length_map] at h1
        have h2 : L.length * (2 * 1006 + 1) ≤ 1000 * (2 * 1006 + 1) := Nat.mul_le_mul_right _ hl
        omega)
      have Hall := hide How.out.right.right
      clear hrows hlen
      go_wp2_with fail
      refine hE.mono ?_
      clear hE
      rintro e w2 ⟨out, rfl, ho, hs⟩
      have H2 := hide (on_all_to ho Hall.out)
      have HS2 := hide (Hstr.out.trans hs)
      obtain ⟨oa, oc, rfl, _, _, _, _⟩ := own_value ho
      clear ho hs
      go_wp2_with fail
      go_ret
      exact ⟨_, rfl, H2.out, HS2.out⟩
end Go.Proofs.Ytjmgnfpcieofkaa

/- uploader: a new one, and what it sends first. -/
namespace Go.Proofs.Ytjmgnfpcieofkaa
open Go.ChangeShapes Go.WideShapes Go.ChangeAt Go.RowKit
set_option linter.unusedVariables false
set_option linter.unusedSimpArgs false

/-- an uploader's cells -/
abbrev upC (iv mv dv : Value) (phase : Nat) (sent : Bool) (waited sends from' : Nat) (sum : Nat) : Array Value := #[iv, mv, dv, .int .i64 (phase : Int), .bool sent, .int .i64 (waited : Int), .int .i64 (sends : Int), .int .i64 (from' : Int), .int .u32 (sum : Int)]
def UpNew (w : World) (e : Ending) (w' : World) : Prop := ∃ p iv mv dp, e = .returned (.tuple #[.pointer (some ⟨p, 0, Option.none⟩), .int .i64 0]) ∧ (blk p (.cells (upC iv mv (dptr dp) 0 false 0 0 0 0) 126 (0, 0)) * all w).on w' ∧ Str w w'

set_option maxRecDepth 100000 in
set_option maxHeartbeats 8000000 in
theorem upnew_any (v1 v2 : Value) (l1 l2 : List UInt8) (w : World) (h1 : IsBytes w v1 l1) (h2 : IsBytes w v2 l2) (a1 : 1 ≤ l1.length) (b1 : l1.length ≤ 128) (a2 : 1 ≤ l2.length) (b2 : l2.length ≤ 4096) :
    Calls Try.prog 35 #[v1, v2] w (UpNew w) := by
  have hu := Try.underlying33
  have hE := dnew_any 70 (by decide) (by decide) w
  have H1 := hide h1
  have H2 := hide h2
  obtain ⟨x1, c1, rfl, hc1, hm1, _, _⟩ := h1
  obtain ⟨x2, c2, rfl, hc2, hm2, _, _⟩ := h2
  unfold maxLen at hm1 hm2
  go_enter Try.func35, Try.ntmps35
  go_wp2_with fail
  refine hE.mono ?_
  clear hE
  rintro e w2 ⟨v, rfl, ho, hs⟩
  obtain ⟨dp, rfl, hd⟩ := dnewQ.out ho
  have HD := hide hd
  have HS := hide hs
  clear ho hd hs
  have H0 := hide (own_nil 5 1 HD.out)
  go_wp2_with (first
    | (at_builtin; refine wpList_append_bytes (F := own 5 1 (.slice oa3 l1.length oc3) l1.length (vbs l1) * (Dec dp ⟨[], 70, false, false⟩ * all w)) rfl _ _ 33 rfl 5 hu infoR _ [] l2 rfl H4.out _ rfl (H2.out.below (all_below Ho3.out.right.right Hs3.out)) (by simp; omega) ?_; intro v4 w4 ho4 hs4; rw [List.nil_append] at ho4; obtain ⟨oa4, oc4, rfl, _, _, _, _⟩ := own_value ho4; have Ho4 := hide ho4; have Hs4 := hide (Hs3.out.trans hs4); clear ho4 hs4)
    | (at_builtin; refine wpList_append_bytes (F := Dec dp ⟨[], 70, false, false⟩ * all w) rfl _ _ 33 rfl 5 hu infoR _ [] l1 rfl H0.out _ rfl (H1.out.below (all_below HD.out.right HS.out)) (by simp; omega) ?_; intro v3 w3 ho3 hs3; rw [List.nil_append] at ho3; obtain ⟨oa3, oc3, rfl, _, _, _, _⟩ := own_value ho3; have Ho3 := hide ho3; have Hs3 := hide (HS.out.trans hs3); have H4 := hide (own_nil 5 1 ho3); clear ho3 hs3))
  go_ret2
  exact ⟨w4.heap.size, _, _, dp, rfl, SP.on.alloc (Ho4.out.right.right.right) _, Hs4.out.alloc _⟩

abbrev greetQ : List (Value × ReqS) := [(nilV, ⟨2, 0, 0, []⟩), (nilV, ⟨6, 1, 0, []⟩)]
theorem greet_cells : rqCells greetQ = [.int .u8 2, .int .u8 0, .int .u32 0, .slice Option.none 0 0, .int .u8 6, .int .u8 1, .int .u32 0, .slice Option.none 0 0] := rfl
theorem greet_bytes : frames (greetQ.map fun y => encT y.2) = [2, 0, 0, 192, 6, 1, 192] := by decide +kernel

set_option maxRecDepth 100000 in
set_option maxHeartbeats 8000000 in
theorem upgreet_any (p : Nat) (w : World) (hc : w.cell? ⟨p, 3, Option.none⟩ = some (.int .i64 0)) :
    Calls Try.prog 66 #[.pointer (some ⟨p, 0, Option.none⟩)] w fun e w' => ∃ v, e = .returned v ∧ IsReqs w' v greetQ ∧ Below w.heap.size w w' := by
  have huq := Try.underlying159
  have hsq : (Try.prog.info? 159).map (·.size) = some 4 := by kernel_rfl
  have hzq : ∀ w, (zeroValue 159).run Try.prog w = .ok (.agg zq) w := fun w => by kernel_rfl
  have hr := heap_alloc_new w (.cells zq 159)
  have hone : (#[vb 4, vb 0, u32v 0, nilV] : Array Value).all (·.oneCell') = true := by simp [Value.oneCell', vb]
  have hcp := World.block_lt_of_cell? _ _ hc
  have hc2 : ((w.alloc (.cells zq 159)).setRow w.heap.size #[vb 4, vb 0, u32v 0, nilV]).cell? ⟨p, 3, Option.none⟩ = some (.int .i64 0) := ((below_setRow ((Below.refl w.heap.size w).alloc (Nat.le_refl _) _) (Nat.le_refl _) _).cell (p := ⟨p, 3, Option.none⟩) hcp).trans hc
  have HB := hide (below_setRow ((Below.refl w.heap.size w).alloc (Nat.le_refl _) (.cells zq 159)) (Nat.le_refl _) #[vb 4, vb 0, u32v 0, nilV])
  clear hc hcp
  go_enter Try.func66, Try.ntmps66
  go_wp2_with (refine wpList_store_row rfl _ _ _ rfl w.heap.size #[vb 4, vb 0, u32v 0, nilV] rfl rfl _ _ hr hsq rfl hone ?_)
  go_ret
  refine ⟨_, rfl, ⟨_, _, rfl, by decide, by decide, by rw [greet_cells, show w.heap.size + 1 = ((w.alloc (.cells zq 159)).setRow w.heap.size #[vb 4, vb 0, u32v 0, nilV]).heap.size by simp]; exact Lay.new _ [.int .u8 2, .int .u8 0, .int .u32 0, nilV, .int .u8 6, .int .u8 1, .int .u32 0, nilV] _, ?_⟩, HB.out.alloc HB.out.size _⟩
  intro i u q hi
  match i, hi with
  | 0, hi => simp at hi; obtain ⟨rfl, rfl⟩ := hi; exact ⟨IsBytes.nil _, by decide, by decide⟩
  | 1, hi => simp at hi; obtain ⟨rfl, rfl⟩ := hi; exact ⟨IsBytes.nil _, by decide, by decide⟩
  | i + 2, hi => simp at hi

set_option maxRecDepth 100000 in
set_option maxHeartbeats 8000000 in
theorem upsend_greet (p : Nat) (iv mv dv : Value) (hd : ∃ d, dv = dptr d) (F : SP) (w : World) (h : (blk p (.cells (upC iv mv dv 0 false 0 0 0 0) 126 (0, 0)) * F).on w) :
    Calls Try.prog 36 #[.pointer (some ⟨p, 0, Option.none⟩)] w (Ends w (blk p (.cells (upC iv mv dv 0 true 0 1 0 0) 126 (0, 0)) * F) fun v => ownB v [2, 0, 0, 192, 6, 1, 192]) := by
  have hg := on_blk_mul h
  have f4 := frozen_of_row w p 4 _ _ hg
  have f6 := frozen_of_row w p 6 _ _ hg
  have c4 : w.cell? ⟨p, 4, Option.none⟩ = some (.bool false) := cell_of_row _ _ 4 _ _ _ hg
  have h1 := SP.on.setCell (i := 4) h (.bool true)
  have hg1 := on_blk_mul h1
  have c6 : (w.setCell ⟨p, 4, Option.none⟩ (.bool true)).cell? ⟨p, 6, Option.none⟩ = some (.int .i64 0) := cell_of_row _ _ 6 _ _ _ hg1
  have f61 := frozen_of_row (w.setCell ⟨p, 4, Option.none⟩ (.bool true)) p 6 _ _ hg1
  have h2 := SP.on.setCell (i := 6) h1 (.int .i64 1)
  have H2 : Hid ((blk p (.cells (upC iv mv dv 0 true 0 1 0 0) 126 (0, 0)) * F).on ((w.setCell ⟨p, 4, Option.none⟩ (.bool true)).setCell ⟨p, 6, Option.none⟩ (.int .i64 1))) := hide h2
  have HS2 := hide (((Str.refl w).setCell ⟨p, 4, Option.none⟩ (.bool true)).setCell ⟨p, 6, Option.none⟩ (.int .i64 1))
  have hE := upgreet_any p ((w.setCell ⟨p, 4, Option.none⟩ (.bool true)).setCell ⟨p, 6, Option.none⟩ (.int .i64 1)) (cell_of_row _ _ 3 _ _ _ (on_blk_mul H2.out))
  clear h h1 h2 hg hg1
  go_enter Try.func36, Try.ntmps36
  go_wp2_with fail
  generalize (w.setCell ⟨p, 4, Option.none⟩ (.bool true)).setCell ⟨p, 6, Option.none⟩ (.int .i64 1) = w1 at *
  refine hE.mono ?_
  clear hE
  rintro e w2 ⟨v, rfl, hq, hb⟩
  have hE := upframes_any v greetQ w2 hq (by decide)
  rw [greet_bytes] at hE
  have H3 := hide (H2.out.below hb)
  have HS3 := hide (HS2.out.trans (Str.below hb))
  obtain ⟨va, vc, rfl, _, _, _, _⟩ := hq
  clear hb
  go_wp2_with fail
  refine hE.mono ?_
  clear hE
  rintro e w3 ⟨u, rfl, ho, hs⟩
  have H4 := hide (on_all_to ho H3.out)
  have HS4 := hide (HS3.out.trans hs)
  obtain ⟨ua, uc, rfl, _, _, _, _⟩ := own_value ho
  clear ho hs
  go_wp2_with fail
  go_ret
  exact ⟨_, rfl, H4.out, HS4.out⟩

set_option maxRecDepth 100000 in
set_option maxHeartbeats 8000000 in
theorem upsend_sent (p : Nat) (w : World) (c4 : w.cell? ⟨p, 4, Option.none⟩ = some (.bool true)) :
    Calls Try.prog 36 #[.pointer (some ⟨p, 0, Option.none⟩)] w fun e w' => e = .returned (.slice Option.none 0 0) ∧ w = w' := by
  go_enter Try.func36, Try.ntmps36
  go_wp2_with fail
  go_ret
  exact ⟨rfl, rfl⟩

end Go.Proofs.Ytjmgnfpcieofkaa
