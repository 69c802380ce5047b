/- The law UploaderActs: the requests of each phase, and Send. -/
import Derived.Test.YtjmgnfpcieofkaaGUB
import Derived.Test.YtjmgnfpcieofkaaUA3
import Derived.Test.YtjmgnfpcieofkaaGUp
import Derived.Test.YtjmgnfpcieofkaaGBase
namespace Go.Proofs.Ytjmgnfpcieofkaa
open Go.ChangeShapes Go.WideShapes Go.ChangeAt Go.RowKit
set_option linter.unusedVariables false
set_option linter.unusedSimpArgs false

/-- what a call has made of its own -/
theorem own_of_row {w W : World} {e : TypeId} {size n : Nat} {v : Value} {xs : List Value} (h : W.ownsRow w.heap.size e size v n xs) (hb : Below w.heap.size w W) : (own e size v n xs * all w).on W := by
  obtain ⟨h1, h2⟩ := h
  rcases h2 with ⟨rfl, rfl⟩ | ⟨g, cap, cur, rfl, hg, hgb, h3, h4, h5, h6⟩
  · obtain rfl : xs = [] := List.eq_nil_of_length_eq_zero (by simpa using h1)
    exact own_nil e size ((on_all w).below hb)
  · refine own_of_blk (SP.on_mul.2 ⟨fun k => if k = g then some (.cells cur e (0, 0)) else Option.none, fun k => if k < w.heap.size then W.heap[k]? else Option.none, ?_, ?_, ?_, if_pos rfl, ?_⟩) h1 h3 h4 h5 h6
    · intro k
      by_cases hk : k = g
      · exact .inr (if_neg (by omega))
      · exact .inl (if_neg hk)
    · intro k o ho
      dsimp only at ho
      by_cases hk : k = g
      · rw [if_pos hk] at ho; rw [hk]; exact hgb.trans ho
      · rw [if_neg hk] at ho; cases ho
    · intro k o ho
      dsimp only at ho
      by_cases hk : k < w.heap.size
      · rw [if_pos hk] at ho; exact ho
      · rw [if_neg hk] at ho; cases ho
    · intro k hk
      show (if k < w.heap.size then W.heap[k]? else Option.none) = _
      rw [if_pos hk]
      exact hb.block k hk

theorem sending_any (kind : UInt8) (g o c : Nat) (b : List UInt8) (hlc : b.length ≤ c) (hl : b.length ≤ 4096) (hc : c ≤ 9223372036854775807) (w : World) :
    Calls Try.prog 99 #[vb kind, .slice (some ⟨g, o, Option.none⟩) b.length c] w (Makes w fun v => own 159 4 v (sendR kind g o c b).length (rqCells (sendR kind g o c b))) := by
  refine (callsIn_wide (n := 5)).1 ((sending_in Fence.wide 5 trivial trivial trivial rfl (by omega) kind g o c b hlc hl hc w).mono ?_)
  rintro e w' ⟨v, rfl, h1, h2⟩
  exact ⟨v, rfl, own_of_row h1 h2, Str.below h2⟩

theorem piecesK_range (b : List UInt8) : ∀ k, piecesK b k = (List.range k).map (pcS b)
  | 0 => rfl
  | k + 1 => by
    unfold piecesK
    rw [piecesK_range b k, List.range_succ, List.map_append]
    rfl
theorem reqErr_cons {c : UInt8} {t : List UInt8} {f : Form} (h : formOf c = some f) : reqErr (c :: t) = lenErr t f := by
  show (match formOf c with | Option.none => 19 | some f => lenErr t f) = _
  rw [h]
theorem reqGot_cons {c : UInt8} {t : List UInt8} {f : Form} (h : formOf c = some f) (h2 : lenErr t f = 0) : reqGot (c :: t) = parsed c t f := by
  show (match formOf c with | Option.none => zeroQ | some f => if lenErr t f = 0 then parsed c t f else zeroQ) = _
  rw [h]
  exact if_pos h2
theorem encT_write (d : List UInt8) (h1 : 1 ≤ d.length) (h2 : d.length ≤ 64) : encT ⟨8, 0, 0, d⟩ = 8 :: d := by
  have hb : encBytes ⟨8, 0, 0, d⟩ = 8 :: d := by
    unfold encBytes
    rw [show formD 8 = ⟨0, 0, 1, 64⟩ by kernel_rfl]
    simp
  have he : encOk ⟨8, 0, 0, d⟩ = true := by
    unfold encOk
    rw [hb]
    have e1 : formOf 8 = some ⟨0, 0, 1, 64⟩ := by kernel_rfl
    have e2 : lenErr d ⟨0, 0, 1, 64⟩ = 0 := by unfold lenErr; rw [if_neg (by show ¬ d.length < 0 + 0 + 1; omega), if_neg (by show ¬ 0 + 0 + 64 < d.length; omega)]
    have e3 : reqErr (8 :: d) = 0 := by rw [reqErr_cons e1]; exact e2
    have e4 : reqGot (8 :: d) = ⟨8, 0, 0, d⟩ := by rw [reqGot_cons e1 e2]; simp [parsed, numS]
    rw [e3, e4]
    simp [reqSame]
  unfold encT
  rw [he, if_pos rfl, hb]
theorem encT_create (kind : UInt8) (n : Nat) (hn : n < 4294967296) : encT ⟨1, kind, n, []⟩ = [1, kind] ++ wordB n := by
  have hb : encBytes ⟨1, kind, n, []⟩ = [1, kind] ++ wordB n := by
    unfold encBytes
    rw [show formD 1 = ⟨1, 4, 0, 0⟩ by kernel_rfl]
    simp
    rfl
  have he : encOk ⟨1, kind, n, []⟩ = true := by
    unfold encOk
    rw [hb]
    have e1 : formOf 1 = some ⟨1, 4, 0, 0⟩ := by kernel_rfl
    have hw := wordB_len n
    have hn2 : numS (kind :: wordB n) 1 4 = n := by have h9 := numS_word [kind] [] n hn 1 rfl; rw [List.append_nil] at h9; exact h9
    have e2 : lenErr (kind :: wordB n) ⟨1, 4, 0, 0⟩ = 0 := by unfold lenErr; rw [List.length_cons, hw]; rfl
    have e3 : reqErr (1 :: kind :: wordB n) = 0 := by rw [reqErr_cons e1]; exact e2
    have e4 : reqGot (1 :: kind :: wordB n) = ⟨1, kind, n, []⟩ := by
      rw [reqGot_cons e1 e2]
      unfold parsed
      dsimp only
      rw [hn2]
      simp [wordB]
    show (decide (reqErr (1 :: kind :: wordB n) = 0) && reqSame (reqGot (1 :: kind :: wordB n)) _) = true
    rw [e3, e4]
    simp [reqSame]
  unfold encT
  rw [he, if_pos rfl, hb]
theorem pcS_len (b : List UInt8) (k : Nat) (h : 60 * k < b.length) : 1 ≤ (pcS b k).length ∧ (pcS b k).length ≤ 60 := by
  unfold pcS
  rw [List.length_take, List.length_drop]
  omega
theorem sendR_texts (kind : UInt8) (g o c : Nat) (b : List UInt8) (hl : b.length ≤ 4096) : (sendR kind g o c b).map (fun y => encT y.2) = objT kind b := by
  unfold sendR objT
  rw [List.map_append, List.map_cons, piecesK_range, List.map_map, List.map_map]
  congr 1
  · congr 1
    · exact encT_create kind b.length (by omega)
    · apply List.map_congr_left
      intro k hk
      have hk2 := List.mem_range.1 hk
      unfold pieceN at hk2
      exact encT_write _ (pcS_len b k (by omega)).1 (by have := (pcS_len b k (by omega)).2; omega)
theorem sendR_len (kind : UInt8) (g o c : Nat) (b : List UInt8) (hl : b.length ≤ 4096) : (sendR kind g o c b).length ≤ 100 := by
  unfold sendR
  simp
  omega
theorem piece_bytes {w : World} {g o c : Nat} {b : List UInt8} (h : IsBytes w (.slice (some ⟨g, o, Option.none⟩) b.length c) b) (k : Nat) (hk : 60 * k < b.length) : IsBytes w (pcV g o b.length c k) (pcS b k) := by
  have h1 := sub_bytes h (60 * k) (min 60 (b.length - 60 * k)) (by omega)
  rw [show (b.drop (60 * k)).take (min 60 (b.length - 60 * k)) = pcS b k by
    unfold pcS
    rcases Nat.le_total 60 (b.length - 60 * k) with hc | hc
    · rw [Nat.min_eq_left hc]
    · rw [Nat.min_eq_right hc, List.take_of_length_le (by rw [List.length_drop]; omega), List.take_of_length_le (by rw [List.length_drop]; omega)]] at h1
  exact h1
/-- requests of one's own, as such -/
theorem reqs_of {w : World} {v : Value} {L : List (Value × ReqS)} {F : SP} (h : (own 159 4 v L.length (rqCells L) * F).on w) (hd : ∀ (i : Nat) (u : Value) (q : ReqS), L[i]? = some (u, q) → IsBytes w u q.data ∧ q.size < 4294967296 ∧ q.data.length ≤ 1000) : IsReqs w v L := by
  obtain ⟨a, c, rfl, h1, h2, h3, _⟩ := own_value h
  exact ⟨a, c, rfl, h1, h2, h3, hd⟩
theorem sendR_good {w : World} (kind : UInt8) (g o c : Nat) (b : List UInt8) (h : IsBytes w (.slice (some ⟨g, o, Option.none⟩) b.length c) b) (hl : b.length ≤ 4096) : ∀ y ∈ sendR kind g o c b, IsBytes w y.1 y.2.data ∧ y.2.size < 4294967296 ∧ y.2.data.length ≤ 1000 := by
  intro y hy
  unfold sendR at hy
  rcases List.mem_append.1 hy with hy | hy
  · rcases List.mem_cons.1 hy with rfl | hy
    · exact ⟨IsBytes.nil _, by show b.length < _; omega, Nat.zero_le _⟩
    · obtain ⟨k, hk, rfl⟩ := List.mem_map.1 hy
      have hk2 := List.mem_range.1 hk
      have h9 := pcS_len b k (by omega)
      exact ⟨piece_bytes h k (by omega), by show 0 < _; omega, by show (pcS b k).length ≤ _; omega⟩
  · rw [List.mem_singleton] at hy
    rw [hy]
    exact ⟨IsBytes.nil _, by show 0 < _; omega, Nat.zero_le _⟩
theorem good_get {w : World} {L : List (Value × ReqS)} (h : ∀ y ∈ L, IsBytes w y.1 y.2.data ∧ y.2.size < 4294967296 ∧ y.2.data.length ≤ 1000) : ∀ (i : Nat) (u : Value) (q : ReqS), L[i]? = some (u, q) → IsBytes w u q.data ∧ q.size < 4294967296 ∧ q.data.length ≤ 1000 := fun i u q hi => h _ (List.mem_of_getElem? hi)

def UReqs (init img : List UInt8) (s : US) (w : World) (e : Ending) (w' : World) : Prop := ∃ v L, e = .returned v ∧ IsReqs w' v L ∧ L.map (fun y => encT y.2) = s.texts init img ∧ L.length ≤ 1000 ∧ Below w.heap.size w w'
abbrev exQ : Array Value := #[vb 4, vb 0, u32v 0, nilV]
theorem lay_row {w : World} {g : Nat} {t : TypeId} {x y z u : Value} (h : w.heap[g]? = some (.cells #[x, y, z, u] t (0, 0))) : Lay w (some ⟨g, 0, Option.none⟩) [x, y, z, u] := fun i v hv => ⟨g, 0, rfl, by rw [Nat.zero_add, cell_of_row _ _ _ _ _ _ h]; simpa using hv⟩
theorem exQ_one : (exQ : Array Value).all (·.oneCell') = true := by simp [Value.oneCell', vb]
set_option maxRecDepth 100000 in
set_option maxHeartbeats 8000000 in
theorem ureq_offer (p ig io ic : Nat) (init : List UInt8) (hic : init.length ≤ ic) (hil : init.length ≤ 4096) (hin : ic ≤ 9223372036854775807) (w : World) (hc : w.cell? ⟨p, 3, Option.none⟩ = some (.int .i64 1)) (hc0 : w.cell? ⟨p, 0, Option.none⟩ = some (.slice (some ⟨ig, io, Option.none⟩) init.length ic)) (hib : IsBytes w (.slice (some ⟨ig, io, Option.none⟩) init.length ic) init) :
    Calls Try.prog 66 #[ptrV p] w fun e w' => ∃ v, e = .returned v ∧ IsReqs w' v (sendR 1 ig io ic init ++ [(nilV, ⟨4, 0, 0, []⟩)]) ∧ Below w.heap.size w w' := by
  have huq := Try.underlying159
  have hue := Try.underlying128
  have hsq : (Try.prog.info? 159).map (·.size) = some 4 := by kernel_rfl
  have hsq2 : (Try.prog.info? 159).map (·.size) = some exQ.size := by kernel_rfl
  obtain ⟨ie, hie, hz, hsz, hby⟩ := info_some infoReq
  have Hie := hide hie
  have Hz := hide hz
  have Hsz := hide hsz
  have Hby := hide hby
  clear hie hz hsz hby
  have hzq : ∀ w, (zeroValue 159).run Try.prog w = .ok (.agg zq) w := fun w => by kernel_rfl
  have hr := heap_alloc_new w (.cells zq 159)
  have hcp := World.block_lt_of_cell? _ _ hc
  have B1 := hide (below_setRow ((Below.refl w.heap.size w).alloc (Nat.le_refl _) (.cells zq 159)) (Nat.le_refl _) exQ)
  have hc2 := (B1.out.cell (p := ⟨p, 3, Option.none⟩) hcp).trans hc
  have C0 := hide ((B1.out.cell (p := ⟨p, 0, Option.none⟩) hcp).trans hc0)
  have G3 := hide (setRow_heap_same (w.alloc (.cells zq 159)) w.heap.size exQ _ _ _ hr)
  have hone := exQ_one
  have Hib := hide hib
  have HGo := hide (sendR_good 1 ig io ic init hib hil)
  have HLl := sendR_len 1 ig io ic init hil
  clear hc hc0 hib
  go_enter Try.func66, Try.ntmps66
  go_wp2_with (refine wpList_store_row rfl _ _ _ rfl w.heap.size exQ rfl rfl _ _ hr hsq2 rfl hone ?_)
  generalize (w.alloc (.cells zq 159)).setRow w.heap.size exQ = w1 at *
  generalize hp3 : w.heap.size = p3 at *
  have Hp3 := hide hp3
  clear hp3
  refine wp_region_tail 7 [isV (ptrV p), isV (.pointer (some ⟨p, 0, Option.none⟩)), isV (.pointer (some ⟨p, 0, Option.none⟩)), isV (.slice (some ⟨ig, io, Option.none⟩) init.length ic), fun v X => (own 159 4 v (sendR 1 ig io ic init).length (rqCells (sendR 1 ig io ic init)) * all w1).on X, isV (.agg #[vb 4, vb 0, u32v 0, nilV]), fun v X => ∃ g, v = .slice (some ⟨g, 0, Option.none⟩) 1 1 ∧ X.heap[g]? = some (.cells #[vb 4, vb 0, u32v 0, nilV] 159 (0, 0))]
    (by simp only [List.take_succ_cons, List.take_zero]; rfl) (by simp only [List.drop_succ_cons, List.drop_zero]; rfl) (by kernel_rfl) (by kernel_rfl) (by kernel_rfl) (by decide) rfl ?keep ?todo ?rest
  case keep => exact ⟨Keep.isV _, Keep.isV _, Keep.isV _, Keep.isV _, fun _ _ _ h k => SP.on.below h k, Keep.isV _, fun _ _ _ ⟨g, h1, h2⟩ k => ⟨g, h1, (k.block g (Array.getElem?_eq_some_iff.1 h2).1).trans h2⟩, trivial⟩
  case todo =>
    refine ⟨?_, ?_, ?_, ?_, ?_, ?_, ?_, trivial⟩
    · intro ev X hT hb hk hf
      have e0 : ev (.tmp 0) = ptrV p := hk.1
      exact OpOk.move rfl e0 ⟨rfl, Stay.refl _⟩
    · intro ev X hT hb hk hf
      have e0 : ev (.tmp 16) = ptrV p := hf.1
      exact OpOk.run (v := .pointer (some ⟨p, 0, Option.none⟩)) (W' := X) (by simp [execOp, e0, hb.1, go_sem]) ⟨rfl, Stay.refl _⟩
    · intro ev X hT hb hk hf
      have e0 : ev (.tmp 17) = .pointer (some ⟨p, 0, Option.none⟩) := hf.1
      exact OpOk.run (v := .pointer (some ⟨p, 0, Option.none⟩)) (W' := X) (by simp [execOp, e0, hb.1, go_sem]) ⟨rfl, Stay.refl _⟩
    · intro ev X hT hb hk hf
      have e0 : ev (.tmp 18) = .pointer (some ⟨p, 0, Option.none⟩) := hf.1
      have cW : X.cell? ⟨p, 0, Option.none⟩ = some (.slice (some ⟨ig, io, Option.none⟩) init.length ic) := (hT.cell (p := ⟨p, 0, Option.none⟩) (World.block_lt_of_cell? _ _ C0.out)).trans C0.out
      exact OpOk.run (v := .slice (some ⟨ig, io, Option.none⟩) init.length ic) (W' := X) (by simp [execOp, e0, cW, go_sem]) ⟨rfl, Stay.refl _⟩
    · intro ev X hT hb hk hf
      have e0 : ev (.tmp 19) = .slice (some ⟨ig, io, Option.none⟩) init.length ic := hf.1
      refine OpOk.enters (f := 99) (args := #[vb 1, .slice (some ⟨ig, io, Option.none⟩) init.length ic]) (W' := X) (by simp [execOp, resolve, invoke, e0, hb.1, hb.2.1, go_sem]) ((sending_any 1 ig io ic init hic hil hin X).mono ?_)
      rintro e X2 ⟨v', rfl, ho, hs⟩
      exact ⟨_, rfl, on_all_to ho ((on_all w1).below hT), all_below ho.right hs⟩
    · intro ev X hT hb hk hf
      have e0 : ev (.tmp 3) = .pointer (some ⟨p3, 0, Option.none⟩) := hk.1
      exact OpOk.load_row _ _ rfl p3 hk.1 _ _ _ _ ((hT.block _ (Array.getElem?_eq_some_iff.1 G3.out).1).trans G3.out) huq rfl hsq ⟨rfl, Stay.refl _⟩
    · intro ev X hT hb hk hf
      have e0 : ev (.tmp 21) = .agg #[vb 4, vb 0, u32v 0, nilV] := hf.1
      exact OpOk.run (v := .slice (some ⟨X.heap.size, 0, Option.none⟩) 1 1) (W' := X.alloc (.cells #[vb 4, vb 0, u32v 0, nilV] 159)) (by simp [execOp, e0, hue, hsq2, go_sem]) ⟨⟨_, rfl, heap_alloc_new X _⟩, (Below.refl _ _).alloc (Nat.le_refl _) _⟩
  case rest =>
    intro X hT
    rintro _ rfl _ rfl _ rfl _ rfl v4 ho4 _ rfl v6 ⟨g6, rfl, hg6⟩
    have ho5 : (own 159 4 v4 (sendR 1 ig io ic init).length (rqCells (sendR 1 ig io ic init)) * all w1).on X := ho4
    have Ho := hide ho5
    have Hg6 := hide hg6
    obtain ⟨a4, c4, rfl, _, _, _, _⟩ := own_value ho5
    generalize hnl : (sendR 1 ig io ic init).length = nl at *
    have Hnl := hide hnl
    have S1 := hide (Str.below hT)
    clear hT ho4 ho5 hg6 hnl
    go_wp2
    refine Rest.done ?_
    go_wp2_with (at_builtin; go_loud (refine wpList_append_sp (F := all w1) rfl _ _ 128 rfl 159 ie _ 4 32 hue Hie.out Hz.out Hsz.out Hby.out rfl (by decide) _ nl (rqCells (sendR 1 ig io ic init)) rfl Ho.out (some ⟨g6, 0, Option.none⟩) 1 1 [vb 4, vb 0, u32v 0, nilV] rfl (fun h => (nomatch h)) rfl (lay_row Hg6.out) (by simp [Value.oneCell', vb]) (by unfold maxLen; omega) (by omega) ?_); intro v7 w7 ho7 hs7; obtain ⟨a7, c7, rfl, _, _, _, _⟩ := own_value ho7; have Ho7 := hide ho7; have Hs7 := hide hs7; clear ho7 hs7)
    go_ret
    have hb7 := B1.out.trans ((all_below Ho7.out.right (S1.out.trans Hs7.out)).mono (by have := B1.out.size; rw [Hp3.out] at this; exact this))
    refine ⟨_, rfl, ?_, by rw [Hp3.out]; exact hb7⟩
    have e7 : (sendR 1 ig io ic init ++ [((nilV, ⟨4, 0, 0, []⟩) : Value × ReqS)]).length = nl + 1 := by rw [List.length_append, Hnl.out]; rfl
    have h7 := Ho7.out
    rw [← e7] at h7 ⊢
    refine reqs_of (F := all w1) (by rw [rqCells_append]; exact h7) (good_get ?_)
    intro y hy
    rcases List.mem_append.1 hy with hy | hy
    · have h9 := HGo.out y hy
      exact ⟨h9.1.below (by rw [Hp3.out]; exact hb7), h9.2⟩
    · rw [List.mem_singleton] at hy
      rw [hy]
      exact ⟨IsBytes.nil _, by show 0 < _; omega, Nat.zero_le _⟩

set_option maxRecDepth 100000 in
set_option maxHeartbeats 8000000 in
theorem ureq_feed (p : Nat) (iv : Value) (dp : Nat) (s : US) (mg mo mc : Nat) (img : List UInt8) (hfr : s.from' < img.length) (hl : img.length ≤ 4096) (F : SP) (w : World) (h : (blk p (.cells (uC iv (.slice (some ⟨mg, mo, Option.none⟩) img.length mc) dp s) 126 (0, 0)) * F).on w) (hmc : img.length ≤ mc) (hmx : mc ≤ 9223372036854775807) (hm : IsBytes w (.slice (some ⟨mg, mo, Option.none⟩) img.length mc) img) (hph : s.phase = 3) :
    Calls Try.prog 66 #[ptrV p] w fun e w' => ∃ v, e = .returned v ∧ IsReqs w' v (sendR 2 mg (mo + s.from') (mc - s.from') (objU img s.from')) ∧ Below w.heap.size w w' := by
  have huq := Try.underlying159
  have hsq2 : (Try.prog.info? 159).map (·.size) = some exQ.size := by kernel_rfl
  have hc : w.cell? ⟨p, 3, Option.none⟩ = some (.int .i64 3) := by
    have h9 := cell_of_row w p 3 _ _ _ (on_blk_mul h)
    rw [h9]
    show some (Value.int .i64 (s.phase : Int)) = _
    rw [hph]
    rfl
  have hzq : ∀ w, (zeroValue 159).run Try.prog w = .ok (.agg zq) w := fun w => by kernel_rfl
  have hr := heap_alloc_new w (.cells zq 159)
  have hcp := World.block_lt_of_cell? _ _ hc
  have B1 := hide (below_setRow ((Below.refl w.heap.size w).alloc (Nat.le_refl _) (.cells zq 159)) (Nat.le_refl _) exQ)
  have hc2 := (B1.out.cell (p := ⟨p, 3, Option.none⟩) hcp).trans hc
  have hone := exQ_one
  have H1 := hide (h.below B1.out)
  have Hob := hide (obj_bytes hm hfr)
  have hol : (objU img s.from').length ≤ 4096 := by rw [objU_len]; omega
  have hoc : (objU img s.from').length ≤ mc - s.from' := by rw [objU_len]; omega
  clear hc hm hph
  go_enter Try.func66, Try.ntmps66
  go_wp2_with (refine wpList_store_row rfl _ _ _ rfl w.heap.size exQ rfl rfl _ _ hr hsq2 rfl hone ?_)
  generalize (w.alloc (.cells zq 159)).setRow w.heap.size exQ = w1 at *
  refine (uobject_any p iv dp s mg mo mc img hfr hl F w1 H1.out hmc).mono ?_
  rintro e w2 ⟨rfl, hb2⟩
  have B2 := hide (B1.out.trans (hb2.mono B1.out.size))
  have hS := hide (sending_any 2 mg (mo + s.from') (mc - s.from') (objU img s.from') hoc hol (by omega) w2)
  have HGo := hide (sendR_good 2 mg (mo + s.from') (mc - s.from') (objU img s.from') (Hob.out.below B2.out) hol)
  clear hb2 H1 B1 hr
  generalize hL : sendR 2 mg (mo + s.from') (mc - s.from') (objU img s.from') = L at *
  have HL := hide hL
  clear hL
  go_wp2_with fail
  refine hS.out.mono ?_
  clear hS
  rintro e w3 ⟨v, rfl, ho, hs⟩
  have B3 := hide (all_below ho.right hs)
  have HR := hide (reqs_of ho (good_get fun y hy => ⟨(HGo.out y hy).1.below B3.out, (HGo.out y hy).2⟩))
  obtain ⟨a4, c4, rfl, _, _, _, _⟩ := own_value ho
  clear ho hs
  go_wp2_with fail
  go_ret
  rw [HL.out]
  exact ⟨_, rfl, HR.out, B2.out.trans (B3.out.mono B2.out.size)⟩

set_option maxRecDepth 100000 in
set_option maxHeartbeats 8000000 in
theorem ureq_look (p : Nat) (w : World) (hc : w.cell? ⟨p, 3, Option.none⟩ = some (.int .i64 2)) :
    Calls Try.prog 66 #[ptrV p] w fun e w' => ∃ v, e = .returned v ∧ IsReqs w' v [(nilV, ⟨6, 2, 0, []⟩)] ∧ Below w.heap.size w w' := by
  have huq := Try.underlying159
  have hsq2 : (Try.prog.info? 159).map (·.size) = some exQ.size := by kernel_rfl
  have hzq : ∀ w, (zeroValue 159).run Try.prog w = .ok (.agg zq) w := fun w => by kernel_rfl
  have hr := heap_alloc_new w (.cells zq 159)
  have hcp := World.block_lt_of_cell? _ _ hc
  have B1 := hide (below_setRow ((Below.refl w.heap.size w).alloc (Nat.le_refl _) (.cells zq 159)) (Nat.le_refl _) exQ)
  have hc2 := (B1.out.cell (p := ⟨p, 3, Option.none⟩) hcp).trans hc
  have hone := exQ_one
  clear hc
  go_enter Try.func66, Try.ntmps66
  go_wp2_with (refine wpList_store_row rfl _ _ _ rfl w.heap.size exQ rfl rfl _ _ hr hsq2 rfl hone ?_)
  have Hz1 := hide (show ((w.alloc (.cells zq 159)).setRow w.heap.size exQ).heap.size = w.heap.size + 1 by simp)
  generalize (w.alloc (.cells zq 159)).setRow w.heap.size exQ = w1 at *
  have B2 := hide (B1.out.alloc B1.out.size (.cells #[.int .u8 6, .int .u8 2, .int .u32 0, .slice Option.none 0 0] 159))
  have HL := hide (Lay.new w1 [.int .u8 6, .int .u8 2, .int .u32 0, .slice Option.none 0 0] 159)
  try go_ret
  refine ⟨_, rfl, ⟨_, _, rfl, Nat.le_refl _, by decide, by rw [← Hz1.out]; exact HL.out, ?_⟩, B2.out⟩
  exact good_get fun y hy => by rw [List.mem_singleton] at hy; rw [hy]; exact ⟨IsBytes.nil _, by show 0 < _; omega, Nat.zero_le _⟩
set_option maxRecDepth 100000 in
set_option maxHeartbeats 8000000 in
theorem ureq_commit (p : Nat) (w : World) (hc : w.cell? ⟨p, 3, Option.none⟩ = some (.int .i64 4)) :
    Calls Try.prog 66 #[ptrV p] w fun e w' => ∃ v, e = .returned v ∧ IsReqs w' v [(nilV, ⟨4, 0, 0, []⟩)] ∧ Below w.heap.size w w' := by
  have huq := Try.underlying159
  have hsq2 : (Try.prog.info? 159).map (·.size) = some exQ.size := by kernel_rfl
  have hzq : ∀ w, (zeroValue 159).run Try.prog w = .ok (.agg zq) w := fun w => by kernel_rfl
  have hr := heap_alloc_new w (.cells zq 159)
  have hcp := World.block_lt_of_cell? _ _ hc
  have B1 := hide (below_setRow ((Below.refl w.heap.size w).alloc (Nat.le_refl _) (.cells zq 159)) (Nat.le_refl _) exQ)
  have hc2 := (B1.out.cell (p := ⟨p, 3, Option.none⟩) hcp).trans hc
  have hone := exQ_one
  have hg3 := setRow_heap_same (w.alloc (.cells zq 159)) w.heap.size exQ _ _ _ hr
  clear hc
  go_enter Try.func66, Try.ntmps66
  go_wp2_with (first
    | (refine wpList_store_row rfl _ _ _ rfl w.heap.size exQ rfl rfl _ _ hr hsq2 rfl hone ?_)
    | (refine wpList_load_row rfl _ _ rfl w.heap.size rfl _ exQ _ _ hg3 huq rfl hsq2 ?_))
  have Hz1 := hide (show ((w.alloc (.cells zq 159)).setRow w.heap.size exQ).heap.size = w.heap.size + 1 by simp)
  generalize (w.alloc (.cells zq 159)).setRow w.heap.size exQ = w1 at *
  have B2 := hide (B1.out.alloc B1.out.size (.cells #[.int .u8 4, .int .u8 0, .int .u32 0, .slice Option.none 0 0] 159))
  have HL := hide (Lay.new w1 [.int .u8 4, .int .u8 0, .int .u32 0, .slice Option.none 0 0] 159)
  try go_ret
  refine ⟨_, rfl, ⟨_, _, rfl, Nat.le_refl _, by decide, by rw [← Hz1.out]; exact HL.out, ?_⟩, B2.out⟩
  exact good_get fun y hy => by rw [List.mem_singleton] at hy; rw [hy]; exact ⟨IsBytes.nil _, by show 0 < _; omega, Nat.zero_le _⟩
set_option maxRecDepth 100000 in
set_option maxHeartbeats 8000000 in
theorem ureq_done (p : Nat) (w : World) (hc : w.cell? ⟨p, 3, Option.none⟩ = some (.int .i64 5)) :
    Calls Try.prog 66 #[ptrV p] w fun e w' => ∃ v, e = .returned v ∧ IsReqs w' v [] ∧ Below w.heap.size w w' := by
  have huq := Try.underlying159
  have hsq2 : (Try.prog.info? 159).map (·.size) = some exQ.size := by kernel_rfl
  have hzq : ∀ w, (zeroValue 159).run Try.prog w = .ok (.agg zq) w := fun w => by kernel_rfl
  have hr := heap_alloc_new w (.cells zq 159)
  have hcp := World.block_lt_of_cell? _ _ hc
  have B1 := hide (below_setRow ((Below.refl w.heap.size w).alloc (Nat.le_refl _) (.cells zq 159)) (Nat.le_refl _) exQ)
  have hc2 := (B1.out.cell (p := ⟨p, 3, Option.none⟩) hcp).trans hc
  have hone := exQ_one
  clear hc
  go_enter Try.func66, Try.ntmps66
  go_wp2_with (refine wpList_store_row rfl _ _ _ rfl w.heap.size exQ rfl rfl _ _ hr hsq2 rfl hone ?_)
  try go_ret
  exact ⟨_, rfl, ⟨_, _, rfl, Nat.le_refl _, Nat.zero_le _, Lay.nil _ _, fun i u q hi => by simp at hi⟩, B1.out⟩

end Go.Proofs.Ytjmgnfpcieofkaa
