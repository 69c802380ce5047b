/- opcode: the document's bytes of a request. -/
import Derived.Test.YtdieaegajahdpaaOpcMath
import Derived.Test.YtdieaegajahdpaaApp
import Derived.Test.YtdieaegajahdpaaOpc5
namespace Go.Proofs.Ytdieaegajahdpaa
open Go.ChangeShapes Go.WideShapes Go.ChangeAt Go.RowKit
set_option linter.unusedVariables false
set_option linter.unusedSimpArgs false

def REncEnd (ok : Bool) (bytes : List UInt8) (w : World) (e : Ending) (w' : World) : Prop := ∃ out, e = .returned (.tuple #[out, .bool ok]) ∧ (ok = true → IsBytes w' out bytes) ∧ Below w.heap.size w w'
theorem isb1 (w : World) (x : UInt8) (v : Value) (hv : v = vb x) (t : TypeId) : IsBytes (w.alloc (.cells #[v] t)) (.slice (some ⟨w.heap.size, 0, Option.none⟩) 1 1) [x] := by
  subst hv
  exact IsBytes.new w [x] (by simp [maxLen]) t
theorem isb1k (w : World) (k : Nat) (hk : k = w.heap.size) (x : UInt8) (v : Value) (hv : v = vb x) (t : TypeId) : IsBytes (w.alloc (.cells #[v] t)) (.slice (some ⟨k, 0, Option.none⟩) 1 1) [x] := by
  subst hk
  exact isb1 w x v hv t
theorem b4v0 (n : Nat) : Value.int .u8 ((n : Int) % 256) = vb (b4 n 0) := by simp [vb, b4_toNat]
theorem b4v1 (n : Nat) : Value.int .u8 ((n : Int) / 256 % 256) = vb (b4 n 1) := by simp [vb, b4_toNat]
theorem b4v2 (n : Nat) : Value.int .u8 ((n : Int) / 65536 % 256) = vb (b4 n 2) := by simp [vb, b4_toNat]
theorem b4v3 (n : Nat) : Value.int .u8 ((n : Int) / 16777216 % 256) = vb (b4 n 3) := by simp [vb, b4_toNat]

/-- what stays, ahead of the append and behind it -/
abbrev EF (w : World) (q : ReqS) (v : Value) : SP := blk w.heap.size (.cells (reqCells q v) 49 (0, 0)) * all w
abbrev EIv (A : SP) (w : World) (q : ReqS) (v : Value) (ph : Bool) (X : World) : Prop := if ph then (EF w q v).on X ∧ Str w X else (A * EF w q v).on X ∧ Str w X
theorem EIv.cell {A : SP} {w : World} {q : ReqS} {v : Value} {ph : Bool} {X : World} (h : EIv A w q v ph X) (i : Nat) {u : Value} (hu : (reqCells q v)[i]? = some u) : X.cell? ⟨w.heap.size, i, Option.none⟩ = some u := by
  have hf : (EF w q v).on X := by
    cases ph with
    | true => exact h.1
    | false => exact h.1.right
  rw [cell_of_row _ _ _ _ _ _ (on_blk_mul hf)]
  exact hu
theorem EIv.stay {A : SP} {w : World} {q : ReqS} {v : Value} (ph : Bool) (X Y : World) (h : EIv A w q v ph X) (k : Stay X Y) : EIv A w q v ph Y := by
  cases ph <;> exact ⟨SP.on.below h.1 k, h.2.trans (Str.below k)⟩
theorem OpOk.append_bytes {P : Program} {o : Oper} {ev : Operand → Value} {W : World} {R : Value → World → Prop} {F : SP} (s x : Operand) (t : TypeId)
    (ho : o.op = .call { callee := .builtin .append, args := #[s, x], argTypes := #[t, t] })
    (e : TypeId) (ht : P.underlying t = some (.slice e)) (hi : (P.info? e).map (fun i => (i.zero, i.size, i.bytes)) = some (some (.int .u8 0), 1, 1))
    (v : Value) (l m : List UInt8) (hs : ev s = v) (hown : (own e 1 v l.length (vbs l) * F).on W) (hm : IsBytes W (ev x) m) (hb : l.length + m.length ≤ 140737488355328)
    (h : ∀ v' w', (own e 1 v' (l ++ m).length (vbs (l ++ m)) * F).on w' → Str W w' → R v' w') : OpOk P o ev W R := by
  obtain ⟨ad, c, hx, _, _, hl, hc⟩ := hm
  obtain ⟨i, hq, hz, hsz, hby⟩ := info_some hi
  obtain ⟨v', w', hr, h2, h3⟩ := run_append_sp (P := P) t o.type e i (.int .u8 0) 1 1 ht hq hz hsz hby rfl (by decide) v l.length (vbs l) hown ad m.length c (vbs m) hc (by simp) hl (vbs_one m) (by unfold maxLen; omega) (by omega)
  unfold OpOk execOp
  simp only [ho, resolve, invoke, builtin, Sem.run_bind, Sem.run_pure, Result.andThen_ok, List.map_toArray, List.map_cons, List.map_nil, hs, hx, hr]
  refine h v' w' ?_ h3
  have e1 : vbs (l ++ m) = vbs l ++ vbs m := by simp
  rw [e1, List.length_append]
  exact h2

set_option maxRecDepth 100000 in
set_option maxHeartbeats 16000000 in
theorem renc_1 (ty : UInt8) (sz : Nat) (dl : List UInt8) (dv : Value) (w : World) (hsz : sz < 4294967296) (h : IsBytes w dv dl) (hlen : dl.length ≤ 1000000) (hEB : dl.length = 0 → encBytes ⟨1, ty, sz, dl⟩ = [1, ty, b4 sz 0, b4 sz 1, b4 sz 2, b4 sz 3]) :
    Calls Try.prog 23 #[.agg (reqCells ⟨1, ty, sz, dl⟩ dv)] w (REncEnd (decide (dl.length = 0)) (encBytes ⟨1, ty, sz, dl⟩) w) := by
  have hu := Try.underlying23
  have Hd := hide h
  obtain ⟨da, dc, rfl, hdc, hdm, _, _⟩ := h
  unfold maxLen at hdm
  have hw0 := (on_all w).alloc (.cells (reqCells ⟨1, ty, sz, dl⟩ (.slice da dl.length dc)) 49)
  have hs0 := (Str.refl w).alloc (.cells (reqCells ⟨1, ty, sz, dl⟩ (.slice da dl.length dc)) 49)
  have hw1 := own_new 5 1 1 (vbs [1]) hw0 rfl (by decide)
  have hv1 : (vbs [1]).toArray = #[vb 1] := rfl
  rw [hv1] at hw1
  simp only [World.size_alloc] at hw1
  have hs1 := hs0.alloc (.cells #[vb 1] 5)
  have g0 := on_blk_mul hw0
  have g1 := on_blk_mul hw1.right
  have q0 : _ = some (vb 1) := cell_of_row _ w.heap.size 0 _ _ _ g0
  have q1 : _ = some (vb ty) := cell_of_row _ w.heap.size 1 _ _ _ g1
  have q2 : _ = some (u32v sz) := cell_of_row _ w.heap.size 2 _ _ _ g1
  have q3 : _ = some (Value.slice da dl.length dc) := cell_of_row _ w.heap.size 3 _ _ _ g1
  have q4 : _ = some (vb 1) := cell_of_row _ w.heap.size 0 _ _ _ g1
  have H1 := hide hw1
  have HS1 := hide hs1
  clear hw0 hs0 hw1 hv1 hs1 g0 g1
  by_cases pt : ty = 0
  · by_cases ps : sz = 0
    · by_cases pd : dl.length = 0
      · have hk2 : decide (dl.length = 0) = true := decide_eq_true pd
        rw [hk2]
        clear hk2
        have T0 : (((ty.toNat : Nat) : Int) == 0) = true := by rw [pt]; rfl
        have S0 : ((sz : Int) == 0) = true := by rw [ps]; rfl
        have D0 : ((dl.length : Int) == 0) = true := by rw [pd]; rfl
        have DG : decide (0 < dl.length) = false := decide_eq_false (by omega)
        have EB := hide (hEB pd)
        clear hEB
        clear pt
        clear ps
        clear pd
        go_enter Try.func23, Try.ntmps23
        go_wp2_with (first
          | (at_builtin; refine wpList_append_bytes (F := (EF w ⟨1, ty, sz, dl⟩ (.slice da dl.length dc))) rfl _ _ 23 rfl 5 hu infoR _ [1, ty, b4 sz 0, b4 sz 1] [b4 sz 2] rfl (H4.out.alloc' _) _ rfl (isb1k _ _ (by simp) _ _ (by first | exact b4v2 _ | simp [vb, b4_toNat]) _) (by simp) ?_; intro v5 w5 ho hs; simp only [List.cons_append, List.nil_append] at ho; have H5 := hide ho; have HS5 := hide ((HS4.out.alloc _).trans hs); have r0 : _ = some (vb 1) := cell_of_row _ w.heap.size 0 _ _ _ (on_blk_mul ho.right); have r1 : _ = some (vb ty) := cell_of_row _ w.heap.size 1 _ _ _ (on_blk_mul ho.right); have r2 : _ = some (u32v sz) := cell_of_row _ w.heap.size 2 _ _ _ (on_blk_mul ho.right); have r3 : _ = some (Value.slice da dl.length dc) := cell_of_row _ w.heap.size 3 _ _ _ (on_blk_mul ho.right); obtain ⟨oa5, oc5, rfl, _, _, _, _⟩ := own_value ho; clear ho hs)
          | (at_builtin; refine wpList_append_bytes (F := (EF w ⟨1, ty, sz, dl⟩ (.slice da dl.length dc))) rfl _ _ 23 rfl 5 hu infoR _ [1, ty, b4 sz 0] [b4 sz 1] rfl (H3.out.alloc' _) _ rfl (isb1k _ _ (by simp) _ _ (by first | exact b4v1 _ | simp [vb, b4_toNat]) _) (by simp) ?_; intro v4 w4 ho hs; simp only [List.cons_append, List.nil_append] at ho; have H4 := hide ho; have HS4 := hide ((HS3.out.alloc _).trans hs); have r0 : _ = some (vb 1) := cell_of_row _ w.heap.size 0 _ _ _ (on_blk_mul ho.right); have r1 : _ = some (vb ty) := cell_of_row _ w.heap.size 1 _ _ _ (on_blk_mul ho.right); have r2 : _ = some (u32v sz) := cell_of_row _ w.heap.size 2 _ _ _ (on_blk_mul ho.right); have r3 : _ = some (Value.slice da dl.length dc) := cell_of_row _ w.heap.size 3 _ _ _ (on_blk_mul ho.right); obtain ⟨oa4, oc4, rfl, _, _, _, _⟩ := own_value ho; clear ho hs)
          | (at_builtin; refine wpList_append_bytes (F := (EF w ⟨1, ty, sz, dl⟩ (.slice da dl.length dc))) rfl _ _ 23 rfl 5 hu infoR _ [1, ty] [b4 sz 0] rfl (H2.out.alloc' _) _ rfl (isb1k _ _ (by simp) _ _ (by first | exact b4v0 _ | simp [vb, b4_toNat]) _) (by simp) ?_; intro v3 w3 ho hs; simp only [List.cons_append, List.nil_append] at ho; have H3 := hide ho; have HS3 := hide ((HS2.out.alloc _).trans hs); have r0 : _ = some (vb 1) := cell_of_row _ w.heap.size 0 _ _ _ (on_blk_mul ho.right); have r1 : _ = some (vb ty) := cell_of_row _ w.heap.size 1 _ _ _ (on_blk_mul ho.right); have r2 : _ = some (u32v sz) := cell_of_row _ w.heap.size 2 _ _ _ (on_blk_mul ho.right); have r3 : _ = some (Value.slice da dl.length dc) := cell_of_row _ w.heap.size 3 _ _ _ (on_blk_mul ho.right); obtain ⟨oa3, oc3, rfl, _, _, _, _⟩ := own_value ho; clear ho hs)
          | (at_builtin; refine wpList_append_bytes (F := (EF w ⟨1, ty, sz, dl⟩ (.slice da dl.length dc))) rfl _ _ 23 rfl 5 hu infoR _ [1] [ty] rfl (H1.out.alloc' _) _ rfl (isb1k _ _ (by simp) _ _ (rfl) _) (by simp) ?_; intro v2 w2 ho hs; simp only [List.cons_append, List.nil_append] at ho; have H2 := hide ho; have HS2 := hide ((HS1.out.alloc _).trans hs); have r0 : _ = some (vb 1) := cell_of_row _ w.heap.size 0 _ _ _ (on_blk_mul ho.right); have r1 : _ = some (vb ty) := cell_of_row _ w.heap.size 1 _ _ _ (on_blk_mul ho.right); have r2 : _ = some (u32v sz) := cell_of_row _ w.heap.size 2 _ _ _ (on_blk_mul ho.right); have r3 : _ = some (Value.slice da dl.length dc) := cell_of_row _ w.heap.size 3 _ _ _ (on_blk_mul ho.right); obtain ⟨oa2, oc2, rfl, _, _, _, _⟩ := own_value ho; clear ho hs))
        refine wp_region_app 6 [isV (.slice oa5 5 oc5), isV (.pointer (some ⟨w.heap.size, 2, Option.none⟩)), isV (u32v sz), isV (.int .u32 ((sz : Int) / 16777216)), isV (.int .u8 ((sz : Int) / 16777216 % 256)), (fun v X => IsBytes X v [b4 sz 3]), (fun _ _ => True), isV (.pointer (some ⟨w.heap.size, 3, Option.none⟩)), isV (.slice da dl.length dc), isV (.int .i64 ((dl.length : Nat) : Int)), isV (.bool true), (fun _ _ => False), isV (.bool true)]
          [isV (.slice oa5 5 oc5), isV (.pointer (some ⟨w.heap.size, 2, Option.none⟩)), isV (u32v sz), isV (.int .u32 ((sz : Int) / 16777216)), isV (.int .u8 ((sz : Int) / 16777216 % 256)), (fun _ _ => True), (fun v X => (ownR v [1, ty, b4 sz 0, b4 sz 1, b4 sz 2, b4 sz 3] * (EF w ⟨1, ty, sz, dl⟩ (.slice da dl.length dc))).on X), isV (.pointer (some ⟨w.heap.size, 3, Option.none⟩)), isV (.slice da dl.length dc), isV (.int .i64 ((dl.length : Nat) : Int)), isV (.bool true), (fun v X => (ownR v [1, ty, b4 sz 0, b4 sz 1, b4 sz 2, b4 sz 3] * (EF w ⟨1, ty, sz, dl⟩ (.slice da dl.length dc))).on X), isV (.bool true)] _ rfl (by kernel_rfl) (by kernel_rfl) rfl (by decide) (EIv (ownR (.slice oa5 5 oc5) [1, ty, b4 sz 0, b4 sz 1, b4 sz 2]) w ⟨1, ty, sz, dl⟩ (.slice da dl.length dc)) ⟨SP.on.drew H5.out, Str.drew HS5.out⟩ EIv.stay ?keep ?keep2 ?store ?todo ?rest
        case keep => exact ⟨Keep.isV _, Keep.isV _, Keep.isV _, Keep.isV _, Keep.isV _, fun _ _ _ h k => IsBytes.below h k, fun _ _ _ h _ => h, Keep.isV _, Keep.isV _, Keep.isV _, Keep.isV _, fun _ _ _ h _ => h, Keep.isV _, trivial⟩
        case keep2 => exact ⟨Keep.isV _, Keep.isV _, Keep.isV _, Keep.isV _, Keep.isV _, fun _ _ _ h _ => h, fun _ _ _ h k => SP.on.below h k, Keep.isV _, Keep.isV _, Keep.isV _, Keep.isV _, fun _ _ _ h k => SP.on.below h k, Keep.isV _, trivial⟩
        case store =>
          intro ev X hT hb hk hf
          have e0 : ev (.tmp 60) = .slice oa5 5 oc5 := hf.1
          have e1 : IsBytes X (ev (.tmp 65)) [b4 sz 3] := hf.2.1
          refine OpOk.append_bytes (F := (EF w ⟨1, ty, sz, dl⟩ (.slice da dl.length dc))) _ _ _ rfl 5 hu infoR _ [1, ty, b4 sz 0, b4 sz 1, b4 sz 2] [b4 sz 3] e0 hT.1 e1 (by simp) ?_
          intro v' X2 ho hs
          simp only [List.cons_append, List.nil_append] at ho
          refine ⟨⟨ho.right, hT.2.trans hs⟩, ho, ?_⟩
          intro i his hv
          match i, his, hv with
          | 0, _, hv => exact hv
          | 1, _, hv => exact hv
          | 2, _, hv => exact hv
          | 3, _, hv => exact hv
          | 4, _, hv => exact hv
          | 5, _, _ => exact trivial
          | 6, h, _ => exact absurd rfl h
          | 7, _, hv => exact hv
          | 8, _, hv => exact hv
          | 9, _, hv => exact hv
          | 10, _, hv => exact hv
          | 11, _, hv => exact hv.elim
          | 12, _, hv => exact hv
          | n + 13, _, _ => exact trivial
        case todo =>
          refine ⟨?_, ?_, ?_, ?_, ?_, ?_, ?_, ?_, ?_, ?_, ?_, ?_, ?_, trivial⟩
          · intro _ ph h1 h2
            obtain rfl : ph = false := h2 (by kernel_rfl)
            intro ev X hT hb hk hf
            have e0 : ev (.tmp 4) = .slice oa5 5 oc5 := hk.1
            exact OpOk.move rfl e0 ⟨rfl, Stay.refl _⟩
          · intro _ ph h1 h2
            cases ph
            all_goals
              intro ev X hT hb hk hf
              have e0 : ev (.tmp 1) = .pointer (some ⟨w.heap.size, 0, Option.none⟩) := hk.1
              exact OpOk.run (v := .pointer (some ⟨w.heap.size, 2, Option.none⟩)) (W' := X) (by simp [execOp, e0, hb.1, go_sem]) ⟨rfl, Stay.refl _⟩
          · intro _ ph h1 h2
            cases ph
            all_goals
              intro ev X hT hb hk hf
              have e0 : ev (.tmp 61) = .pointer (some ⟨w.heap.size, 2, Option.none⟩) := hf.1
              have cW := EIv.cell hT 2 rfl
              exact OpOk.run (v := u32v sz) (W' := X) (by simp [execOp, e0, cW, go_sem]) ⟨rfl, Stay.refl _⟩
          · intro _ ph h1 h2
            cases ph
            all_goals
              intro ev X hT hb hk hf
              have e0 : ev (.tmp 62) = u32v sz := hf.1
              exact OpOk.run (v := .int .u32 ((sz : Int) / 16777216)) (W' := X) (by simp [execOp, e0, hb.1, go_sem]) ⟨rfl, Stay.refl _⟩
          · intro _ ph h1 h2
            cases ph
            all_goals
              intro ev X hT hb hk hf
              have e0 : ev (.tmp 63) = .int .u32 ((sz : Int) / 16777216) := hf.1
              exact OpOk.run (v := .int .u8 ((sz : Int) / 16777216 % 256)) (W' := X) (by simp [execOp, e0, hb.1, go_sem, IntKind.wrap_u8]) ⟨rfl, Stay.refl _⟩
          · intro _ ph h1 h2
            obtain rfl : ph = false := h2 (by kernel_rfl)
            intro ev X hT hb hk hf
            have e0 : ev (.tmp 64) = .int .u8 ((sz : Int) / 16777216 % 256) := hf.1
            exact OpOk.run (v := .slice (some ⟨X.heap.size, 0, Option.none⟩) 1 1) (W' := X.alloc (.cells #[.int .u8 ((sz : Int) / 16777216 % 256)] 5)) (by simp [execOp, e0, go_sem]) ⟨isb1 _ _ _ (b4v3 _) _, (Below.refl _ _).alloc (Nat.le_refl _) _⟩
          · exact fun h => absurd rfl h
          · intro _ ph h1 h2
            cases ph
            all_goals
              intro ev X hT hb hk hf
              have e0 : ev (.tmp 1) = .pointer (some ⟨w.heap.size, 0, Option.none⟩) := hk.1
              exact OpOk.run (v := .pointer (some ⟨w.heap.size, 3, Option.none⟩)) (W' := X) (by simp [execOp, e0, hb.1, go_sem]) ⟨rfl, Stay.refl _⟩
          · intro _ ph h1 h2
            cases ph
            all_goals
              intro ev X hT hb hk hf
              have e0 : ev (.tmp 67) = .pointer (some ⟨w.heap.size, 3, Option.none⟩) := hf.1
              have cW := EIv.cell hT 3 rfl
              exact OpOk.run (v := .slice da dl.length dc) (W' := X) (by simp [execOp, e0, cW, go_sem]) ⟨rfl, Stay.refl _⟩
          · intro _ ph h1 h2
            cases ph
            all_goals
              intro ev X hT hb hk hf
              have e0 : ev (.tmp 68) = .slice da dl.length dc := hf.1
              exact OpOk.run (v := .int .i64 ((dl.length : Nat) : Int)) (W' := X) (by simp [execOp, e0, hb.1, go_sem]) ⟨rfl, Stay.refl _⟩
          · intro _ ph h1 h2
            cases ph
            all_goals
              intro ev X hT hb hk hf
              have e0 : ev (.tmp 69) = .int .i64 ((dl.length : Nat) : Int) := hf.1
              exact OpOk.run (v := .bool true) (W' := X) (by simp [execOp, e0, hb.1, D0, go_sem]) ⟨rfl, Stay.refl _⟩
          · intro _ ph h1 h2
            obtain rfl : ph = true := h1 (by kernel_rfl)
            intro ev X hT hb hk hf
            have e0 := hf.1
            exact OpOk.assign rfl rfl ⟨e0, Stay.refl _⟩
          · intro _ ph h1 h2
            obtain rfl : ph = true := h1 (by kernel_rfl)
            intro ev X hT hb hk hf
            have e0 : ev (.tmp 70) = .bool true := hf.1
            exact OpOk.assign rfl e0 ⟨rfl, Stay.refl _⟩
        case rest =>
          intro X hT
          rintro _ rfl _ rfl _ rfl _ rfl _ rfl _ - _ - _ rfl _ rfl _ rfl _ rfl vo ho _ rfl
          obtain ⟨xa, xc, rfl, _, _, _, _⟩ := own_value ho
          have HO := hide ho
          have HST := hide hT
          clear ho hT
          go_wp2
          refine Rest.done ?_
          go_wp2_with fail
          go_ret2
          exact ⟨_, rfl, fun _ => by rw [EB.out]; exact own_bytes HO.out, all_below HST.out.1.right HST.out.2⟩
      · have hk2 : decide (dl.length = 0) = false := decide_eq_false (fun h => pd h)
        rw [hk2]
        clear hk2
        have T0 : (((ty.toNat : Nat) : Int) == 0) = true := by rw [pt]; rfl
        have S0 : ((sz : Int) == 0) = true := by rw [ps]; rfl
        have D0 : ((dl.length : Int) == 0) = false := by rw [beq_eq_false_iff_ne]; omega
        have DG : decide (0 < dl.length) = true := decide_eq_true (by omega)
        clear hEB
        clear pt
        clear ps
        clear pd
        go_enter Try.func23, Try.ntmps23
        go_wp2_with (first
          | (at_builtin; refine wpList_append_bytes (F := (EF w ⟨1, ty, sz, dl⟩ (.slice da dl.length dc))) rfl _ _ 23 rfl 5 hu infoR _ [1, ty, b4 sz 0, b4 sz 1] [b4 sz 2] rfl (H4.out.alloc' _) _ rfl (isb1k _ _ (by simp) _ _ (by first | exact b4v2 _ | simp [vb, b4_toNat]) _) (by simp) ?_; intro v5 w5 ho hs; simp only [List.cons_append, List.nil_append] at ho; have H5 := hide ho; have HS5 := hide ((HS4.out.alloc _).trans hs); have r0 : _ = some (vb 1) := cell_of_row _ w.heap.size 0 _ _ _ (on_blk_mul ho.right); have r1 : _ = some (vb ty) := cell_of_row _ w.heap.size 1 _ _ _ (on_blk_mul ho.right); have r2 : _ = some (u32v sz) := cell_of_row _ w.heap.size 2 _ _ _ (on_blk_mul ho.right); have r3 : _ = some (Value.slice da dl.length dc) := cell_of_row _ w.heap.size 3 _ _ _ (on_blk_mul ho.right); obtain ⟨oa5, oc5, rfl, _, _, _, _⟩ := own_value ho; clear ho hs)
          | (at_builtin; refine wpList_append_bytes (F := (EF w ⟨1, ty, sz, dl⟩ (.slice da dl.length dc))) rfl _ _ 23 rfl 5 hu infoR _ [1, ty, b4 sz 0] [b4 sz 1] rfl (H3.out.alloc' _) _ rfl (isb1k _ _ (by simp) _ _ (by first | exact b4v1 _ | simp [vb, b4_toNat]) _) (by simp) ?_; intro v4 w4 ho hs; simp only [List.cons_append, List.nil_append] at ho; have H4 := hide ho; have HS4 := hide ((HS3.out.alloc _).trans hs); have r0 : _ = some (vb 1) := cell_of_row _ w.heap.size 0 _ _ _ (on_blk_mul ho.right); have r1 : _ = some (vb ty) := cell_of_row _ w.heap.size 1 _ _ _ (on_blk_mul ho.right); have r2 : _ = some (u32v sz) := cell_of_row _ w.heap.size 2 _ _ _ (on_blk_mul ho.right); have r3 : _ = some (Value.slice da dl.length dc) := cell_of_row _ w.heap.size 3 _ _ _ (on_blk_mul ho.right); obtain ⟨oa4, oc4, rfl, _, _, _, _⟩ := own_value ho; clear ho hs)
          | (at_builtin; refine wpList_append_bytes (F := (EF w ⟨1, ty, sz, dl⟩ (.slice da dl.length dc))) rfl _ _ 23 rfl 5 hu infoR _ [1, ty] [b4 sz 0] rfl (H2.out.alloc' _) _ rfl (isb1k _ _ (by simp) _ _ (by first | exact b4v0 _ | simp [vb, b4_toNat]) _) (by simp) ?_; intro v3 w3 ho hs; simp only [List.cons_append, List.nil_append] at ho; have H3 := hide ho; have HS3 := hide ((HS2.out.alloc _).trans hs); have r0 : _ = some (vb 1) := cell_of_row _ w.heap.size 0 _ _ _ (on_blk_mul ho.right); have r1 : _ = some (vb ty) := cell_of_row _ w.heap.size 1 _ _ _ (on_blk_mul ho.right); have r2 : _ = some (u32v sz) := cell_of_row _ w.heap.size 2 _ _ _ (on_blk_mul ho.right); have r3 : _ = some (Value.slice da dl.length dc) := cell_of_row _ w.heap.size 3 _ _ _ (on_blk_mul ho.right); obtain ⟨oa3, oc3, rfl, _, _, _, _⟩ := own_value ho; clear ho hs)
          | (at_builtin; refine wpList_append_bytes (F := (EF w ⟨1, ty, sz, dl⟩ (.slice da dl.length dc))) rfl _ _ 23 rfl 5 hu infoR _ [1] [ty] rfl (H1.out.alloc' _) _ rfl (isb1k _ _ (by simp) _ _ (rfl) _) (by simp) ?_; intro v2 w2 ho hs; simp only [List.cons_append, List.nil_append] at ho; have H2 := hide ho; have HS2 := hide ((HS1.out.alloc _).trans hs); have r0 : _ = some (vb 1) := cell_of_row _ w.heap.size 0 _ _ _ (on_blk_mul ho.right); have r1 : _ = some (vb ty) := cell_of_row _ w.heap.size 1 _ _ _ (on_blk_mul ho.right); have r2 : _ = some (u32v sz) := cell_of_row _ w.heap.size 2 _ _ _ (on_blk_mul ho.right); have r3 : _ = some (Value.slice da dl.length dc) := cell_of_row _ w.heap.size 3 _ _ _ (on_blk_mul ho.right); obtain ⟨oa2, oc2, rfl, _, _, _, _⟩ := own_value ho; clear ho hs))
        refine wp_region_app 6 [isV (.slice oa5 5 oc5), isV (.pointer (some ⟨w.heap.size, 2, Option.none⟩)), isV (u32v sz), isV (.int .u32 ((sz : Int) / 16777216)), isV (.int .u8 ((sz : Int) / 16777216 % 256)), (fun v X => IsBytes X v [b4 sz 3]), (fun _ _ => True), isV (.pointer (some ⟨w.heap.size, 3, Option.none⟩)), isV (.slice da dl.length dc), isV (.int .i64 ((dl.length : Nat) : Int)), isV (.bool false), (fun _ _ => False), isV (.bool false)]
          [isV (.slice oa5 5 oc5), isV (.pointer (some ⟨w.heap.size, 2, Option.none⟩)), isV (u32v sz), isV (.int .u32 ((sz : Int) / 16777216)), isV (.int .u8 ((sz : Int) / 16777216 % 256)), (fun _ _ => True), (fun v X => (ownR v [1, ty, b4 sz 0, b4 sz 1, b4 sz 2, b4 sz 3] * (EF w ⟨1, ty, sz, dl⟩ (.slice da dl.length dc))).on X), isV (.pointer (some ⟨w.heap.size, 3, Option.none⟩)), isV (.slice da dl.length dc), isV (.int .i64 ((dl.length : Nat) : Int)), isV (.bool false), (fun v X => (ownR v [1, ty, b4 sz 0, b4 sz 1, b4 sz 2, b4 sz 3] * (EF w ⟨1, ty, sz, dl⟩ (.slice da dl.length dc))).on X), isV (.bool false)] _ rfl (by kernel_rfl) (by kernel_rfl) rfl (by decide) (EIv (ownR (.slice oa5 5 oc5) [1, ty, b4 sz 0, b4 sz 1, b4 sz 2]) w ⟨1, ty, sz, dl⟩ (.slice da dl.length dc)) ⟨SP.on.drew H5.out, Str.drew HS5.out⟩ EIv.stay ?keep ?keep2 ?store ?todo ?rest
        case keep => exact ⟨Keep.isV _, Keep.isV _, Keep.isV _, Keep.isV _, Keep.isV _, fun _ _ _ h k => IsBytes.below h k, fun _ _ _ h _ => h, Keep.isV _, Keep.isV _, Keep.isV _, Keep.isV _, fun _ _ _ h _ => h, Keep.isV _, trivial⟩
        case keep2 => exact ⟨Keep.isV _, Keep.isV _, Keep.isV _, Keep.isV _, Keep.isV _, fun _ _ _ h _ => h, fun _ _ _ h k => SP.on.below h k, Keep.isV _, Keep.isV _, Keep.isV _, Keep.isV _, fun _ _ _ h k => SP.on.below h k, Keep.isV _, trivial⟩
        case store =>
          intro ev X hT hb hk hf
          have e0 : ev (.tmp 60) = .slice oa5 5 oc5 := hf.1
          have e1 : IsBytes X (ev (.tmp 65)) [b4 sz 3] := hf.2.1
          refine OpOk.append_bytes (F := (EF w ⟨1, ty, sz, dl⟩ (.slice da dl.length dc))) _ _ _ rfl 5 hu infoR _ [1, ty, b4 sz 0, b4 sz 1, b4 sz 2] [b4 sz 3] e0 hT.1 e1 (by simp) ?_
          intro v' X2 ho hs
          simp only [List.cons_append, List.nil_append] at ho
          refine ⟨⟨ho.right, hT.2.trans hs⟩, ho, ?_⟩
          intro i his hv
          match i, his, hv with
          | 0, _, hv => exact hv
          | 1, _, hv => exact hv
          | 2, _, hv => exact hv
          | 3, _, hv => exact hv
          | 4, _, hv => exact hv
          | 5, _, _ => exact trivial
          | 6, h, _ => exact absurd rfl h
          | 7, _, hv => exact hv
          | 8, _, hv => exact hv
          | 9, _, hv => exact hv
          | 10, _, hv => exact hv
          | 11, _, hv => exact hv.elim
          | 12, _, hv => exact hv
          | n + 13, _, _ => exact trivial
        case todo =>
          refine ⟨?_, ?_, ?_, ?_, ?_, ?_, ?_, ?_, ?_, ?_, ?_, ?_, ?_, trivial⟩
          · intro _ ph h1 h2
            obtain rfl : ph = false := h2 (by kernel_rfl)
            intro ev X hT hb hk hf
            have e0 : ev (.tmp 4) = .slice oa5 5 oc5 := hk.1
            exact OpOk.move rfl e0 ⟨rfl, Stay.refl _⟩
          · intro _ ph h1 h2
            cases ph
            all_goals
              intro ev X hT hb hk hf
              have e0 : ev (.tmp 1) = .pointer (some ⟨w.heap.size, 0, Option.none⟩) := hk.1
              exact OpOk.run (v := .pointer (some ⟨w.heap.size, 2, Option.none⟩)) (W' := X) (by simp [execOp, e0, hb.1, go_sem]) ⟨rfl, Stay.refl _⟩
          · intro _ ph h1 h2
            cases ph
            all_goals
              intro ev X hT hb hk hf
              have e0 : ev (.tmp 61) = .pointer (some ⟨w.heap.size, 2, Option.none⟩) := hf.1
              have cW := EIv.cell hT 2 rfl
              exact OpOk.run (v := u32v sz) (W' := X) (by simp [execOp, e0, cW, go_sem]) ⟨rfl, Stay.refl _⟩
          · intro _ ph h1 h2
            cases ph
            all_goals
              intro ev X hT hb hk hf
              have e0 : ev (.tmp 62) = u32v sz := hf.1
              exact OpOk.run (v := .int .u32 ((sz : Int) / 16777216)) (W' := X) (by simp [execOp, e0, hb.1, go_sem]) ⟨rfl, Stay.refl _⟩
          · intro _ ph h1 h2
            cases ph
            all_goals
              intro ev X hT hb hk hf
              have e0 : ev (.tmp 63) = .int .u32 ((sz : Int) / 16777216) := hf.1
              exact OpOk.run (v := .int .u8 ((sz : Int) / 16777216 % 256)) (W' := X) (by simp [execOp, e0, hb.1, go_sem, IntKind.wrap_u8]) ⟨rfl, Stay.refl _⟩
          · intro _ ph h1 h2
            obtain rfl : ph = false := h2 (by kernel_rfl)
            intro ev X hT hb hk hf
            have e0 : ev (.tmp 64) = .int .u8 ((sz : Int) / 16777216 % 256) := hf.1
            exact OpOk.run (v := .slice (some ⟨X.heap.size, 0, Option.none⟩) 1 1) (W' := X.alloc (.cells #[.int .u8 ((sz : Int) / 16777216 % 256)] 5)) (by simp [execOp, e0, go_sem]) ⟨isb1 _ _ _ (b4v3 _) _, (Below.refl _ _).alloc (Nat.le_refl _) _⟩
          · exact fun h => absurd rfl h
          · intro _ ph h1 h2
            cases ph
            all_goals
              intro ev X hT hb hk hf
              have e0 : ev (.tmp 1) = .pointer (some ⟨w.heap.size, 0, Option.none⟩) := hk.1
              exact OpOk.run (v := .pointer (some ⟨w.heap.size, 3, Option.none⟩)) (W' := X) (by simp [execOp, e0, hb.1, go_sem]) ⟨rfl, Stay.refl _⟩
          · intro _ ph h1 h2
            cases ph
            all_goals
              intro ev X hT hb hk hf
              have e0 : ev (.tmp 67) = .pointer (some ⟨w.heap.size, 3, Option.none⟩) := hf.1
              have cW := EIv.cell hT 3 rfl
              exact OpOk.run (v := .slice da dl.length dc) (W' := X) (by simp [execOp, e0, cW, go_sem]) ⟨rfl, Stay.refl _⟩
          · intro _ ph h1 h2
            cases ph
            all_goals
              intro ev X hT hb hk hf
              have e0 : ev (.tmp 68) = .slice da dl.length dc := hf.1
              exact OpOk.run (v := .int .i64 ((dl.length : Nat) : Int)) (W' := X) (by simp [execOp, e0, hb.1, go_sem]) ⟨rfl, Stay.refl _⟩
          · intro _ ph h1 h2
            cases ph
            all_goals
              intro ev X hT hb hk hf
              have e0 : ev (.tmp 69) = .int .i64 ((dl.length : Nat) : Int) := hf.1
              exact OpOk.run (v := .bool false) (W' := X) (by simp [execOp, e0, hb.1, D0, go_sem]) ⟨rfl, Stay.refl _⟩
          · intro _ ph h1 h2
            obtain rfl : ph = true := h1 (by kernel_rfl)
            intro ev X hT hb hk hf
            have e0 := hf.1
            exact OpOk.assign rfl rfl ⟨e0, Stay.refl _⟩
          · intro _ ph h1 h2
            obtain rfl : ph = true := h1 (by kernel_rfl)
            intro ev X hT hb hk hf
            have e0 : ev (.tmp 70) = .bool false := hf.1
            exact OpOk.assign rfl e0 ⟨rfl, Stay.refl _⟩
        case rest =>
          intro X hT
          rintro _ rfl _ rfl _ rfl _ rfl _ rfl _ - _ - _ rfl _ rfl _ rfl _ rfl vo ho _ rfl
          obtain ⟨xa, xc, rfl, _, _, _, _⟩ := own_value ho
          have HO := hide ho
          have HST := hide hT
          clear ho hT
          go_wp2
          refine Rest.done ?_
          go_wp2_with fail
          go_ret2
          exact ⟨_, rfl, (fun h => by cases h), all_below HST.out.1.right HST.out.2⟩
    · by_cases pd : dl.length = 0
      · have hk2 : decide (dl.length = 0) = true := decide_eq_true pd
        rw [hk2]
        clear hk2
        have T0 : (((ty.toNat : Nat) : Int) == 0) = true := by rw [pt]; rfl
        have S0 : ((sz : Int) == 0) = false := by rw [beq_eq_false_iff_ne]; omega
        have D0 : ((dl.length : Int) == 0) = true := by rw [pd]; rfl
        have DG : decide (0 < dl.length) = false := decide_eq_false (by omega)
        have EB := hide (hEB pd)
        clear hEB
        clear pt
        clear ps
        clear pd
        go_enter Try.func23, Try.ntmps23
        go_wp2_with (first
          | (at_builtin; refine wpList_append_bytes (F := (EF w ⟨1, ty, sz, dl⟩ (.slice da dl.length dc))) rfl _ _ 23 rfl 5 hu infoR _ [1, ty, b4 sz 0, b4 sz 1] [b4 sz 2] rfl (H4.out.alloc' _) _ rfl (isb1k _ _ (by simp) _ _ (by first | exact b4v2 _ | simp [vb, b4_toNat]) _) (by simp) ?_; intro v5 w5 ho hs; simp only [List.cons_append, List.nil_append] at ho; have H5 := hide ho; have HS5 := hide ((HS4.out.alloc _).trans hs); have r0 : _ = some (vb 1) := cell_of_row _ w.heap.size 0 _ _ _ (on_blk_mul ho.right); have r1 : _ = some (vb ty) := cell_of_row _ w.heap.size 1 _ _ _ (on_blk_mul ho.right); have r2 : _ = some (u32v sz) := cell_of_row _ w.heap.size 2 _ _ _ (on_blk_mul ho.right); have r3 : _ = some (Value.slice da dl.length dc) := cell_of_row _ w.heap.size 3 _ _ _ (on_blk_mul ho.right); obtain ⟨oa5, oc5, rfl, _, _, _, _⟩ := own_value ho; clear ho hs)
          | (at_builtin; refine wpList_append_bytes (F := (EF w ⟨1, ty, sz, dl⟩ (.slice da dl.length dc))) rfl _ _ 23 rfl 5 hu infoR _ [1, ty, b4 sz 0] [b4 sz 1] rfl (H3.out.alloc' _) _ rfl (isb1k _ _ (by simp) _ _ (by first | exact b4v1 _ | simp [vb, b4_toNat]) _) (by simp) ?_; intro v4 w4 ho hs; simp only [List.cons_append, List.nil_append] at ho; have H4 := hide ho; have HS4 := hide ((HS3.out.alloc _).trans hs); have r0 : _ = some (vb 1) := cell_of_row _ w.heap.size 0 _ _ _ (on_blk_mul ho.right); have r1 : _ = some (vb ty) := cell_of_row _ w.heap.size 1 _ _ _ (on_blk_mul ho.right); have r2 : _ = some (u32v sz) := cell_of_row _ w.heap.size 2 _ _ _ (on_blk_mul ho.right); have r3 : _ = some (Value.slice da dl.length dc) := cell_of_row _ w.heap.size 3 _ _ _ (on_blk_mul ho.right); obtain ⟨oa4, oc4, rfl, _, _, _, _⟩ := own_value ho; clear ho hs)
          | (at_builtin; refine wpList_append_bytes (F := (EF w ⟨1, ty, sz, dl⟩ (.slice da dl.length dc))) rfl _ _ 23 rfl 5 hu infoR _ [1, ty] [b4 sz 0] rfl (H2.out.alloc' _) _ rfl (isb1k _ _ (by simp) _ _ (by first | exact b4v0 _ | simp [vb, b4_toNat]) _) (by simp) ?_; intro v3 w3 ho hs; simp only [List.cons_append, List.nil_append] at ho; have H3 := hide ho; have HS3 := hide ((HS2.out.alloc _).trans hs); have r0 : _ = some (vb 1) := cell_of_row _ w.heap.size 0 _ _ _ (on_blk_mul ho.right); have r1 : _ = some (vb ty) := cell_of_row _ w.heap.size 1 _ _ _ (on_blk_mul ho.right); have r2 : _ = some (u32v sz) := cell_of_row _ w.heap.size 2 _ _ _ (on_blk_mul ho.right); have r3 : _ = some (Value.slice da dl.length dc) := cell_of_row _ w.heap.size 3 _ _ _ (on_blk_mul ho.right); obtain ⟨oa3, oc3, rfl, _, _, _, _⟩ := own_value ho; clear ho hs)
          | (at_builtin; refine wpList_append_bytes (F := (EF w ⟨1, ty, sz, dl⟩ (.slice da dl.length dc))) rfl _ _ 23 rfl 5 hu infoR _ [1] [ty] rfl (H1.out.alloc' _) _ rfl (isb1k _ _ (by simp) _ _ (rfl) _) (by simp) ?_; intro v2 w2 ho hs; simp only [List.cons_append, List.nil_append] at ho; have H2 := hide ho; have HS2 := hide ((HS1.out.alloc _).trans hs); have r0 : _ = some (vb 1) := cell_of_row _ w.heap.size 0 _ _ _ (on_blk_mul ho.right); have r1 : _ = some (vb ty) := cell_of_row _ w.heap.size 1 _ _ _ (on_blk_mul ho.right); have r2 : _ = some (u32v sz) := cell_of_row _ w.heap.size 2 _ _ _ (on_blk_mul ho.right); have r3 : _ = some (Value.slice da dl.length dc) := cell_of_row _ w.heap.size 3 _ _ _ (on_blk_mul ho.right); obtain ⟨oa2, oc2, rfl, _, _, _, _⟩ := own_value ho; clear ho hs))
        refine wp_region_app 6 [isV (.slice oa5 5 oc5), isV (.pointer (some ⟨w.heap.size, 2, Option.none⟩)), isV (u32v sz), isV (.int .u32 ((sz : Int) / 16777216)), isV (.int .u8 ((sz : Int) / 16777216 % 256)), (fun v X => IsBytes X v [b4 sz 3]), (fun _ _ => True), isV (.pointer (some ⟨w.heap.size, 3, Option.none⟩)), isV (.slice da dl.length dc), isV (.int .i64 ((dl.length : Nat) : Int)), isV (.bool true), (fun _ _ => False), isV (.bool true)]
          [isV (.slice oa5 5 oc5), isV (.pointer (some ⟨w.heap.size, 2, Option.none⟩)), isV (u32v sz), isV (.int .u32 ((sz : Int) / 16777216)), isV (.int .u8 ((sz : Int) / 16777216 % 256)), (fun _ _ => True), (fun v X => (ownR v [1, ty, b4 sz 0, b4 sz 1, b4 sz 2, b4 sz 3] * (EF w ⟨1, ty, sz, dl⟩ (.slice da dl.length dc))).on X), isV (.pointer (some ⟨w.heap.size, 3, Option.none⟩)), isV (.slice da dl.length dc), isV (.int .i64 ((dl.length : Nat) : Int)), isV (.bool true), (fun v X => (ownR v [1, ty, b4 sz 0, b4 sz 1, b4 sz 2, b4 sz 3] * (EF w ⟨1, ty, sz, dl⟩ (.slice da dl.length dc))).on X), isV (.bool true)] _ rfl (by kernel_rfl) (by kernel_rfl) rfl (by decide) (EIv (ownR (.slice oa5 5 oc5) [1, ty, b4 sz 0, b4 sz 1, b4 sz 2]) w ⟨1, ty, sz, dl⟩ (.slice da dl.length dc)) ⟨SP.on.drew H5.out, Str.drew HS5.out⟩ EIv.stay ?keep ?keep2 ?store ?todo ?rest
        case keep => exact ⟨Keep.isV _, Keep.isV _, Keep.isV _, Keep.isV _, Keep.isV _, fun _ _ _ h k => IsBytes.below h k, fun _ _ _ h _ => h, Keep.isV _, Keep.isV _, Keep.isV _, Keep.isV _, fun _ _ _ h _ => h, Keep.isV _, trivial⟩
        case keep2 => exact ⟨Keep.isV _, Keep.isV _, Keep.isV _, Keep.isV _, Keep.isV _, fun _ _ _ h _ => h, fun _ _ _ h k => SP.on.below h k, Keep.isV _, Keep.isV _, Keep.isV _, Keep.isV _, fun _ _ _ h k => SP.on.below h k, Keep.isV _, trivial⟩
        case store =>
          intro ev X hT hb hk hf
          have e0 : ev (.tmp 60) = .slice oa5 5 oc5 := hf.1
          have e1 : IsBytes X (ev (.tmp 65)) [b4 sz 3] := hf.2.1
          refine OpOk.append_bytes (F := (EF w ⟨1, ty, sz, dl⟩ (.slice da dl.length dc))) _ _ _ rfl 5 hu infoR _ [1, ty, b4 sz 0, b4 sz 1, b4 sz 2] [b4 sz 3] e0 hT.1 e1 (by simp) ?_
          intro v' X2 ho hs
          simp only [List.cons_append, List.nil_append] at ho
          refine ⟨⟨ho.right, hT.2.trans hs⟩, ho, ?_⟩
          intro i his hv
          match i, his, hv with
          | 0, _, hv => exact hv
          | 1, _, hv => exact hv
          | 2, _, hv => exact hv
          | 3, _, hv => exact hv
          | 4, _, hv => exact hv
          | 5, _, _ => exact trivial
          | 6, h, _ => exact absurd rfl h
          | 7, _, hv => exact hv
          | 8, _, hv => exact hv
          | 9, _, hv => exact hv
          | 10, _, hv => exact hv
          | 11, _, hv => exact hv.elim
          | 12, _, hv => exact hv
          | n + 13, _, _ => exact trivial
        case todo =>
          refine ⟨?_, ?_, ?_, ?_, ?_, ?_, ?_, ?_, ?_, ?_, ?_, ?_, ?_, trivial⟩
          · intro _ ph h1 h2
            obtain rfl : ph = false := h2 (by kernel_rfl)
            intro ev X hT hb hk hf
            have e0 : ev (.tmp 4) = .slice oa5 5 oc5 := hk.1
            exact OpOk.move rfl e0 ⟨rfl, Stay.refl _⟩
          · intro _ ph h1 h2
            cases ph
            all_goals
              intro ev X hT hb hk hf
              have e0 : ev (.tmp 1) = .pointer (some ⟨w.heap.size, 0, Option.none⟩) := hk.1
              exact OpOk.run (v := .pointer (some ⟨w.heap.size, 2, Option.none⟩)) (W' := X) (by simp [execOp, e0, hb.1, go_sem]) ⟨rfl, Stay.refl _⟩
          · intro _ ph h1 h2
            cases ph
            all_goals
              intro ev X hT hb hk hf
              have e0 : ev (.tmp 61) = .pointer (some ⟨w.heap.size, 2, Option.none⟩) := hf.1
              have cW := EIv.cell hT 2 rfl
              exact OpOk.run (v := u32v sz) (W' := X) (by simp [execOp, e0, cW, go_sem]) ⟨rfl, Stay.refl _⟩
          · intro _ ph h1 h2
            cases ph
            all_goals
              intro ev X hT hb hk hf
              have e0 : ev (.tmp 62) = u32v sz := hf.1
              exact OpOk.run (v := .int .u32 ((sz : Int) / 16777216)) (W' := X) (by simp [execOp, e0, hb.1, go_sem]) ⟨rfl, Stay.refl _⟩
          · intro _ ph h1 h2
            cases ph
            all_goals
              intro ev X hT hb hk hf
              have e0 : ev (.tmp 63) = .int .u32 ((sz : Int) / 16777216) := hf.1
              exact OpOk.run (v := .int .u8 ((sz : Int) / 16777216 % 256)) (W' := X) (by simp [execOp, e0, hb.1, go_sem, IntKind.wrap_u8]) ⟨rfl, Stay.refl _⟩
          · intro _ ph h1 h2
            obtain rfl : ph = false := h2 (by kernel_rfl)
            intro ev X hT hb hk hf
            have e0 : ev (.tmp 64) = .int .u8 ((sz : Int) / 16777216 % 256) := hf.1
            exact OpOk.run (v := .slice (some ⟨X.heap.size, 0, Option.none⟩) 1 1) (W' := X.alloc (.cells #[.int .u8 ((sz : Int) / 16777216 % 256)] 5)) (by simp [execOp, e0, go_sem]) ⟨isb1 _ _ _ (b4v3 _) _, (Below.refl _ _).alloc (Nat.le_refl _) _⟩
          · exact fun h => absurd rfl h
          · intro _ ph h1 h2
            cases ph
            all_goals
              intro ev X hT hb hk hf
              have e0 : ev (.tmp 1) = .pointer (some ⟨w.heap.size, 0, Option.none⟩) := hk.1
              exact OpOk.run (v := .pointer (some ⟨w.heap.size, 3, Option.none⟩)) (W' := X) (by simp [execOp, e0, hb.1, go_sem]) ⟨rfl, Stay.refl _⟩
          · intro _ ph h1 h2
            cases ph
            all_goals
              intro ev X hT hb hk hf
              have e0 : ev (.tmp 67) = .pointer (some ⟨w.heap.size, 3, Option.none⟩) := hf.1
              have cW := EIv.cell hT 3 rfl
              exact OpOk.run (v := .slice da dl.length dc) (W' := X) (by simp [execOp, e0, cW, go_sem]) ⟨rfl, Stay.refl _⟩
          · intro _ ph h1 h2
            cases ph
            all_goals
              intro ev X hT hb hk hf
              have e0 : ev (.tmp 68) = .slice da dl.length dc := hf.1
              exact OpOk.run (v := .int .i64 ((dl.length : Nat) : Int)) (W' := X) (by simp [execOp, e0, hb.1, go_sem]) ⟨rfl, Stay.refl _⟩
          · intro _ ph h1 h2
            cases ph
            all_goals
              intro ev X hT hb hk hf
              have e0 : ev (.tmp 69) = .int .i64 ((dl.length : Nat) : Int) := hf.1
              exact OpOk.run (v := .bool true) (W' := X) (by simp [execOp, e0, hb.1, D0, go_sem]) ⟨rfl, Stay.refl _⟩
          · intro _ ph h1 h2
            obtain rfl : ph = true := h1 (by kernel_rfl)
            intro ev X hT hb hk hf
            have e0 := hf.1
            exact OpOk.assign rfl rfl ⟨e0, Stay.refl _⟩
          · intro _ ph h1 h2
            obtain rfl : ph = true := h1 (by kernel_rfl)
            intro ev X hT hb hk hf
            have e0 : ev (.tmp 70) = .bool true := hf.1
            exact OpOk.assign rfl e0 ⟨rfl, Stay.refl _⟩
        case rest =>
          intro X hT
          rintro _ rfl _ rfl _ rfl _ rfl _ rfl _ - _ - _ rfl _ rfl _ rfl _ rfl vo ho _ rfl
          obtain ⟨xa, xc, rfl, _, _, _, _⟩ := own_value ho
          have HO := hide ho
          have HST := hide hT
          clear ho hT
          go_wp2
          refine Rest.done ?_
          go_wp2_with fail
          go_ret2
          exact ⟨_, rfl, fun _ => by rw [EB.out]; exact own_bytes HO.out, all_below HST.out.1.right HST.out.2⟩
      · have hk2 : decide (dl.length = 0) = false := decide_eq_false (fun h => pd h)
        rw [hk2]
        clear hk2
        have T0 : (((ty.toNat : Nat) : Int) == 0) = true := by rw [pt]; rfl
        have S0 : ((sz : Int) == 0) = false := by rw [beq_eq_false_iff_ne]; omega
        have D0 : ((dl.length : Int) == 0) = false := by rw [beq_eq_false_iff_ne]; omega
        have DG : decide (0 < dl.length) = true := decide_eq_true (by omega)
        clear hEB
        clear pt
        clear ps
        clear pd
        go_enter Try.func23, Try.ntmps23
        go_wp2_with (first
          | (at_builtin; refine wpList_append_bytes (F := (EF w ⟨1, ty, sz, dl⟩ (.slice da dl.length dc))) rfl _ _ 23 rfl 5 hu infoR _ [1, ty, b4 sz 0, b4 sz 1] [b4 sz 2] rfl (H4.out.alloc' _) _ rfl (isb1k _ _ (by simp) _ _ (by first | exact b4v2 _ | simp [vb, b4_toNat]) _) (by simp) ?_; intro v5 w5 ho hs; simp only [List.cons_append, List.nil_append] at ho; have H5 := hide ho; have HS5 := hide ((HS4.out.alloc _).trans hs); have r0 : _ = some (vb 1) := cell_of_row _ w.heap.size 0 _ _ _ (on_blk_mul ho.right); have r1 : _ = some (vb ty) := cell_of_row _ w.heap.size 1 _ _ _ (on_blk_mul ho.right); have r2 : _ = some (u32v sz) := cell_of_row _ w.heap.size 2 _ _ _ (on_blk_mul ho.right); have r3 : _ = some (Value.slice da dl.length dc) := cell_of_row _ w.heap.size 3 _ _ _ (on_blk_mul ho.right); obtain ⟨oa5, oc5, rfl, _, _, _, _⟩ := own_value ho; clear ho hs)
          | (at_builtin; refine wpList_append_bytes (F := (EF w ⟨1, ty, sz, dl⟩ (.slice da dl.length dc))) rfl _ _ 23 rfl 5 hu infoR _ [1, ty, b4 sz 0] [b4 sz 1] rfl (H3.out.alloc' _) _ rfl (isb1k _ _ (by simp) _ _ (by first | exact b4v1 _ | simp [vb, b4_toNat]) _) (by simp) ?_; intro v4 w4 ho hs; simp only [List.cons_append, List.nil_append] at ho; have H4 := hide ho; have HS4 := hide ((HS3.out.alloc _).trans hs); have r0 : _ = some (vb 1) := cell_of_row _ w.heap.size 0 _ _ _ (on_blk_mul ho.right); have r1 : _ = some (vb ty) := cell_of_row _ w.heap.size 1 _ _ _ (on_blk_mul ho.right); have r2 : _ = some (u32v sz) := cell_of_row _ w.heap.size 2 _ _ _ (on_blk_mul ho.right); have r3 : _ = some (Value.slice da dl.length dc) := cell_of_row _ w.heap.size 3 _ _ _ (on_blk_mul ho.right); obtain ⟨oa4, oc4, rfl, _, _, _, _⟩ := own_value ho; clear ho hs)
          | (at_builtin; refine wpList_append_bytes (F := (EF w ⟨1, ty, sz, dl⟩ (.slice da dl.length dc))) rfl _ _ 23 rfl 5 hu infoR _ [1, ty] [b4 sz 0] rfl (H2.out.alloc' _) _ rfl (isb1k _ _ (by simp) _ _ (by first | exact b4v0 _ | simp [vb, b4_toNat]) _) (by simp) ?_; intro v3 w3 ho hs; simp only [List.cons_append, List.nil_append] at ho; have H3 := hide ho; have HS3 := hide ((HS2.out.alloc _).trans hs); have r0 : _ = some (vb 1) := cell_of_row _ w.heap.size 0 _ _ _ (on_blk_mul ho.right); have r1 : _ = some (vb ty) := cell_of_row _ w.heap.size 1 _ _ _ (on_blk_mul ho.right); have r2 : _ = some (u32v sz) := cell_of_row _ w.heap.size 2 _ _ _ (on_blk_mul ho.right); have r3 : _ = some (Value.slice da dl.length dc) := cell_of_row _ w.heap.size 3 _ _ _ (on_blk_mul ho.right); obtain ⟨oa3, oc3, rfl, _, _, _, _⟩ := own_value ho; clear ho hs)
          | (at_builtin; refine wpList_append_bytes (F := (EF w ⟨1, ty, sz, dl⟩ (.slice da dl.length dc))) rfl _ _ 23 rfl 5 hu infoR _ [1] [ty] rfl (H1.out.alloc' _) _ rfl (isb1k _ _ (by simp) _ _ (rfl) _) (by simp) ?_; intro v2 w2 ho hs; simp only [List.cons_append, List.nil_append] at ho; have H2 := hide ho; have HS2 := hide ((HS1.out.alloc _).trans hs); have r0 : _ = some (vb 1) := cell_of_row _ w.heap.size 0 _ _ _ (on_blk_mul ho.right); have r1 : _ = some (vb ty) := cell_of_row _ w.heap.size 1 _ _ _ (on_blk_mul ho.right); have r2 : _ = some (u32v sz) := cell_of_row _ w.heap.size 2 _ _ _ (on_blk_mul ho.right); have r3 : _ = some (Value.slice da dl.length dc) := cell_of_row _ w.heap.size 3 _ _ _ (on_blk_mul ho.right); obtain ⟨oa2, oc2, rfl, _, _, _, _⟩ := own_value ho; clear ho hs))
        refine wp_region_app 6 [isV (.slice oa5 5 oc5), isV (.pointer (some ⟨w.heap.size, 2, Option.none⟩)), isV (u32v sz), isV (.int .u32 ((sz : Int) / 16777216)), isV (.int .u8 ((sz : Int) / 16777216 % 256)), (fun v X => IsBytes X v [b4 sz 3]), (fun _ _ => True), isV (.pointer (some ⟨w.heap.size, 3, Option.none⟩)), isV (.slice da dl.length dc), isV (.int .i64 ((dl.length : Nat) : Int)), isV (.bool false), (fun _ _ => False), isV (.bool false)]
          [isV (.slice oa5 5 oc5), isV (.pointer (some ⟨w.heap.size, 2, Option.none⟩)), isV (u32v sz), isV (.int .u32 ((sz : Int) / 16777216)), isV (.int .u8 ((sz : Int) / 16777216 % 256)), (fun _ _ => True), (fun v X => (ownR v [1, ty, b4 sz 0, b4 sz 1, b4 sz 2, b4 sz 3] * (EF w ⟨1, ty, sz, dl⟩ (.slice da dl.length dc))).on X), isV (.pointer (some ⟨w.heap.size, 3, Option.none⟩)), isV (.slice da dl.length dc), isV (.int .i64 ((dl.length : Nat) : Int)), isV (.bool false), (fun v X => (ownR v [1, ty, b4 sz 0, b4 sz 1, b4 sz 2, b4 sz 3] * (EF w ⟨1, ty, sz, dl⟩ (.slice da dl.length dc))).on X), isV (.bool false)] _ rfl (by kernel_rfl) (by kernel_rfl) rfl (by decide) (EIv (ownR (.slice oa5 5 oc5) [1, ty, b4 sz 0, b4 sz 1, b4 sz 2]) w ⟨1, ty, sz, dl⟩ (.slice da dl.length dc)) ⟨SP.on.drew H5.out, Str.drew HS5.out⟩ EIv.stay ?keep ?keep2 ?store ?todo ?rest
        case keep => exact ⟨Keep.isV _, Keep.isV _, Keep.isV _, Keep.isV _, Keep.isV _, fun _ _ _ h k => IsBytes.below h k, fun _ _ _ h _ => h, Keep.isV _, Keep.isV _, Keep.isV _, Keep.isV _, fun _ _ _ h _ => h, Keep.isV _, trivial⟩
        case keep2 => exact ⟨Keep.isV _, Keep.isV _, Keep.isV _, Keep.isV _, Keep.isV _, fun _ _ _ h _ => h, fun _ _ _ h k => SP.on.below h k, Keep.isV _, Keep.isV _, Keep.isV _, Keep.isV _, fun _ _ _ h k => SP.on.below h k, Keep.isV _, trivial⟩
        case store =>
          intro ev X hT hb hk hf
          have e0 : ev (.tmp 60) = .slice oa5 5 oc5 := hf.1
          have e1 : IsBytes X (ev (.tmp 65)) [b4 sz 3] := hf.2.1
          refine OpOk.append_bytes (F := (EF w ⟨1, ty, sz, dl⟩ (.slice da dl.length dc))) _ _ _ rfl 5 hu infoR _ [1, ty, b4 sz 0, b4 sz 1, b4 sz 2] [b4 sz 3] e0 hT.1 e1 (by simp) ?_
          intro v' X2 ho hs
          simp only [List.cons_append, List.nil_append] at ho
          refine ⟨⟨ho.right, hT.2.trans hs⟩, ho, ?_⟩
          intro i his hv
          match i, his, hv with
          | 0, _, hv => exact hv
          | 1, _, hv => exact hv
          | 2, _, hv => exact hv
          | 3, _, hv => exact hv
          | 4, _, hv => exact hv
          | 5, _, _ => exact trivial
          | 6, h, _ => exact absurd rfl h
          | 7, _, hv => exact hv
          | 8, _, hv => exact hv
          | 9, _, hv => exact hv
          | 10, _, hv => exact hv
          | 11, _, hv => exact hv.elim
          | 12, _, hv => exact hv
          | n + 13, _, _ => exact trivial
        case todo =>
          refine ⟨?_, ?_, ?_, ?_, ?_, ?_, ?_, ?_, ?_, ?_, ?_, ?_, ?_, trivial⟩
          · intro _ ph h1 h2
            obtain rfl : ph = false := h2 (by kernel_rfl)
            intro ev X hT hb hk hf
            have e0 : ev (.tmp 4) = .slice oa5 5 oc5 := hk.1
            exact OpOk.move rfl e0 ⟨rfl, Stay.refl _⟩
          · intro _ ph h1 h2
            cases ph
            all_goals
              intro ev X hT hb hk hf
              have e0 : ev (.tmp 1) = .pointer (some ⟨w.heap.size, 0, Option.none⟩) := hk.1
              exact OpOk.run (v := .pointer (some ⟨w.heap.size, 2, Option.none⟩)) (W' := X) (by simp [execOp, e0, hb.1, go_sem]) ⟨rfl, Stay.refl _⟩
          · intro _ ph h1 h2
            cases ph
            all_goals
              intro ev X hT hb hk hf
              have e0 : ev (.tmp 61) = .pointer (some ⟨w.heap.size, 2, Option.none⟩) := hf.1
              have cW := EIv.cell hT 2 rfl
              exact OpOk.run (v := u32v sz) (W' := X) (by simp [execOp, e0, cW, go_sem]) ⟨rfl, Stay.refl _⟩
          · intro _ ph h1 h2
            cases ph
            all_goals
              intro ev X hT hb hk hf
              have e0 : ev (.tmp 62) = u32v sz := hf.1
              exact OpOk.run (v := .int .u32 ((sz : Int) / 16777216)) (W' := X) (by simp [execOp, e0, hb.1, go_sem]) ⟨rfl, Stay.refl _⟩
          · intro _ ph h1 h2
            cases ph
            all_goals
              intro ev X hT hb hk hf
              have e0 : ev (.tmp 63) = .int .u32 ((sz : Int) / 16777216) := hf.1
              exact OpOk.run (v := .int .u8 ((sz : Int) / 16777216 % 256)) (W' := X) (by simp [execOp, e0, hb.1, go_sem, IntKind.wrap_u8]) ⟨rfl, Stay.refl _⟩
          · intro _ ph h1 h2
            obtain rfl : ph = false := h2 (by kernel_rfl)
            intro ev X hT hb hk hf
            have e0 : ev (.tmp 64) = .int .u8 ((sz : Int) / 16777216 % 256) := hf.1
            exact OpOk.run (v := .slice (some ⟨X.heap.size, 0, Option.none⟩) 1 1) (W' := X.alloc (.cells #[.int .u8 ((sz : Int) / 16777216 % 256)] 5)) (by simp [execOp, e0, go_sem]) ⟨isb1 _ _ _ (b4v3 _) _, (Below.refl _ _).alloc (Nat.le_refl _) _⟩
          · exact fun h => absurd rfl h
          · intro _ ph h1 h2
            cases ph
            all_goals
              intro ev X hT hb hk hf
              have e0 : ev (.tmp 1) = .pointer (some ⟨w.heap.size, 0, Option.none⟩) := hk.1
              exact OpOk.run (v := .pointer (some ⟨w.heap.size, 3, Option.none⟩)) (W' := X) (by simp [execOp, e0, hb.1, go_sem]) ⟨rfl, Stay.refl _⟩
          · intro _ ph h1 h2
            cases ph
            all_goals
              intro ev X hT hb hk hf
              have e0 : ev (.tmp 67) = .pointer (some ⟨w.heap.size, 3, Option.none⟩) := hf.1
              have cW := EIv.cell hT 3 rfl
              exact OpOk.run (v := .slice da dl.length dc) (W' := X) (by simp [execOp, e0, cW, go_sem]) ⟨rfl, Stay.refl _⟩
          · intro _ ph h1 h2
            cases ph
            all_goals
              intro ev X hT hb hk hf
              have e0 : ev (.tmp 68) = .slice da dl.length dc := hf.1
              exact OpOk.run (v := .int .i64 ((dl.length : Nat) : Int)) (W' := X) (by simp [execOp, e0, hb.1, go_sem]) ⟨rfl, Stay.refl _⟩
          · intro _ ph h1 h2
            cases ph
            all_goals
              intro ev X hT hb hk hf
              have e0 : ev (.tmp 69) = .int .i64 ((dl.length : Nat) : Int) := hf.1
              exact OpOk.run (v := .bool false) (W' := X) (by simp [execOp, e0, hb.1, D0, go_sem]) ⟨rfl, Stay.refl _⟩
          · intro _ ph h1 h2
            obtain rfl : ph = true := h1 (by kernel_rfl)
            intro ev X hT hb hk hf
            have e0 := hf.1
            exact OpOk.assign rfl rfl ⟨e0, Stay.refl _⟩
          · intro _ ph h1 h2
            obtain rfl : ph = true := h1 (by kernel_rfl)
            intro ev X hT hb hk hf
            have e0 : ev (.tmp 70) = .bool false := hf.1
            exact OpOk.assign rfl e0 ⟨rfl, Stay.refl _⟩
        case rest =>
          intro X hT
          rintro _ rfl _ rfl _ rfl _ rfl _ rfl _ - _ - _ rfl _ rfl _ rfl _ rfl vo ho _ rfl
          obtain ⟨xa, xc, rfl, _, _, _, _⟩ := own_value ho
          have HO := hide ho
          have HST := hide hT
          clear ho hT
          go_wp2
          refine Rest.done ?_
          go_wp2_with fail
          go_ret2
          exact ⟨_, rfl, (fun h => by cases h), all_below HST.out.1.right HST.out.2⟩
  · by_cases pd : dl.length = 0
    · have hk2 : decide (dl.length = 0) = true := decide_eq_true pd
      rw [hk2]
      clear hk2
      have T0 : (((ty.toNat : Nat) : Int) == 0) = false := by rw [beq_eq_false_iff_ne]; intro e; exact pt (UInt8.toNat_inj.1 (by simpa using e))
      have D0 : ((dl.length : Int) == 0) = true := by rw [pd]; rfl
      have DG : decide (0 < dl.length) = false := decide_eq_false (by omega)
      have EB := hide (hEB pd)
      clear hEB
      clear pt
      clear pd
      go_enter Try.func23, Try.ntmps23
      go_wp2_with (first
        | (at_builtin; refine wpList_append_bytes (F := (EF w ⟨1, ty, sz, dl⟩ (.slice da dl.length dc))) rfl _ _ 23 rfl 5 hu infoR _ [1, ty, b4 sz 0, b4 sz 1] [b4 sz 2] rfl (H4.out.alloc' _) _ rfl (isb1k _ _ (by simp) _ _ (by first | exact b4v2 _ | simp [vb, b4_toNat]) _) (by simp) ?_; intro v5 w5 ho hs; simp only [List.cons_append, List.nil_append] at ho; have H5 := hide ho; have HS5 := hide ((HS4.out.alloc _).trans hs); have r0 : _ = some (vb 1) := cell_of_row _ w.heap.size 0 _ _ _ (on_blk_mul ho.right); have r1 : _ = some (vb ty) := cell_of_row _ w.heap.size 1 _ _ _ (on_blk_mul ho.right); have r2 : _ = some (u32v sz) := cell_of_row _ w.heap.size 2 _ _ _ (on_blk_mul ho.right); have r3 : _ = some (Value.slice da dl.length dc) := cell_of_row _ w.heap.size 3 _ _ _ (on_blk_mul ho.right); obtain ⟨oa5, oc5, rfl, _, _, _, _⟩ := own_value ho; clear ho hs)
        | (at_builtin; refine wpList_append_bytes (F := (EF w ⟨1, ty, sz, dl⟩ (.slice da dl.length dc))) rfl _ _ 23 rfl 5 hu infoR _ [1, ty, b4 sz 0] [b4 sz 1] rfl (H3.out.alloc' _) _ rfl (isb1k _ _ (by simp) _ _ (by first | exact b4v1 _ | simp [vb, b4_toNat]) _) (by simp) ?_; intro v4 w4 ho hs; simp only [List.cons_append, List.nil_append] at ho; have H4 := hide ho; have HS4 := hide ((HS3.out.alloc _).trans hs); have r0 : _ = some (vb 1) := cell_of_row _ w.heap.size 0 _ _ _ (on_blk_mul ho.right); have r1 : _ = some (vb ty) := cell_of_row _ w.heap.size 1 _ _ _ (on_blk_mul ho.right); have r2 : _ = some (u32v sz) := cell_of_row _ w.heap.size 2 _ _ _ (on_blk_mul ho.right); have r3 : _ = some (Value.slice da dl.length dc) := cell_of_row _ w.heap.size 3 _ _ _ (on_blk_mul ho.right); obtain ⟨oa4, oc4, rfl, _, _, _, _⟩ := own_value ho; clear ho hs)
        | (at_builtin; refine wpList_append_bytes (F := (EF w ⟨1, ty, sz, dl⟩ (.slice da dl.length dc))) rfl _ _ 23 rfl 5 hu infoR _ [1, ty] [b4 sz 0] rfl (H2.out.alloc' _) _ rfl (isb1k _ _ (by simp) _ _ (by first | exact b4v0 _ | simp [vb, b4_toNat]) _) (by simp) ?_; intro v3 w3 ho hs; simp only [List.cons_append, List.nil_append] at ho; have H3 := hide ho; have HS3 := hide ((HS2.out.alloc _).trans hs); have r0 : _ = some (vb 1) := cell_of_row _ w.heap.size 0 _ _ _ (on_blk_mul ho.right); have r1 : _ = some (vb ty) := cell_of_row _ w.heap.size 1 _ _ _ (on_blk_mul ho.right); have r2 : _ = some (u32v sz) := cell_of_row _ w.heap.size 2 _ _ _ (on_blk_mul ho.right); have r3 : _ = some (Value.slice da dl.length dc) := cell_of_row _ w.heap.size 3 _ _ _ (on_blk_mul ho.right); obtain ⟨oa3, oc3, rfl, _, _, _, _⟩ := own_value ho; clear ho hs)
        | (at_builtin; refine wpList_append_bytes (F := (EF w ⟨1, ty, sz, dl⟩ (.slice da dl.length dc))) rfl _ _ 23 rfl 5 hu infoR _ [1] [ty] rfl (H1.out.alloc' _) _ rfl (isb1k _ _ (by simp) _ _ (rfl) _) (by simp) ?_; intro v2 w2 ho hs; simp only [List.cons_append, List.nil_append] at ho; have H2 := hide ho; have HS2 := hide ((HS1.out.alloc _).trans hs); have r0 : _ = some (vb 1) := cell_of_row _ w.heap.size 0 _ _ _ (on_blk_mul ho.right); have r1 : _ = some (vb ty) := cell_of_row _ w.heap.size 1 _ _ _ (on_blk_mul ho.right); have r2 : _ = some (u32v sz) := cell_of_row _ w.heap.size 2 _ _ _ (on_blk_mul ho.right); have r3 : _ = some (Value.slice da dl.length dc) := cell_of_row _ w.heap.size 3 _ _ _ (on_blk_mul ho.right); obtain ⟨oa2, oc2, rfl, _, _, _, _⟩ := own_value ho; clear ho hs))
      refine wp_region_app 6 [isV (.slice oa5 5 oc5), isV (.pointer (some ⟨w.heap.size, 2, Option.none⟩)), isV (u32v sz), isV (.int .u32 ((sz : Int) / 16777216)), isV (.int .u8 ((sz : Int) / 16777216 % 256)), (fun v X => IsBytes X v [b4 sz 3]), (fun _ _ => True), isV (.pointer (some ⟨w.heap.size, 3, Option.none⟩)), isV (.slice da dl.length dc), isV (.int .i64 ((dl.length : Nat) : Int)), isV (.bool true), (fun _ _ => False), isV (.bool true)]
        [isV (.slice oa5 5 oc5), isV (.pointer (some ⟨w.heap.size, 2, Option.none⟩)), isV (u32v sz), isV (.int .u32 ((sz : Int) / 16777216)), isV (.int .u8 ((sz : Int) / 16777216 % 256)), (fun _ _ => True), (fun v X => (ownR v [1, ty, b4 sz 0, b4 sz 1, b4 sz 2, b4 sz 3] * (EF w ⟨1, ty, sz, dl⟩ (.slice da dl.length dc))).on X), isV (.pointer (some ⟨w.heap.size, 3, Option.none⟩)), isV (.slice da dl.length dc), isV (.int .i64 ((dl.length : Nat) : Int)), isV (.bool true), (fun v X => (ownR v [1, ty, b4 sz 0, b4 sz 1, b4 sz 2, b4 sz 3] * (EF w ⟨1, ty, sz, dl⟩ (.slice da dl.length dc))).on X), isV (.bool true)] _ rfl (by kernel_rfl) (by kernel_rfl) rfl (by decide) (EIv (ownR (.slice oa5 5 oc5) [1, ty, b4 sz 0, b4 sz 1, b4 sz 2]) w ⟨1, ty, sz, dl⟩ (.slice da dl.length dc)) ⟨SP.on.drew H5.out, Str.drew HS5.out⟩ EIv.stay ?keep ?keep2 ?store ?todo ?rest
      case keep => exact ⟨Keep.isV _, Keep.isV _, Keep.isV _, Keep.isV _, Keep.isV _, fun _ _ _ h k => IsBytes.below h k, fun _ _ _ h _ => h, Keep.isV _, Keep.isV _, Keep.isV _, Keep.isV _, fun _ _ _ h _ => h, Keep.isV _, trivial⟩
      case keep2 => exact ⟨Keep.isV _, Keep.isV _, Keep.isV _, Keep.isV _, Keep.isV _, fun _ _ _ h _ => h, fun _ _ _ h k => SP.on.below h k, Keep.isV _, Keep.isV _, Keep.isV _, Keep.isV _, fun _ _ _ h k => SP.on.below h k, Keep.isV _, trivial⟩
      case store =>
        intro ev X hT hb hk hf
        have e0 : ev (.tmp 60) = .slice oa5 5 oc5 := hf.1
        have e1 : IsBytes X (ev (.tmp 65)) [b4 sz 3] := hf.2.1
        refine OpOk.append_bytes (F := (EF w ⟨1, ty, sz, dl⟩ (.slice da dl.length dc))) _ _ _ rfl 5 hu infoR _ [1, ty, b4 sz 0, b4 sz 1, b4 sz 2] [b4 sz 3] e0 hT.1 e1 (by simp) ?_
        intro v' X2 ho hs
        simp only [List.cons_append, List.nil_append] at ho
        refine ⟨⟨ho.right, hT.2.trans hs⟩, ho, ?_⟩
        intro i his hv
        match i, his, hv with
        | 0, _, hv => exact hv
        | 1, _, hv => exact hv
        | 2, _, hv => exact hv
        | 3, _, hv => exact hv
        | 4, _, hv => exact hv
        | 5, _, _ => exact trivial
        | 6, h, _ => exact absurd rfl h
        | 7, _, hv => exact hv
        | 8, _, hv => exact hv
        | 9, _, hv => exact hv
        | 10, _, hv => exact hv
        | 11, _, hv => exact hv.elim
        | 12, _, hv => exact hv
        | n + 13, _, _ => exact trivial
      case todo =>
        refine ⟨?_, ?_, ?_, ?_, ?_, ?_, ?_, ?_, ?_, ?_, ?_, ?_, ?_, trivial⟩
        · intro _ ph h1 h2
          obtain rfl : ph = false := h2 (by kernel_rfl)
          intro ev X hT hb hk hf
          have e0 : ev (.tmp 4) = .slice oa5 5 oc5 := hk.1
          exact OpOk.move rfl e0 ⟨rfl, Stay.refl _⟩
        · intro _ ph h1 h2
          cases ph
          all_goals
            intro ev X hT hb hk hf
            have e0 : ev (.tmp 1) = .pointer (some ⟨w.heap.size, 0, Option.none⟩) := hk.1
            exact OpOk.run (v := .pointer (some ⟨w.heap.size, 2, Option.none⟩)) (W' := X) (by simp [execOp, e0, hb.1, go_sem]) ⟨rfl, Stay.refl _⟩
        · intro _ ph h1 h2
          cases ph
          all_goals
            intro ev X hT hb hk hf
            have e0 : ev (.tmp 61) = .pointer (some ⟨w.heap.size, 2, Option.none⟩) := hf.1
            have cW := EIv.cell hT 2 rfl
            exact OpOk.run (v := u32v sz) (W' := X) (by simp [execOp, e0, cW, go_sem]) ⟨rfl, Stay.refl _⟩
        · intro _ ph h1 h2
          cases ph
          all_goals
            intro ev X hT hb hk hf
            have e0 : ev (.tmp 62) = u32v sz := hf.1
            exact OpOk.run (v := .int .u32 ((sz : Int) / 16777216)) (W' := X) (by simp [execOp, e0, hb.1, go_sem]) ⟨rfl, Stay.refl _⟩
        · intro _ ph h1 h2
          cases ph
          all_goals
            intro ev X hT hb hk hf
            have e0 : ev (.tmp 63) = .int .u32 ((sz : Int) / 16777216) := hf.1
            exact OpOk.run (v := .int .u8 ((sz : Int) / 16777216 % 256)) (W' := X) (by simp [execOp, e0, hb.1, go_sem, IntKind.wrap_u8]) ⟨rfl, Stay.refl _⟩
        · intro _ ph h1 h2
          obtain rfl : ph = false := h2 (by kernel_rfl)
          intro ev X hT hb hk hf
          have e0 : ev (.tmp 64) = .int .u8 ((sz : Int) / 16777216 % 256) := hf.1
          exact OpOk.run (v := .slice (some ⟨X.heap.size, 0, Option.none⟩) 1 1) (W' := X.alloc (.cells #[.int .u8 ((sz : Int) / 16777216 % 256)] 5)) (by simp [execOp, e0, go_sem]) ⟨isb1 _ _ _ (b4v3 _) _, (Below.refl _ _).alloc (Nat.le_refl _) _⟩
        · exact fun h => absurd rfl h
        · intro _ ph h1 h2
          cases ph
          all_goals
            intro ev X hT hb hk hf
            have e0 : ev (.tmp 1) = .pointer (some ⟨w.heap.size, 0, Option.none⟩) := hk.1
            exact OpOk.run (v := .pointer (some ⟨w.heap.size, 3, Option.none⟩)) (W' := X) (by simp [execOp, e0, hb.1, go_sem]) ⟨rfl, Stay.refl _⟩
        · intro _ ph h1 h2
          cases ph
          all_goals
            intro ev X hT hb hk hf
            have e0 : ev (.tmp 67) = .pointer (some ⟨w.heap.size, 3, Option.none⟩) := hf.1
            have cW := EIv.cell hT 3 rfl
            exact OpOk.run (v := .slice da dl.length dc) (W' := X) (by simp [execOp, e0, cW, go_sem]) ⟨rfl, Stay.refl _⟩
        · intro _ ph h1 h2
          cases ph
          all_goals
            intro ev X hT hb hk hf
            have e0 : ev (.tmp 68) = .slice da dl.length dc := hf.1
            exact OpOk.run (v := .int .i64 ((dl.length : Nat) : Int)) (W' := X) (by simp [execOp, e0, hb.1, go_sem]) ⟨rfl, Stay.refl _⟩
        · intro _ ph h1 h2
          cases ph
          all_goals
            intro ev X hT hb hk hf
            have e0 : ev (.tmp 69) = .int .i64 ((dl.length : Nat) : Int) := hf.1
            exact OpOk.run (v := .bool true) (W' := X) (by simp [execOp, e0, hb.1, D0, go_sem]) ⟨rfl, Stay.refl _⟩
        · intro _ ph h1 h2
          obtain rfl : ph = true := h1 (by kernel_rfl)
          intro ev X hT hb hk hf
          have e0 := hf.1
          exact OpOk.assign rfl rfl ⟨e0, Stay.refl _⟩
        · intro _ ph h1 h2
          obtain rfl : ph = true := h1 (by kernel_rfl)
          intro ev X hT hb hk hf
          have e0 : ev (.tmp 70) = .bool true := hf.1
          exact OpOk.assign rfl e0 ⟨rfl, Stay.refl _⟩
      case rest =>
        intro X hT
        rintro _ rfl _ rfl _ rfl _ rfl _ rfl _ - _ - _ rfl _ rfl _ rfl _ rfl vo ho _ rfl
        obtain ⟨xa, xc, rfl, _, _, _, _⟩ := own_value ho
        have HO := hide ho
        have HST := hide hT
        clear ho hT
        go_wp2
        refine Rest.done ?_
        go_wp2_with fail
        go_ret2
        exact ⟨_, rfl, fun _ => by rw [EB.out]; exact own_bytes HO.out, all_below HST.out.1.right HST.out.2⟩
    · have hk2 : decide (dl.length = 0) = false := decide_eq_false (fun h => pd h)
      rw [hk2]
      clear hk2
      have T0 : (((ty.toNat : Nat) : Int) == 0) = false := by rw [beq_eq_false_iff_ne]; intro e; exact pt (UInt8.toNat_inj.1 (by simpa using e))
      have D0 : ((dl.length : Int) == 0) = false := by rw [beq_eq_false_iff_ne]; omega
      have DG : decide (0 < dl.length) = true := decide_eq_true (by omega)
      clear hEB
      clear pt
      clear pd
      go_enter Try.func23, Try.ntmps23
      go_wp2_with (first
        | (at_builtin; refine wpList_append_bytes (F := (EF w ⟨1, ty, sz, dl⟩ (.slice da dl.length dc))) rfl _ _ 23 rfl 5 hu infoR _ [1, ty, b4 sz 0, b4 sz 1] [b4 sz 2] rfl (H4.out.alloc' _) _ rfl (isb1k _ _ (by simp) _ _ (by first | exact b4v2 _ | simp [vb, b4_toNat]) _) (by simp) ?_; intro v5 w5 ho hs; simp only [List.cons_append, List.nil_append] at ho; have H5 := hide ho; have HS5 := hide ((HS4.out.alloc _).trans hs); have r0 : _ = some (vb 1) := cell_of_row _ w.heap.size 0 _ _ _ (on_blk_mul ho.right); have r1 : _ = some (vb ty) := cell_of_row _ w.heap.size 1 _ _ _ (on_blk_mul ho.right); have r2 : _ = some (u32v sz) := cell_of_row _ w.heap.size 2 _ _ _ (on_blk_mul ho.right); have r3 : _ = some (Value.slice da dl.length dc) := cell_of_row _ w.heap.size 3 _ _ _ (on_blk_mul ho.right); obtain ⟨oa5, oc5, rfl, _, _, _, _⟩ := own_value ho; clear ho hs)
        | (at_builtin; refine wpList_append_bytes (F := (EF w ⟨1, ty, sz, dl⟩ (.slice da dl.length dc))) rfl _ _ 23 rfl 5 hu infoR _ [1, ty, b4 sz 0] [b4 sz 1] rfl (H3.out.alloc' _) _ rfl (isb1k _ _ (by simp) _ _ (by first | exact b4v1 _ | simp [vb, b4_toNat]) _) (by simp) ?_; intro v4 w4 ho hs; simp only [List.cons_append, List.nil_append] at ho; have H4 := hide ho; have HS4 := hide ((HS3.out.alloc _).trans hs); have r0 : _ = some (vb 1) := cell_of_row _ w.heap.size 0 _ _ _ (on_blk_mul ho.right); have r1 : _ = some (vb ty) := cell_of_row _ w.heap.size 1 _ _ _ (on_blk_mul ho.right); have r2 : _ = some (u32v sz) := cell_of_row _ w.heap.size 2 _ _ _ (on_blk_mul ho.right); have r3 : _ = some (Value.slice da dl.length dc) := cell_of_row _ w.heap.size 3 _ _ _ (on_blk_mul ho.right); obtain ⟨oa4, oc4, rfl, _, _, _, _⟩ := own_value ho; clear ho hs)
        | (at_builtin; refine wpList_append_bytes (F := (EF w ⟨1, ty, sz, dl⟩ (.slice da dl.length dc))) rfl _ _ 23 rfl 5 hu infoR _ [1, ty] [b4 sz 0] rfl (H2.out.alloc' _) _ rfl (isb1k _ _ (by simp) _ _ (by first | exact b4v0 _ | simp [vb, b4_toNat]) _) (by simp) ?_; intro v3 w3 ho hs; simp only [List.cons_append, List.nil_append] at ho; have H3 := hide ho; have HS3 := hide ((HS2.out.alloc _).trans hs); have r0 : _ = some (vb 1) := cell_of_row _ w.heap.size 0 _ _ _ (on_blk_mul ho.right); have r1 : _ = some (vb ty) := cell_of_row _ w.heap.size 1 _ _ _ (on_blk_mul ho.right); have r2 : _ = some (u32v sz) := cell_of_row _ w.heap.size 2 _ _ _ (on_blk_mul ho.right); have r3 : _ = some (Value.slice da dl.length dc) := cell_of_row _ w.heap.size 3 _ _ _ (on_blk_mul ho.right); obtain ⟨oa3, oc3, rfl, _, _, _, _⟩ := own_value ho; clear ho hs)
        | (at_builtin; refine wpList_append_bytes (F := (EF w ⟨1, ty, sz, dl⟩ (.slice da dl.length dc))) rfl _ _ 23 rfl 5 hu infoR _ [1] [ty] rfl (H1.out.alloc' _) _ rfl (isb1k _ _ (by simp) _ _ (rfl) _) (by simp) ?_; intro v2 w2 ho hs; simp only [List.cons_append, List.nil_append] at ho; have H2 := hide ho; have HS2 := hide ((HS1.out.alloc _).trans hs); have r0 : _ = some (vb 1) := cell_of_row _ w.heap.size 0 _ _ _ (on_blk_mul ho.right); have r1 : _ = some (vb ty) := cell_of_row _ w.heap.size 1 _ _ _ (on_blk_mul ho.right); have r2 : _ = some (u32v sz) := cell_of_row _ w.heap.size 2 _ _ _ (on_blk_mul ho.right); have r3 : _ = some (Value.slice da dl.length dc) := cell_of_row _ w.heap.size 3 _ _ _ (on_blk_mul ho.right); obtain ⟨oa2, oc2, rfl, _, _, _, _⟩ := own_value ho; clear ho hs))
      refine wp_region_app 6 [isV (.slice oa5 5 oc5), isV (.pointer (some ⟨w.heap.size, 2, Option.none⟩)), isV (u32v sz), isV (.int .u32 ((sz : Int) / 16777216)), isV (.int .u8 ((sz : Int) / 16777216 % 256)), (fun v X => IsBytes X v [b4 sz 3]), (fun _ _ => True), isV (.pointer (some ⟨w.heap.size, 3, Option.none⟩)), isV (.slice da dl.length dc), isV (.int .i64 ((dl.length : Nat) : Int)), isV (.bool false), (fun _ _ => False), isV (.bool false)]
        [isV (.slice oa5 5 oc5), isV (.pointer (some ⟨w.heap.size, 2, Option.none⟩)), isV (u32v sz), isV (.int .u32 ((sz : Int) / 16777216)), isV (.int .u8 ((sz : Int) / 16777216 % 256)), (fun _ _ => True), (fun v X => (ownR v [1, ty, b4 sz 0, b4 sz 1, b4 sz 2, b4 sz 3] * (EF w ⟨1, ty, sz, dl⟩ (.slice da dl.length dc))).on X), isV (.pointer (some ⟨w.heap.size, 3, Option.none⟩)), isV (.slice da dl.length dc), isV (.int .i64 ((dl.length : Nat) : Int)), isV (.bool false), (fun v X => (ownR v [1, ty, b4 sz 0, b4 sz 1, b4 sz 2, b4 sz 3] * (EF w ⟨1, ty, sz, dl⟩ (.slice da dl.length dc))).on X), isV (.bool false)] _ rfl (by kernel_rfl) (by kernel_rfl) rfl (by decide) (EIv (ownR (.slice oa5 5 oc5) [1, ty, b4 sz 0, b4 sz 1, b4 sz 2]) w ⟨1, ty, sz, dl⟩ (.slice da dl.length dc)) ⟨SP.on.drew H5.out, Str.drew HS5.out⟩ EIv.stay ?keep ?keep2 ?store ?todo ?rest
      case keep => exact ⟨Keep.isV _, Keep.isV _, Keep.isV _, Keep.isV _, Keep.isV _, fun _ _ _ h k => IsBytes.below h k, fun _ _ _ h _ => h, Keep.isV _, Keep.isV _, Keep.isV _, Keep.isV _, fun _ _ _ h _ => h, Keep.isV _, trivial⟩
      case keep2 => exact ⟨Keep.isV _, Keep.isV _, Keep.isV _, Keep.isV _, Keep.isV _, fun _ _ _ h _ => h, fun _ _ _ h k => SP.on.below h k, Keep.isV _, Keep.isV _, Keep.isV _, Keep.isV _, fun _ _ _ h k => SP.on.below h k, Keep.isV _, trivial⟩
      case store =>
        intro ev X hT hb hk hf
        have e0 : ev (.tmp 60) = .slice oa5 5 oc5 := hf.1
        have e1 : IsBytes X (ev (.tmp 65)) [b4 sz 3] := hf.2.1
        refine OpOk.append_bytes (F := (EF w ⟨1, ty, sz, dl⟩ (.slice da dl.length dc))) _ _ _ rfl 5 hu infoR _ [1, ty, b4 sz 0, b4 sz 1, b4 sz 2] [b4 sz 3] e0 hT.1 e1 (by simp) ?_
        intro v' X2 ho hs
        simp only [List.cons_append, List.nil_append] at ho
        refine ⟨⟨ho.right, hT.2.trans hs⟩, ho, ?_⟩
        intro i his hv
        match i, his, hv with
        | 0, _, hv => exact hv
        | 1, _, hv => exact hv
        | 2, _, hv => exact hv
        | 3, _, hv => exact hv
        | 4, _, hv => exact hv
        | 5, _, _ => exact trivial
        | 6, h, _ => exact absurd rfl h
        | 7, _, hv => exact hv
        | 8, _, hv => exact hv
        | 9, _, hv => exact hv
        | 10, _, hv => exact hv
        | 11, _, hv => exact hv.elim
        | 12, _, hv => exact hv
        | n + 13, _, _ => exact trivial
      case todo =>
        refine ⟨?_, ?_, ?_, ?_, ?_, ?_, ?_, ?_, ?_, ?_, ?_, ?_, ?_, trivial⟩
        · intro _ ph h1 h2
          obtain rfl : ph = false := h2 (by kernel_rfl)
          intro ev X hT hb hk hf
          have e0 : ev (.tmp 4) = .slice oa5 5 oc5 := hk.1
          exact OpOk.move rfl e0 ⟨rfl, Stay.refl _⟩
        · intro _ ph h1 h2
          cases ph
          all_goals
            intro ev X hT hb hk hf
            have e0 : ev (.tmp 1) = .pointer (some ⟨w.heap.size, 0, Option.none⟩) := hk.1
            exact OpOk.run (v := .pointer (some ⟨w.heap.size, 2, Option.none⟩)) (W' := X) (by simp [execOp, e0, hb.1, go_sem]) ⟨rfl, Stay.refl _⟩
        · intro _ ph h1 h2
          cases ph
          all_goals
            intro ev X hT hb hk hf
            have e0 : ev (.tmp 61) = .pointer (some ⟨w.heap.size, 2, Option.none⟩) := hf.1
            have cW := EIv.cell hT 2 rfl
            exact OpOk.run (v := u32v sz) (W' := X) (by simp [execOp, e0, cW, go_sem]) ⟨rfl, Stay.refl _⟩
        · intro _ ph h1 h2
          cases ph
          all_goals
            intro ev X hT hb hk hf
            have e0 : ev (.tmp 62) = u32v sz := hf.1
            exact OpOk.run (v := .int .u32 ((sz : Int) / 16777216)) (W' := X) (by simp [execOp, e0, hb.1, go_sem]) ⟨rfl, Stay.refl _⟩
        · intro _ ph h1 h2
          cases ph
          all_goals
            intro ev X hT hb hk hf
            have e0 : ev (.tmp 63) = .int .u32 ((sz : Int) / 16777216) := hf.1
            exact OpOk.run (v := .int .u8 ((sz : Int) / 16777216 % 256)) (W' := X) (by simp [execOp, e0, hb.1, go_sem, IntKind.wrap_u8]) ⟨rfl, Stay.refl _⟩
        · intro _ ph h1 h2
          obtain rfl : ph = false := h2 (by kernel_rfl)
          intro ev X hT hb hk hf
          have e0 : ev (.tmp 64) = .int .u8 ((sz : Int) / 16777216 % 256) := hf.1
          exact OpOk.run (v := .slice (some ⟨X.heap.size, 0, Option.none⟩) 1 1) (W' := X.alloc (.cells #[.int .u8 ((sz : Int) / 16777216 % 256)] 5)) (by simp [execOp, e0, go_sem]) ⟨isb1 _ _ _ (b4v3 _) _, (Below.refl _ _).alloc (Nat.le_refl _) _⟩
        · exact fun h => absurd rfl h
        · intro _ ph h1 h2
          cases ph
          all_goals
            intro ev X hT hb hk hf
            have e0 : ev (.tmp 1) = .pointer (some ⟨w.heap.size, 0, Option.none⟩) := hk.1
            exact OpOk.run (v := .pointer (some ⟨w.heap.size, 3, Option.none⟩)) (W' := X) (by simp [execOp, e0, hb.1, go_sem]) ⟨rfl, Stay.refl _⟩
        · intro _ ph h1 h2
          cases ph
          all_goals
            intro ev X hT hb hk hf
            have e0 : ev (.tmp 67) = .pointer (some ⟨w.heap.size, 3, Option.none⟩) := hf.1
            have cW := EIv.cell hT 3 rfl
            exact OpOk.run (v := .slice da dl.length dc) (W' := X) (by simp [execOp, e0, cW, go_sem]) ⟨rfl, Stay.refl _⟩
        · intro _ ph h1 h2
          cases ph
          all_goals
            intro ev X hT hb hk hf
            have e0 : ev (.tmp 68) = .slice da dl.length dc := hf.1
            exact OpOk.run (v := .int .i64 ((dl.length : Nat) : Int)) (W' := X) (by simp [execOp, e0, hb.1, go_sem]) ⟨rfl, Stay.refl _⟩
        · intro _ ph h1 h2
          cases ph
          all_goals
            intro ev X hT hb hk hf
            have e0 : ev (.tmp 69) = .int .i64 ((dl.length : Nat) : Int) := hf.1
            exact OpOk.run (v := .bool false) (W' := X) (by simp [execOp, e0, hb.1, D0, go_sem]) ⟨rfl, Stay.refl _⟩
        · intro _ ph h1 h2
          obtain rfl : ph = true := h1 (by kernel_rfl)
          intro ev X hT hb hk hf
          have e0 := hf.1
          exact OpOk.assign rfl rfl ⟨e0, Stay.refl _⟩
        · intro _ ph h1 h2
          obtain rfl : ph = true := h1 (by kernel_rfl)
          intro ev X hT hb hk hf
          have e0 : ev (.tmp 70) = .bool false := hf.1
          exact OpOk.assign rfl e0 ⟨rfl, Stay.refl _⟩
      case rest =>
        intro X hT
        rintro _ rfl _ rfl _ rfl _ rfl _ rfl _ - _ - _ rfl _ rfl _ rfl _ rfl vo ho _ rfl
        obtain ⟨xa, xc, rfl, _, _, _, _⟩ := own_value ho
        have HO := hide ho
        have HST := hide hT
        clear ho hT
        go_wp2
        refine Rest.done ?_
        go_wp2_with fail
        go_ret2
        exact ⟨_, rfl, (fun h => by cases h), all_below HST.out.1.right HST.out.2⟩
end Go.Proofs.Ytdieaegajahdpaa
