/- The law UploaderActs: the document's frames, and an object's. -/
import Derived.Test.YtjmgnfpcieofkaaUA3
import Derived.Test.YtjmgnfpcieofkaaGSlip
import Derived.Test.YtjmgnfpcieofkaaWord12
import Derived.Test.YtjmgnfpcieofkaaGFl
namespace Go.Proofs.Ytjmgnfpcieofkaa
open Go.ChangeShapes Go.WideShapes Go.ChangeAt Go.RowKit
set_option linter.unusedVariables false
set_option linter.unusedSimpArgs false

theorem on_swap {A B F : SP} {w : World} (h : (A * (B * F)).on w) : (B * (A * F)).on w := by rw [SP.mul_left_comm] at h; exact h
theorem on_drop {A B F : SP} {w : World} (h : (A * (B * F)).on w) : (A * F).on w := SP.le.on (SP.le.mul (SP.le.refl _) (SP.le_right _ _)) h

set_option maxRecDepth 100000 in
set_option maxHeartbeats 4000000 in
theorem frames22_any (v : Value) (ls : List (List UInt8)) (w : World) (h : IsRows w v ls) (hlen : (frames ls).length ≤ 1000000) :
    Calls Try.prog 67 #[v] w (Makes w fun u => ownR u (frames ls)) := by
  have hu := Try.underlying33
  obtain ⟨va, vc, vs, rfl, hvc, hvm, hvl, hvs, hvin⟩ := h
  unfold maxLen at hvm
  have Hvl := hide hvl
  have Hvs := hide hvs
  have Hvin := hide hvin
  have Hlen := hide hlen
  have H0 := hide (own_nil 5 1 (on_all w))
  clear hvl hvs hvin hlen
  go_enter Try.func67, Try.ntmps67
  go_wp2_with fail
  go_loopw [3, 8] (fun av i wr => ∃ k : Nat, k ≤ ls.length ∧ i = .int .i64 k ∧ (ownR av (frames (ls.take k)) * all w).on wr ∧ Str w wr) (fun _ i _ => ls.length - (intOf i).toNat)
  case atStart => exact ⟨0, by omega, rfl, H0.out, Str.refl _⟩
  case round =>
    obtain ⟨k, hk, rfl, how, hstr⟩ := hrel
    have hBr := all_below how.right hstr
    obtain ⟨oa, oc, rfl, _, _, _, _⟩ := own_value how
    by_cases hkl : k < ls.length
    · have hkv : k < vs.length := by rw [Hvs.out]; exact hkl
      obtain ⟨b, off, rfl⟩ := Lay.isAddr Hvl.out k hkv
      have cb := Lay.cell (Hvl.out.below hBr) k (List.getElem?_eq_getElem hkv)
      have hbx := (Hvin.out k _ _ (List.getElem?_eq_getElem hkv) (List.getElem?_eq_getElem hkl)).below hBr
      have HS := hide (frames_snoc ls k hkl)
      have hl1 := frames_take_len ls k hkl
      have hl2 : (frames (ls.take k)).length + (frame ls[k]).length ≤ 1000000 := Nat.le_trans hl1 Hlen.out
      have hxl : ls[k].length ≤ 1000000 := by
        have := (encText_len ls[k]).2
        have := frame_len ls[k]
        omega
      generalize vs[k] = vk at *
      generalize ls[k] = x at *
      have Hbx := hide hbx
      have How := hide how
      have Hstr := hide hstr
      obtain ⟨xa, xc, rfl, _, _, _, _⟩ := hbx
      have hE := refEncode_any _ x wr Hbx.out (by omega)
      generalize frames (ls.take k) = fk at *
      generalize frame x = fx at *
      clear how hstr hBr hl1
      go_wp2_with fail
      refine hE.mono ?_
      clear hE
      rintro e w2 ⟨out, rfl, ho, hs⟩
      have H2 := hide (on_swap (on_all_to ho How.out))
      have S2 := hide (Hstr.out.trans hs)
      have HB2 := hide (own_bytes ho)
      obtain ⟨xa2, xc2, rfl, _, _, _, _⟩ := own_value ho
      clear ho hs How
      go_wp2_with (at_builtin; refine wpList_append_bytes (F := ownR (.slice xa2 fx.length xc2) fx * all w) rfl _ _ 33 rfl 5 hu infoByte _ fk fx rfl H2.out _ rfl HB2.out (by omega) ?_; intro v2 w3 ho3 hs3; obtain ⟨zv2, hz⟩ : ∃ z, z = fk ++ fx := ⟨_, rfl⟩; rw [← hz] at ho3; obtain ⟨av2, cv2, rfl, _, _, _, _⟩ := own_value ho3; have HO_ho3 := hide ho3; have HS_hs3 := hide hs3; have HZ_v2 := hide hz; clear ho3 hs3 hz)
      exact ⟨⟨k + 1, by omega, by simp, by rw [HS.out, ← HZ_v2.out]; exact on_drop HO_ho3.out, S2.out.trans HS_hs3.out⟩, by simp [intOf]; omega⟩
    · have hkb : k = ls.length := by omega
      subst hkb
      rw [List.take_length] at how ⊢
      have How := hide how
      have Hstr := hide hstr
      clear how hstr hBr
      go_wp2_with fail
      go_ret
      exact ⟨_, rfl, How.out, Hstr.out⟩

theorem frames_append (l m : List (List UInt8)) : frames (l ++ m) = frames l ++ frames m := by simp [frames]
theorem frames_one (a : List UInt8) : frames [a] = frame a := by simp [frames]
theorem frame_le (a : List UInt8) : (frame a).length ≤ 2 * a.length + 1 := by have := (encText_len a).1; rw [frame_len]; omega
/-- what an object's frames are behind k pieces -/
def objF (kind : UInt8) (b : List UInt8) (k : Nat) : List UInt8 := frames (([1, kind] ++ wordB b.length) :: (piecesK b k).map fun p => 8 :: p)
theorem objF_len (kind : UInt8) (b : List UInt8) : ∀ k, (objF kind b k).length ≤ 13 + 123 * k
  | 0 => by
    unfold objF
    rw [show (piecesK b 0).map (fun p => (8 : UInt8) :: p) = [] from rfl, frames_one]
    have := frame_le ([1, kind] ++ wordB b.length)
    rw [List.length_append, wordB_len] at this
    exact this
  | k + 1 => by
    have h := objF_len kind b k
    unfold objF at h ⊢
    unfold piecesK
    rw [List.map_append, ← List.cons_append, frames_append, List.length_append]
    have h1 := frame_le (8 :: (b.drop (60 * k)).take 60)
    have h2 : ((b.drop (60 * k)).take 60).length ≤ 60 := by rw [List.length_take]; omega
    rw [show (List.map (fun p => (8 : UInt8) :: p) [(b.drop (60 * k)).take 60]) = [8 :: (b.drop (60 * k)).take 60] from rfl, frames_one]
    simp only [List.length_cons] at h1
    omega
theorem objF_snoc (kind : UInt8) (b : List UInt8) (k : Nat) : objF kind b (k + 1) = objF kind b k ++ frame (8 :: (b.drop (60 * k)).take 60) := by
  unfold objF
  rw [show piecesK b (k + 1) = piecesK b k ++ [(b.drop (60 * k)).take 60] from rfl, List.map_append, ← List.cons_append, frames_append]
  rw [show (List.map (fun p => (8 : UInt8) :: p) [(b.drop (60 * k)).take 60]) = [8 :: (b.drop (60 * k)).take 60] from rfl, frames_one]
theorem objF_end (kind : UInt8) (b : List UInt8) : frames (objT kind b) = objF kind b (pieceN b.length) ++ frame [3] := by
  unfold objT objF
  rw [frames_append, frames_one]

set_option maxRecDepth 100000 in
set_option maxHeartbeats 8000000 in
theorem object22_any (kind : UInt8) (v : Value) (b : List UInt8) (w : World) (h : IsBytes w v b) (hbl : b.length ≤ 4096) :
    Calls Try.prog 68 #[vb kind, v] w (Makes w fun u => ownR u (frames (objT kind b))) := by
  have hu := Try.underlying33
  have hui := Try.underlying3
  have hu32 := Try.underlying32
  have HB := hide h
  obtain ⟨ba, bc, rfl, hbc, hbm, _, _⟩ := h
  unfold maxLen at hbm
  have hv : (vbs [1, kind]).toArray = #[.int .u8 1, vb kind] := by simp [vbs, vb]
  have hown := own_new 5 1 2 (vbs [1, kind]) (on_all w) rfl (by decide)
  rw [hv] at hown
  have H1 := hide hown
  have S1 := hide ((Str.refl w).alloc (.cells #[.int .u8 1, vb kind] 5))
  have hW := fun X => rword12_any b.length (by omega) X
  clear hown hv
  go_enter Try.func68, Try.ntmps68
  go_wp2_with fail
  refine (hW _).mono ?_
  clear hW
  rintro e w2 ⟨wv, rfl, ho, hs⟩
  have ho' : (ownR wv (wordB b.length) * all (w.alloc (.cells #[.int .u8 1, vb kind] 5))).on w2 := ho
  have H2 := hide (on_swap (on_all_to ho' H1.out))
  have S2 := hide (S1.out.trans hs)
  have HB2 := hide (own_bytes ho')
  have HWl := hide (wordB_len b.length)
  have h0 := objF_len kind b 0
  have H00 := hide (show objF kind b 0 = frames [[1, kind] ++ wordB b.length] from rfl)
  have hwl2 : (wordB b.length).length ≤ 4 := by rw [HWl.out]; omega
  obtain ⟨xa2, xc2, rfl, _, _, _, _⟩ := own_value ho'
  clear ho ho' hs H1 S1
  generalize wordB b.length = wl at *
  go_wp2_with (at_builtin; refine wpList_append_bytes (F := ownR (.slice xa2 wl.length xc2) wl * all w) rfl _ _ 33 rfl 5 hu infoByte _ [1, kind] wl rfl H2.out _ rfl HB2.out (by simp; omega) ?_; intro v3 w3 ho3 hs3; obtain ⟨zv3, hz⟩ : ∃ z, z = [1, kind] ++ wl := ⟨_, rfl⟩; rw [← hz] at ho3; obtain ⟨av3, cv3, rfl, _, _, _, _⟩ := own_value ho3; have HO_ho3 := hide ho3; have HS_hs3 := hide hs3; have HZ_v3 := hide hz; clear ho3 hs3 hz)
  have hE := frames22_any _ [zv3] _ (IsRows.one (own_bytes HO_ho3.out) 33) (by rw [HZ_v3.out, ← H00.out]; omega)
  rw [show frames [zv3] = objF kind b 0 by rw [HZ_v3.out, ← H00.out]] at hE
  have H4 := hide ((on_drop HO_ho3.out).right.alloc' (.cells #[.slice av3 zv3.length cv3] 33))
  have S4 := hide ((S2.out.trans HS_hs3.out).alloc (.cells #[.slice av3 zv3.length cv3] 33))
  refine hE.mono ?_
  clear hE HO_ho3 HS_hs3 H2 S2 HB2
  rintro e w5 ⟨out, rfl, ho, hs⟩
  have H5 := hide (on_all_to ho H4.out)
  have S5 := hide (S4.out.trans hs)
  obtain ⟨oa, oc, rfl, _, _, _, _⟩ := own_value ho
  clear ho hs H4 S4 H00 HWl hwl2 h0
  go_wp2_with fail
  go_loopw [5, 6] (fun av i wr => ∃ k : Nat, k ≤ pieceN b.length ∧ i = .int .i64 ((60 * k : Nat) : Int) ∧ (ownR av (objF kind b k) * all w).on wr ∧ Str w wr) (fun _ i _ => 60 * pieceN b.length - (intOf i).toNat)
  case atStart => exact ⟨0, by omega, rfl, H5.out, S5.out⟩
  case round =>
    clear H5 S5
    obtain ⟨k, hk, rfl, how, hstr⟩ := hrel
    have hpn : pieceN b.length = (b.length + 59) / 60 := rfl
    have hBr := all_below how.right hstr
    have Hbr := hide (HB.out.below hBr)
    obtain ⟨oa, oc, rfl, _, _, _, _⟩ := own_value how
    have How := hide how
    have Hstr := hide hstr
    clear how hstr hBr
    by_cases hkl : 60 * k < b.length
    · have Hsn := hide (objF_snoc kind b k)
      have hfl := objF_len kind b k
      have hk70 : k ≤ 69 := by omega
      have Hpn := hide hpn
      obtain ⟨bg, bo, hbg⟩ : ∃ bg bo, ba = some ⟨bg, bo, Option.none⟩ := by
        obtain ⟨bb, off, c, he, _⟩ := IsBytes.at Hbr.out 0 (by omega)
        cases he
        exact ⟨_, _, rfl⟩
      subst hbg
      obtain ⟨a, ha⟩ : ∃ a, a = 60 * k := ⟨_, rfl⟩
      rw [← ha] at hkl Hsn ⊢
      obtain ⟨q, hq⟩ : ∃ q, q = (b.drop a).take 60 := ⟨_, rfl⟩
      have hql : q.length = min 60 (b.length - a) := by rw [hq, List.length_take, List.length_drop]
      have hbq : IsBytes wr (.slice (some ⟨bg, bo + a, Option.none⟩) q.length (bc - a)) q := by
        have h1 := Hbr.out.part' a q.length (by omega)
        rw [show (b.drop a).take q.length = q by
          rw [hq, List.length_take]
          rcases Nat.le_total 60 (b.drop a).length with c | c
          · rw [Nat.min_eq_left c]
          · rw [Nat.min_eq_right c, List.take_of_length_le (Nat.le_refl _), List.take_of_length_le c]] at h1
        exact h1
      rw [← hq] at Hsn
      have hq60 : q.length ≤ 60 := by omega
      have hlI : (a : Int) < (b.length : Int) := by omega
      have hah : a ≤ 4096 := by omega
      have Ha := hide ha
      have Hql := hide hql
      have Hf0 := hide hfl
      have hfk : (objF kind b k).length ≤ 8600 := by omega
      generalize objF kind b k = fk at *
      have H8 := hide (own_new 5 1 1 (vbs [8]) How.out rfl (by decide))
      have Hbq := hide (hbq.below (alloc1 (o := .cells (vbs [8]).toArray 5)))
      have S8 := hide (Hstr.out.alloc (.cells (vbs [8]).toArray 5))
      have nbc : ¬ bc = a := by omega
      clear hq ha hql hpn hfl hbq
      by_cases hc : b.length < a + 60
      · have hcI : (b.length : Int) < (a : Int) + 60 := by omega
        have hqn : q.length = b.length - a := by have := Hql.out; omega
        rw [hqn] at Hbq
        clear hqn
        go_wp2_with (at_builtin; refine wpList_append_bytes (F := ownR (.slice oa fk.length oc) fk * all w) rfl _ _ 33 rfl 5 hu infoByte _ [8] q rfl H8.out _ rfl Hbq.out (by simp; omega) ?_; intro v3 w3 ho3 hs3; obtain ⟨zv3, hz⟩ : ∃ z, z = [8] ++ q := ⟨_, rfl⟩; rw [← hz] at ho3; obtain ⟨av3, cv3, rfl, _, _, _, _⟩ := own_value ho3; have HO_ho3 := hide ho3; have HS_hs3 := hide hs3; have HZ_v3 := hide hz; clear ho3 hs3 hz)
        have hfz : (frame zv3).length ≤ 123 := by
          have h1 := frame_le zv3
          have h2 := congrArg List.length HZ_v3.out
          simp at h2
          omega
        have hE := frames22_any _ [zv3] _ (IsRows.one (own_bytes HO_ho3.out) 33) (by rw [frames_one]; omega)
        rw [frames_one] at hE
        have H4 := hide (HO_ho3.out.right.alloc' (.cells #[.slice av3 zv3.length cv3] 33))
        have S4 := hide ((S8.out.trans HS_hs3.out).alloc (.cells #[.slice av3 zv3.length cv3] 33))
        have Hfz := hide (show frame zv3 = frame (8 :: q) by rw [HZ_v3.out]; rfl)
        refine hE.mono ?_
        clear hE HO_ho3 HS_hs3 H8 S8 HZ_v3
        rintro e w5 ⟨out, rfl, ho, hs⟩
        have H5 := hide (on_swap (on_all_to ho H4.out))
        have S5 := hide (S4.out.trans hs)
        have HB5 := hide (own_bytes ho)
        generalize frame zv3 = fz at *
        obtain ⟨oa5, oc5, rfl, _, _, _, _⟩ := own_value ho
        clear ho hs H4 S4
        go_wp2_with (at_builtin; refine wpList_append_bytes (F := ownR (.slice oa5 fz.length oc5) fz * all w) rfl _ _ 33 rfl 5 hu infoByte _ fk fz rfl H5.out _ rfl HB5.out (by omega) ?_; intro v6 w6 ho6 hs6; obtain ⟨zv6, hz⟩ : ∃ z, z = fk ++ fz := ⟨_, rfl⟩; rw [← hz] at ho6; obtain ⟨av6, cv6, rfl, _, _, _, _⟩ := own_value ho6; have HO_ho6 := hide ho6; have HS_hs6 := hide hs6; have HZ_v6 := hide hz; clear ho6 hs6 hz)
        exact ⟨⟨k + 1, by have := Ha.out; have := Hpn.out; omega, by have := Ha.out; exact congrArg (Value.int _) (by omega), by rw [Hsn.out, ← Hfz.out, ← HZ_v6.out]; exact on_drop HO_ho6.out, S5.out.trans HS_hs6.out⟩, by have := Ha.out; have := Hpn.out; simp [intOf]; omega⟩
      · have hcI : ¬ (b.length : Int) < (a : Int) + 60 := by omega
        have hqn : q.length = ((a : Int) + 60).toNat - a := by have := Hql.out; omega
        rw [hqn] at Hbq
        clear hqn
        go_wp2_with (at_builtin; refine wpList_append_bytes (F := ownR (.slice oa fk.length oc) fk * all w) rfl _ _ 33 rfl 5 hu infoByte _ [8] q rfl H8.out _ rfl Hbq.out (by simp; omega) ?_; intro v3 w3 ho3 hs3; obtain ⟨zv3, hz⟩ : ∃ z, z = [8] ++ q := ⟨_, rfl⟩; rw [← hz] at ho3; obtain ⟨av3, cv3, rfl, _, _, _, _⟩ := own_value ho3; have HO_ho3 := hide ho3; have HS_hs3 := hide hs3; have HZ_v3 := hide hz; clear ho3 hs3 hz)
        have hfz : (frame zv3).length ≤ 123 := by
          have h1 := frame_le zv3
          have h2 := congrArg List.length HZ_v3.out
          simp at h2
          omega
        have hE := frames22_any _ [zv3] _ (IsRows.one (own_bytes HO_ho3.out) 33) (by rw [frames_one]; omega)
        rw [frames_one] at hE
        have H4 := hide (HO_ho3.out.right.alloc' (.cells #[.slice av3 zv3.length cv3] 33))
        have S4 := hide ((S8.out.trans HS_hs3.out).alloc (.cells #[.slice av3 zv3.length cv3] 33))
        have Hfz := hide (show frame zv3 = frame (8 :: q) by rw [HZ_v3.out]; rfl)
        refine hE.mono ?_
        clear hE HO_ho3 HS_hs3 H8 S8 HZ_v3
        rintro e w5 ⟨out, rfl, ho, hs⟩
        have H5 := hide (on_swap (on_all_to ho H4.out))
        have S5 := hide (S4.out.trans hs)
        have HB5 := hide (own_bytes ho)
        generalize frame zv3 = fz at *
        obtain ⟨oa5, oc5, rfl, _, _, _, _⟩ := own_value ho
        clear ho hs H4 S4
        go_wp2_with (at_builtin; refine wpList_append_bytes (F := ownR (.slice oa5 fz.length oc5) fz * all w) rfl _ _ 33 rfl 5 hu infoByte _ fk fz rfl H5.out _ rfl HB5.out (by omega) ?_; intro v6 w6 ho6 hs6; obtain ⟨zv6, hz⟩ : ∃ z, z = fk ++ fz := ⟨_, rfl⟩; rw [← hz] at ho6; obtain ⟨av6, cv6, rfl, _, _, _, _⟩ := own_value ho6; have HO_ho6 := hide ho6; have HS_hs6 := hide hs6; have HZ_v6 := hide hz; clear ho6 hs6 hz)
        exact ⟨⟨k + 1, by have := Ha.out; have := Hpn.out; omega, by have := Ha.out; exact congrArg (Value.int _) (by omega), by rw [Hsn.out, ← Hfz.out, ← HZ_v6.out]; exact on_drop HO_ho6.out, S5.out.trans HS_hs6.out⟩, by have := Ha.out; have := Hpn.out; simp [intOf]; omega⟩
    · have hlI : ¬ 60 * (k : Int) < (b.length : Int) := by omega
      have hkk : k = pieceN b.length := by omega
      have HF := hide (objF_end kind b)
      have hfl := objF_len kind b k
      have hfk : (objF kind b k).length ≤ 8700 := by omega
      rw [← hkk] at HF
      generalize objF kind b k = fk at *
      have H8 := hide (own_new 5 1 1 (vbs [3]) How.out rfl (by decide))
      have S8 := hide (Hstr.out.alloc (.cells (vbs [3]).toArray 5))
      have hE := frames22_any _ [[3]] _ (IsRows.one (own_bytes (l := [3]) H8.out) 33) (by decide)
      rw [frames_one] at hE
      have H4 := hide (H8.out.right.alloc' (.cells #[.slice (some ⟨wr.heap.size, 0, Option.none⟩) 1 1] 33))
      have S4 := hide (S8.out.alloc (.cells #[.slice (some ⟨wr.heap.size, 0, Option.none⟩) 1 1] 33))
      simp only [World.size_alloc] at hE
      have hE := show Calls Try.prog 67 #[.slice (some ⟨wr.heap.size + 1, 0, Option.none⟩) 1 1] ((wr.alloc (.cells #[.int .u8 3] 5)).alloc (.cells #[.slice (some ⟨wr.heap.size, 0, Option.none⟩) 1 1] 33)) _ from hE
      have hf3 : (frame [3]).length ≤ 3 := by decide
      clear hkk hpn hfl
      go_wp2_with fail
      refine hE.mono ?_
      clear hE H8 S8
      rintro e w5 ⟨out, rfl, ho, hs⟩
      have H5 := hide (on_swap (on_all_to ho H4.out))
      have S5 := hide (S4.out.trans hs)
      have HB5 := hide (own_bytes ho)
      generalize frame [3] = fz at *
      obtain ⟨oa5, oc5, rfl, _, _, _, _⟩ := own_value ho
      clear ho hs H4 S4
      go_wp2_with (at_builtin; refine wpList_append_bytes (F := ownR (.slice oa5 fz.length oc5) fz * all w) rfl _ _ 33 rfl 5 hu infoByte _ fk fz rfl H5.out _ rfl HB5.out (by omega) ?_; intro v6 w6 ho6 hs6; obtain ⟨zv6, hz⟩ : ∃ z, z = fk ++ fz := ⟨_, rfl⟩; rw [← hz] at ho6; obtain ⟨av6, cv6, rfl, _, _, _, _⟩ := own_value ho6; have HO_ho6 := hide ho6; have HS_hs6 := hide hs6; have HZ_v6 := hide hz; clear ho6 hs6 hz)
      go_ret
      exact ⟨_, rfl, by rw [HF.out, ← HZ_v6.out]; exact on_drop HO_ho6.out, S5.out.trans HS_hs6.out⟩
end Go.Proofs.Ytjmgnfpcieofkaa
