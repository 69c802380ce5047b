/- opcode: when a request has bytes; the document's Encode as a whole; a request as an argument. -/
import Derived.Test.YtdieaegajahdpaaOpc9
import Derived.Test.YtdieaegajahdpaaOpc10
import Derived.Test.YtdieaegajahdpaaOpc11
namespace Go.Proofs.Ytdieaegajahdpaa
open Go.ChangeShapes Go.WideShapes Go.ChangeAt Go.RowKit
set_option linter.unusedVariables false
set_option linter.unusedSimpArgs false

theorem numS_wtake (A B : List UInt8) (n k : Nat) (hk : k ≤ 4) : numS (A ++ ((wordB n).take k ++ B)) A.length k = n % 2 ^ (8 * k) := by
  have g : ∀ j, j < k → (A ++ ((wordB n).take k ++ B)).getD (A.length + j) 0 = b4 n j := by
    intro j hj
    have hl : ((wordB n).take k).length = k := by rw [List.length_take, wordB_len]; omega
    rw [List.getD_eq_getElem?_getD, List.getElem?_append_right (by omega), Nat.add_sub_cancel_left, List.getElem?_append_left (by omega), List.getElem?_take, if_pos hj]
    rcases (show j = 0 ∨ j = 1 ∨ j = 2 ∨ j = 3 by omega) with rfl | rfl | rfl | rfl <;> rfl
  rcases (show k = 0 ∨ k = 1 ∨ k = 2 ∨ k = 3 ∨ k = 4 by omega) with rfl | rfl | rfl | rfl | rfl
  · simp [numS]; omega
  · simp only [numS]; rw [g 0 (by omega), b4_toNat]; simp
  · simp only [numS]; rw [g 0 (by omega), g 1 (by omega), b4_toNat, b4_toNat]; simp only [Nat.mul_zero, Nat.pow_zero, Nat.div_one, Nat.mul_one, Nat.zero_add]; omega
  · simp only [numS]; rw [g 0 (by omega), g 1 (by omega), g 2 (by omega), b4_toNat, b4_toNat, b4_toNat]; simp only [Nat.mul_zero, Nat.pow_zero, Nat.div_one, Nat.mul_one, Nat.zero_add]; omega
  · simp only [numS]; rw [g 0 (by omega), g 1 (by omega), g 2 (by omega), g 3 (by omega), b4_toNat, b4_toNat, b4_toNat, b4_toNat]; simp only [Nat.mul_zero, Nat.pow_zero, Nat.div_one, Nat.mul_one, Nat.zero_add]; omega

theorem encOk_iff {q : ReqS} {f : Form} (hf : formOf q.op = some f) :
    encOk q = decide ((f.kind = 0 → q.type = 0) ∧ q.size % 2 ^ (8 * f.size) = q.size ∧ f.least ≤ q.data.length ∧ q.data.length ≤ f.most) := by
  obtain ⟨hk, hs, _, _⟩ := formOf_small hf
  have hd : formD q.op = f := by unfold formD; rw [hf]; rfl
  obtain ⟨A, hA, hAl⟩ : ∃ A, A = (if f.kind = 0 then [] else [q.type]) ∧ A.length = f.kind := ⟨_, rfl, by split <;> simp_all <;> omega⟩
  have hB : ((wordB q.size).take f.size).length = f.size := by rw [List.length_take, wordB_len]; omega
  have he : encBytes q = q.op :: (A ++ ((wordB q.size).take f.size ++ q.data)) := by
    unfold encBytes
    rw [hd, ← hA]
    simp
  have hl : (A ++ ((wordB q.size).take f.size ++ q.data)).length = f.kind + f.size + q.data.length := by
    rw [List.length_append, List.length_append, hB, hAl]; omega
  have hn := numS_wtake A q.data q.size f.size hs
  rw [hAl] at hn
  have hdr : (A ++ ((wordB q.size).take f.size ++ q.data)).drop (f.kind + f.size) = q.data := by
    rw [← List.append_assoc, List.drop_left' (by rw [List.length_append, hB, hAl])]
  have hA0 : f.kind ≠ 0 → (A ++ ((wordB q.size).take f.size ++ q.data)).getD 0 0 = q.type := by
    intro h
    rw [hA, if_neg h]
    rfl
  have hr : reqErr (encBytes q) = lenErr (A ++ ((wordB q.size).take f.size ++ q.data)) f := by rw [he]; simp only [reqErr, hf]
  have hg : reqGot (encBytes q) = if lenErr (A ++ ((wordB q.size).take f.size ++ q.data)) f = 0 then parsed q.op (A ++ ((wordB q.size).take f.size ++ q.data)) f else zeroQ := by rw [he]; simp only [reqGot, hf]
  unfold encOk
  rw [hr, hg]
  have hle : lenErr (A ++ ((wordB q.size).take f.size ++ q.data)) f = 0 ↔ f.least ≤ q.data.length ∧ q.data.length ≤ f.most := by
    unfold lenErr
    rw [hl]
    split
    · omega
    · split <;> omega
  by_cases h0 : lenErr (A ++ ((wordB q.size).take f.size ++ q.data)) f = 0
  · rw [if_pos h0, decide_eq_true h0, Bool.true_and]
    have h1 := hle.1 h0
    rw [Bool.eq_iff_iff, reqSame_iff, decide_eq_true_iff]
    unfold parsed
    rw [hn, hdr]
    constructor
    · intro h
      have e1 := congrArg ReqS.type h
      have e2 := congrArg ReqS.size h
      simp only at e1 e2
      refine ⟨fun hz => ?_, e2, h1⟩
      rw [← e1, if_pos hz]
    · rintro ⟨ht, hsz, _⟩
      obtain ⟨op, ty, sz, da⟩ := q
      simp only at *
      rw [hsz]
      congr
      by_cases hz : f.kind = 0
      · rw [if_pos hz, ht hz]
      · rw [if_neg hz, hA0 hz]
  · rw [decide_eq_false h0, Bool.false_and]
    symm
    rw [decide_eq_false_iff_not]
    exact fun h => h0 (hle.2 h.2.2)
theorem encOk_none {q : ReqS} (hf : formOf q.op = Option.none) : encOk q = false := by
  unfold encOk
  have he : ∃ t, encBytes q = q.op :: t := ⟨_, by unfold encBytes; simp; rfl⟩
  obtain ⟨t, he⟩ := he
  rw [he]
  simp [reqErr, hf]

theorem enc_plain (c : UInt8) (hf : formOf c = some ⟨0, 0, 0, 0⟩) (ty : UInt8) (sz : Nat) (dl : List UInt8) : decide (ty = 0 ∧ sz = 0 ∧ dl.length = 0) = encOk ⟨c, ty, sz, dl⟩ := by
  rw [encOk_iff (q := ⟨c, ty, sz, dl⟩) hf]
  apply decide_eq_decide.2
  simp only
  constructor
  · rintro ⟨h1, h2, h3⟩; exact ⟨fun _ => h1, by omega, by omega, by omega⟩
  · rintro ⟨h1, h2, h3, h4⟩; exact ⟨h1 trivial, by omega, by omega⟩
theorem eb_plain (c : UInt8) (hf : formD c = ⟨0, 0, 0, 0⟩) (ty : UInt8) (sz : Nat) (dl : List UInt8) (h : dl.length = 0) : encBytes ⟨c, ty, sz, dl⟩ = [c] := by
  obtain rfl := List.length_eq_zero_iff.1 h
  simp [encBytes, hf]

set_option maxHeartbeats 4000000 in
theorem renc_any (q : ReqS) (dv : Value) (w : World) (hsz : q.size < 4294967296) (h : IsBytes w dv q.data) (hlen : q.data.length ≤ 1000000) :
    Calls Try.prog 23 #[.agg (reqCells q dv)] w (REncEnd (encOk q) (encBytes q) w) := by
  obtain ⟨op, ty, sz, dl⟩ := q
  simp only at *
  by_cases hin : op = 0 ∨ op = 3 ∨ op = 4 ∨ op = 7 ∨ op = 12 ∨ op = 1 ∨ op = 2 ∨ op = 6 ∨ op = 9 ∨ op = 8
  · rcases hin with rfl | rfl | rfl | rfl | rfl | rfl | rfl | rfl | rfl | rfl
    · rw [← enc_plain 0 rfl]; exact renc_0 ty sz dl dv w hsz h hlen (eb_plain 0 rfl ty sz dl)
    · rw [← enc_plain 3 rfl]; exact renc_3 ty sz dl dv w hsz h hlen (eb_plain 3 rfl ty sz dl)
    · rw [← enc_plain 4 rfl]; exact renc_4 ty sz dl dv w hsz h hlen (eb_plain 4 rfl ty sz dl)
    · rw [← enc_plain 7 rfl]; exact renc_7 ty sz dl dv w hsz h hlen (eb_plain 7 rfl ty sz dl)
    · rw [← enc_plain 12 rfl]; exact renc_12 ty sz dl dv w hsz h hlen (eb_plain 12 rfl ty sz dl)
    · have hf : formOf 1 = some ⟨1, 4, 0, 0⟩ := rfl
      have e : decide (dl.length = 0) = encOk ⟨1, ty, sz, dl⟩ := by
        rw [encOk_iff (q := ⟨1, ty, sz, dl⟩) hf]
        apply decide_eq_decide.2
        simp only
        constructor
        · intro h; exact ⟨(fun h => by cases h), by omega, by omega, by omega⟩
        · rintro ⟨_, _, _, h4⟩; omega
      rw [← e]
      exact renc_1 ty sz dl dv w hsz h hlen (fun h => by
        obtain rfl := List.length_eq_zero_iff.1 h
        have hf : formD 1 = ⟨1, 4, 0, 0⟩ := rfl
        simp [encBytes, hf, wordB])
    · have hf : formOf 2 = some ⟨0, 2, 0, 0⟩ := rfl
      have e : decide (ty = 0 ∧ sz < 65536 ∧ dl.length = 0) = encOk ⟨2, ty, sz, dl⟩ := by
        rw [encOk_iff (q := ⟨2, ty, sz, dl⟩) hf]
        apply decide_eq_decide.2
        simp only
        constructor
        · rintro ⟨h1, h2, h3⟩; exact ⟨fun _ => h1, by omega, by omega, by omega⟩
        · rintro ⟨h1, h2, h3, h4⟩; exact ⟨h1 trivial, by omega, by omega⟩
      rw [← e]
      exact renc_2 ty sz dl dv w hsz h hlen (fun h => by
        obtain rfl := List.length_eq_zero_iff.1 h
        have hf : formD 2 = ⟨0, 2, 0, 0⟩ := rfl
        simp [encBytes, hf, wordB])
    · have hf : formOf 6 = some ⟨1, 0, 0, 0⟩ := rfl
      have e : decide (sz = 0 ∧ dl.length = 0) = encOk ⟨6, ty, sz, dl⟩ := by
        rw [encOk_iff (q := ⟨6, ty, sz, dl⟩) hf]
        apply decide_eq_decide.2
        simp only
        constructor
        · rintro ⟨h2, h3⟩; exact ⟨(fun h => by cases h), by omega, by omega, by omega⟩
        · rintro ⟨h1, h2, h3, h4⟩; exact ⟨by omega, by omega⟩
      rw [← e]
      exact renc_6 ty sz dl dv w hsz h hlen (fun h => by
        obtain rfl := List.length_eq_zero_iff.1 h
        have hf : formD 6 = ⟨1, 0, 0, 0⟩ := rfl
        simp [encBytes, hf, wordB])
    · have hf : formOf 9 = some ⟨1, 0, 0, 0⟩ := rfl
      have e : decide (sz = 0 ∧ dl.length = 0) = encOk ⟨9, ty, sz, dl⟩ := by
        rw [encOk_iff (q := ⟨9, ty, sz, dl⟩) hf]
        apply decide_eq_decide.2
        simp only
        constructor
        · rintro ⟨h2, h3⟩; exact ⟨(fun h => by cases h), by omega, by omega, by omega⟩
        · rintro ⟨h1, h2, h3, h4⟩; exact ⟨by omega, by omega⟩
      rw [← e]
      exact renc_9 ty sz dl dv w hsz h hlen (fun h => by
        obtain rfl := List.length_eq_zero_iff.1 h
        have hf : formD 9 = ⟨1, 0, 0, 0⟩ := rfl
        simp [encBytes, hf, wordB])
    · have hf : formOf 8 = some ⟨0, 0, 1, 64⟩ := rfl
      have e : decide (ty = 0 ∧ sz = 0 ∧ ¬dl.length = 0 ∧ dl.length ≤ 64) = encOk ⟨8, ty, sz, dl⟩ := by
        rw [encOk_iff (q := ⟨8, ty, sz, dl⟩) hf]
        apply decide_eq_decide.2
        simp only
        constructor
        · rintro ⟨h1, h2, h3, h4⟩; exact ⟨fun _ => h1, by omega, by omega, by omega⟩
        · rintro ⟨h1, h2, h3, h4⟩; exact ⟨h1 trivial, by omega, by omega, by omega⟩
      rw [← e]
      exact renc_8 ty sz dl dv w hsz h hlen (by
        have hf : formD 8 = ⟨0, 0, 1, 64⟩ := rfl
        simp [encBytes, hf, wordB])
  · rw [encOk_none (q := ⟨op, ty, sz, dl⟩) (formOf_none hin)]
    have := renc_no op ty sz dl dv w hsz h hlen hin (fun h => h.elim)
    simpa using this

theorem enc_parsed {q : ReqS} (h : encOk q = true) : reqErr (encBytes q) = 0 ∧ reqGot (encBytes q) = q := by
  unfold encOk at h
  simp only [Bool.and_eq_true, decide_eq_true_eq] at h
  exact ⟨h.1, reqSame_iff.1 h.2⟩
section
variable {H : Type} {enc : TypeId × Value → H} {w : World} {base : Nat} {spare : Nat → Bool} {held : Bool}
set_option maxRecDepth 100000 in
theorem open_req {v : Value} {d : DataW H} {p : List MemPlace} {r : _} {base' : Nat} (hv : Value.okWide Try.prog w r base' 46 v) (h : DataW.Trod enc Try.prog w base spare held 46 v d p) : ∃ q dv, v = .agg (reqCells q dv) ∧ q.size < 4294967296 ∧ IsBytes w dv q.data := by
  have hu := Try.underlying46
  have h8 := Try.underlying5
  have h32 := Try.underlying22
  have hs8 := Try.underlying23
  have c8 : Try.prog.cellsOf 5 = 1 := by kernel_rfl
  have c32 : Try.prog.cellsOf 22 = 1 := by kernel_rfl
  have cs8 : Try.prog.cellsOf 23 = 1 := by kernel_rfl
  have c4 : Try.prog.cellsOf 46 = 4 := by kernel_rfl
  obtain ⟨cs, rfl, hsz⟩ := okWide_struct hu hv
  obtain ⟨fuel, hf⟩ := h
  obtain ⟨xs, n, rfl, _, hl, hxl, hfs⟩ := DataW.trod_struct hu hf
  rw [c4] at hsz
  match xs, hxl with
  | [x0, x1, x2, x3], _ =>
    have g0 := hfs 0 _ rfl
    have g1 := hfs 1 _ rfl
    have g2 := hfs 2 _ rfl
    have g3 := hfs 3 _ rfl
    simp only [Value.cells] at g0 g1 g2 g3
    obtain ⟨n0, e0⟩ := trod_b8 h8 g0
    obtain ⟨n1, e1⟩ := trod_b8 h8 g1
    obtain ⟨n2, b2, e2⟩ := trod_u32 h32 g2
    obtain ⟨iv, l, e3, hb, _⟩ := trod_bytes hs8 h8 c8 g3
    refine ⟨⟨n0, n1, n2, l⟩, iv, ?_, b2, hb⟩
    clear g0 g1 g2 g3 hfs hf hl hv
    obtain ⟨csl⟩ := cs
    match csl, hsz with
    | [y0, y1, y2, y3], _ =>
      simp only [List.drop_succ_cons, List.drop_zero] at e0 e1 e2 e3
      change List.take (Try.prog.cellsOf 5) _ = _ at e0
      rw [c8] at e0
      change List.take (Try.prog.cellsOf 5) _ = _ at e1
      rw [c8] at e1
      change List.take (Try.prog.cellsOf 22) _ = _ at e2
      rw [c32] at e2
      change List.take (Try.prog.cellsOf 23) _ = _ at e3
      rw [cs8] at e3
      simp at e0 e1 e2 e3
      subst e0 e1 e2 e3
      rfl
end
end Go.Proofs.Ytdieaegajahdpaa
