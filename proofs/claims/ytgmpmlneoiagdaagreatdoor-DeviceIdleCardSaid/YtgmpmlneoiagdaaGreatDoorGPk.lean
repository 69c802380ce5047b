/- LAID TOGETHER: PkMath, Pk1, Pk2. -/
import Derived.Test.YtgmpmlneoiagdaaGreatDoorGRecA
import Derived.Test.YtgmpmlneoiagdaaGreatDoorGTlv
import Derived.Test.YtgmpmlneoiagdaaGreatDoorGBase2
/- Packets as bytes: what the layer's functions answer. No Go function is spoken of. -/
namespace Go.Proofs.YtgmpmlneoiagdaaGreatDoor
set_option linter.unusedVariables false
set_option linter.unusedSimpArgs false

structure PkS where
  hw : Nat
  ty : UInt8
  ver : Nat
  sz : Nat
  hash : List UInt8
  sig : List UInt8
structure PkS.Ok (p : PkS) : Prop where
  hw : p.hw < 4294967296
  ver : p.ver < 4294967296
  sz : p.sz < 4294967296
  hash : p.hash.length = 32
  sig : p.sig.length = 64
def zP : PkS := ⟨0, 0, 0, 0, List.replicate 32 0, List.replicate 64 0⟩
/-- the items that are signed; all of them -/
def descI (p : PkS) : List TItem := [⟨1, wordB p.hw⟩, ⟨2, [p.ty]⟩, ⟨3, wordB p.ver⟩, ⟨4, wordB p.sz⟩, ⟨5, p.hash⟩]
def allI (p : PkS) : List TItem := descI p ++ [⟨6, p.sig⟩]
def signedB (p : PkS) : List UInt8 := ((((([] ++ 1 :: 4 :: wordB p.hw) ++ 2 :: 1 :: [p.ty]) ++ 3 :: 4 :: wordB p.ver) ++ 4 :: 4 :: wordB p.sz) ++ 5 :: 32 :: p.hash)
def pkB (p : PkS) : List UInt8 := signedB p ++ 6 :: 64 :: p.sig
theorem signedB_len {p : PkS} (h : p.Ok) : (signedB p).length = 55 := by
  simp only [signedB, List.length_append, List.length_cons, List.length_nil, wordB_len, h.hash]
theorem pkB_len {p : PkS} (h : p.Ok) : (pkB p).length = 121 := by
  simp only [pkB, List.length_append, signedB_len h, List.length_cons, h.sig]
theorem enc_all {p : PkS} (h : p.Ok) : encodeF 0 0 (allI p) [] = (pkB p, 0) := by
  show encodeF 0 0 [⟨1, wordB p.hw⟩, ⟨2, [p.ty]⟩, ⟨3, wordB p.ver⟩, ⟨4, wordB p.sz⟩, ⟨5, p.hash⟩, ⟨6, p.sig⟩] [] = _
  rw [encodeF_good (by simp only [wordB_len]; rfl), encodeF_good (by rfl), encodeF_good (by simp only [wordB_len]; rfl), encodeF_good (by simp only [wordB_len]; rfl), encodeF_good (by simp only [h.hash]; rfl), encodeF_good (by simp only [h.sig]; rfl)]
  simp only [encodeF, h.hash, h.sig, wordB_len, List.length_cons, List.length_nil]
  rfl
/-- the packet at the fixed places -/
def pkAt (b : List UInt8) : PkS := ⟨numS b 2 4, b.getD 8 0, numS b 11 4, numS b 17 4, (b.drop 23).take 32, (b.drop 57).take 64⟩
theorem pkAt_ok {b : List UInt8} (h : b.length = 121) : (pkAt b).Ok :=
  ⟨numS_lt _ _ 4, numS_lt _ _ 4, numS_lt _ _ 4, by simp [pkAt, h], by simp [pkAt, h]⟩
/-- what is parsed -/
def pparse (b : List UInt8) : PkS × Nat :=
  if 128 < b.length then (zP, 17) else if (parseF b.length b 0 []).2 ≠ 0 then (zP, (parseF b.length b 0 []).2)
  else if b.length = 121 ∧ pkB (pkAt b) = b then (pkAt b, 0) else (zP, 7)
theorem pkAt_pkB {p : PkS} (h : p.Ok) : pkAt (pkB p) = p := by
  obtain ⟨hw, ty, ver, sz, hash, sig⟩ := p
  have h1 := h.hash
  have h2 := h.sig
  simp only at h1 h2
  have e : pkB ⟨hw, ty, ver, sz, hash, sig⟩ = [1, 4] ++ (wordB hw ++ ([2, 1, ty, 3, 4] ++ (wordB ver ++ ([4, 4] ++ (wordB sz ++ ([5, 32] ++ (hash ++ ([6, 64] ++ sig)))))))) := by
    simp [pkB, signedB]
  have e1 : numS (pkB ⟨hw, ty, ver, sz, hash, sig⟩) 2 4 = hw := by rw [e]; exact numS_word _ _ _ h.hw 2 rfl
  have e2 : numS (pkB ⟨hw, ty, ver, sz, hash, sig⟩) 11 4 = ver := by
    rw [e, show [1, 4] ++ (wordB hw ++ ([2, 1, ty, 3, 4] ++ (wordB ver ++ ([4, 4] ++ (wordB sz ++ ([5, 32] ++ (hash ++ ([6, 64] ++ sig)))))))) = ([1, 4] ++ (wordB hw ++ [2, 1, ty, 3, 4])) ++ (wordB ver ++ ([4, 4] ++ (wordB sz ++ ([5, 32] ++ (hash ++ ([6, 64] ++ sig)))))) by simp]
    exact numS_word _ _ _ h.ver 11 rfl
  have e3 : numS (pkB ⟨hw, ty, ver, sz, hash, sig⟩) 17 4 = sz := by
    rw [e, show [1, 4] ++ (wordB hw ++ ([2, 1, ty, 3, 4] ++ (wordB ver ++ ([4, 4] ++ (wordB sz ++ ([5, 32] ++ (hash ++ ([6, 64] ++ sig)))))))) = ([1, 4] ++ (wordB hw ++ ([2, 1, ty, 3, 4] ++ (wordB ver ++ [4, 4])))) ++ (wordB sz ++ ([5, 32] ++ (hash ++ ([6, 64] ++ sig)))) by simp]
    exact numS_word _ _ _ h.sz 17 rfl
  have e4 : (pkB ⟨hw, ty, ver, sz, hash, sig⟩).getD 8 0 = ty := by rw [e]; rfl
  have e5 : ((pkB ⟨hw, ty, ver, sz, hash, sig⟩).drop 23).take 32 = hash := by
    rw [e, show [1, 4] ++ (wordB hw ++ ([2, 1, ty, 3, 4] ++ (wordB ver ++ ([4, 4] ++ (wordB sz ++ ([5, 32] ++ (hash ++ ([6, 64] ++ sig)))))))) = ([1, 4] ++ (wordB hw ++ ([2, 1, ty, 3, 4] ++ (wordB ver ++ ([4, 4] ++ (wordB sz ++ [5, 32])))))) ++ (hash ++ ([6, 64] ++ sig)) by simp]
    rw [List.drop_left' (by rfl), List.take_left' h1]
  have e6 : ((pkB ⟨hw, ty, ver, sz, hash, sig⟩).drop 57).take 64 = sig := by
    rw [e, show [1, 4] ++ (wordB hw ++ ([2, 1, ty, 3, 4] ++ (wordB ver ++ ([4, 4] ++ (wordB sz ++ ([5, 32] ++ (hash ++ ([6, 64] ++ sig)))))))) = (([1, 4] ++ (wordB hw ++ ([2, 1, ty, 3, 4] ++ (wordB ver ++ ([4, 4] ++ (wordB sz ++ [5, 32])))))) ++ (hash ++ [6, 64])) ++ sig by simp]
    rw [List.drop_left' (by simp only [List.length_append, List.length_cons, List.length_nil, wordB_len, h1]), List.take_of_length_le (by omega)]
  unfold pkAt
  rw [e1, e2, e3, e4, e5, e6]
theorem wordB_num : ∀ (v : List UInt8), v.length = 4 → wordB (numS v 0 4) = v
  | [a, b, c, d], _ => by
    have ha := UInt8.toNat_lt a
    have hb := UInt8.toNat_lt b
    have hc := UInt8.toNat_lt c
    have hd := UInt8.toNat_lt d
    have e : numS [a, b, c, d] 0 4 = a.toNat + b.toNat * 256 + c.toNat * 65536 + d.toNat * 16777216 := by
      simp [numS]
    have q : ∀ (x : UInt8) (k : Nat), numS [a, b, c, d] 0 4 / 2 ^ (8 * k) % 256 = x.toNat → b4 (numS [a, b, c, d] 0 4) k = x := by
      intro x k h
      apply UInt8.toNat_inj.1
      rw [b4_toNat, h]
    unfold wordB
    rw [q a 0 (by rw [e]; omega), q b 1 (by rw [e]; omega), q c 2 (by rw [e]; omega), q d 3 (by rw [e]; omega)]
/-- are the items a packet's? -/
def shapeK (L : List TItem) : List (Nat × Nat) := L.map fun x => (x.tag.toNat, x.value.length)
def shape6 : List (Nat × Nat) := [(1, 4), (2, 1), (3, 4), (4, 4), (5, 32), (6, 64)]
theorem shaped_items {L : List TItem} (h : shapeK L = shape6) : ∃ p : PkS, p.Ok ∧ L = allI p := by
  have hl : L.length = 6 := by
    have := congrArg List.length h
    rwa [shapeK, List.length_map] at this
  match L, hl, h with
  | [⟨t1, v1⟩, ⟨t2, v2⟩, ⟨t3, v3⟩, ⟨t4, v4⟩, ⟨t5, v5⟩, ⟨t6, v6⟩], _, h =>
    simp only [shapeK, shape6, List.map_cons, List.map_nil, List.cons.injEq, Prod.mk.injEq, and_true] at h
    obtain ⟨⟨a1, b1⟩, ⟨a2, b2⟩, ⟨a3, b3⟩, ⟨a4, b4'⟩, ⟨a5, b5⟩, a6, b6⟩ := h
    have g : ∀ (t : UInt8) (n : Nat), n < 256 → t.toNat = n → t = UInt8.ofNat n := by
      intro t n hn h
      rw [← h]; simp
    obtain rfl := g t1 1 (by decide) a1
    obtain rfl := g t2 2 (by decide) a2
    obtain rfl := g t3 3 (by decide) a3
    obtain rfl := g t4 4 (by decide) a4
    obtain rfl := g t5 5 (by decide) a5
    obtain rfl := g t6 6 (by decide) a6
    match v2, b2 with
    | [c], _ =>
      refine ⟨⟨numS v1 0 4, c, numS v3 0 4, numS v4 0 4, v5, v6⟩, ⟨numS_lt _ _ 4, numS_lt _ _ 4, numS_lt _ _ 4, b5, b6⟩, ?_⟩
      unfold allI descI
      simp only [wordB_num v1 b1, wordB_num v3 b3, wordB_num v4 b4']
      rfl
theorem allI_shape {p : PkS} (h : p.Ok) : shapeK (allI p) = shape6 := by
  unfold shapeK allI descI
  simp only [List.cons_append, List.nil_append, List.map_cons, List.map_nil, h.hash, h.sig]
  rfl
theorem parse_shape {b : List UInt8} {L : List TItem} (hp : parseF b.length b 0 [] = (L, 0)) : shapeK L = shape6 ↔ (b.length = 121 ∧ pkB (pkAt b) = b) := by
  constructor
  · intro h
    obtain ⟨p, hk, rfl⟩ := shaped_items h
    have h1 := parse_encode hp
    rw [enc_all hk] at h1
    simp only [Prod.mk.injEq, and_true] at h1
    subst h1
    exact ⟨pkB_len hk, by rw [pkAt_pkB hk]⟩
  · rintro ⟨h1, h2⟩
    have hk := pkAt_ok h1
    have h3 := encode_parse (enc_all hk)
    rw [h2, hp] at h3
    simp only [Prod.mk.injEq, and_true] at h3
    rw [h3]
    exact allI_shape hk
theorem parse_all {b : List UInt8} {L : List TItem} (hp : parseF b.length b 0 [] = (L, 0)) (h : shapeK L = shape6) : (pkAt b).Ok ∧ L = allI (pkAt b) := by
  obtain ⟨h1, h2⟩ := (parse_shape hp).1 h
  have hk := pkAt_ok h1
  have h3 := encode_parse (enc_all hk)
  rw [h2, hp] at h3
  simp only [Prod.mk.injEq, and_true] at h3
  exact ⟨hk, h3⟩
end Go.Proofs.YtgmpmlneoiagdaaGreatDoor

/- packet: a packet's cells; its items and their bytes. -/
namespace Go.Proofs.YtgmpmlneoiagdaaGreatDoor
open Go.ChangeShapes Go.WideShapes Go.ChangeAt Go.RowKit
set_option linter.unusedVariables false
set_option linter.unusedSimpArgs false

/-- a packet's cells; the document's -/
def pkL (p : PkS) : List Value := [.int .u32 p.hw, vb p.ty, .int .u32 p.ver, .int .u32 p.sz] ++ (vbs p.hash ++ vbs p.sig)
def pkC (p : PkS) : Array Value := (pkL p).toArray
theorem pkC_size {p : PkS} (h : p.Ok) : (pkC p).size = 100 := by simp [pkC, pkL, h.hash, h.sig]
theorem pkC_one (p : PkS) : (pkC p).all (·.oneCell') = true := by
  rw [Array.all_eq_true_iff_forall_mem]
  intro x hx
  simp only [pkC, pkL, List.mem_toArray, List.mem_append, List.mem_cons, List.not_mem_nil, or_false, vbs, List.mem_map] at hx
  rcases hx with (rfl | rfl | rfl | rfl) | ⟨y, _, rfl⟩ | ⟨y, _, rfl⟩ <;> rfl
theorem pk_cells (p : PkS) (X : World) (g : Nat) (t : TypeId) (hX : X.heap[g]? = some (.cells (pkC p) t (0, 0))) :
    X.cell? ⟨g, 0, Option.none⟩ = some (.int .u32 p.hw) ∧ X.cell? ⟨g, 1, Option.none⟩ = some (vb p.ty) ∧ X.cell? ⟨g, 2, Option.none⟩ = some (.int .u32 p.ver) ∧ X.cell? ⟨g, 3, Option.none⟩ = some (.int .u32 p.sz) := by
  refine ⟨?_, ?_, ?_, ?_⟩ <;> (rw [cell_of_row _ _ _ _ _ _ hX]; rfl)
/-- a whole array of bytes as a slice -/
theorem arr_whole (t : TypeId) (n : Nat) (ht : Tryz.prog.underlying t = some (.array n 5)) (q off : Nat) (X : World) : (Instr.sliceAt t (.pointer (some ⟨q, off, Option.none⟩)) Option.none Option.none Option.none).run Tryz.prog X = .ok (.slice (some ⟨q, off, Option.none⟩) n n) X := by
  have h8 : (sizeOf 5).run Tryz.prog X = .ok 1 X := by
    obtain ⟨i, hq, _, hs, _⟩ := info_some infoT
    simp [sizeOf, typeInfo, hq, hs]
  have e1 : Tryz.prog.arrayLen t = n := by simp [Program.arrayLen, ht]
  have e2 : Tryz.prog.elem t = 5 := by simp [Program.elem, ht]
  have hu : Tryz.prog.underlying t = some (.array (Tryz.prog.arrayLen t) (Tryz.prog.elem t)) := by rw [e1, e2]; exact ht
  rw [run_sliceAt_array_all X _ ⟨q, off, Option.none⟩ hu, e1, e2, h8]
  have e4 : (⟨q, off, Option.none⟩ : Addr).add (0 * 1) = ⟨q, off, Option.none⟩ := by unfold Addr.add; split <;> simp_all
  simp [Result.andThen_ok, slicedAt, e4]

end Go.Proofs.YtgmpmlneoiagdaaGreatDoor

/- packet: a packet's items, and their bytes. -/
namespace Go.Proofs.YtgmpmlneoiagdaaGreatDoor
open Go.ChangeShapes Go.WideShapes Go.ChangeAt Go.RowKit
set_option linter.unusedVariables false
set_option linter.unusedSimpArgs false

/-- a packet's items, as they stand somewhere -/
def DescP (p : PkS) (u : Value) (Y : World) : Prop := ∃ g L, u = .slice (some ⟨g, 0, Option.none⟩) 5 5 ∧ L.map Prod.snd = descI p ∧ Lay Y (some ⟨g, 0, Option.none⟩) (itCells L) ∧ ∀ (i : Nat) (v : Value) (e : TItem), L[i]? = some (v, e) → IsBytes Y v e.value
theorem DescP.below {p : PkS} {u : Value} {X Y : World} (h : DescP p u X) (k : Stay X Y) : DescP p u Y := by
  obtain ⟨g, L, h1, h2, h3, h4⟩ := h
  exact ⟨g, L, h1, h2, h3.below k, fun i v e he => (h4 i v e he).below k⟩
theorem DescP.items {p : PkS} {u : Value} {X : World} (h : DescP p u X) : ∃ L, L.map Prod.snd = descI p ∧ IsItems X u L := by
  obtain ⟨g, L, h1, h2, h3, h4⟩ := h
  have hl : L.length = 5 := by have := congrArg List.length h2; simpa [descI] using this
  exact ⟨L, h2, _, _, by rw [hl]; exact h1, by omega, by decide, h3, h4⟩
/-- an item as a value -/
def ItP (t : UInt8) (l : List UInt8) (u : Value) (X : World) : Prop := ∃ v, u = .agg #[vb t, v] ∧ IsBytes X v l
theorem ItP.below {t : UInt8} {l : List UInt8} {u : Value} {X Y : World} (h : ItP t l u X) (k : Stay X Y) : ItP t l u Y := by
  obtain ⟨v, h1, h2⟩ := h
  exact ⟨v, h1, h2.below k⟩
def ItsP (p : PkS) (u : Value) (X : World) : Prop := ∃ L, L.map Prod.snd = allI p ∧ IsItems X u L
theorem ItsP.below {p : PkS} {u : Value} {X Y : World} (h : ItsP p u X) (k : Stay X Y) : ItsP p u Y := by
  obtain ⟨L, h1, h2⟩ := h
  exact ⟨L, h1, h2.below k⟩
/-- a row that a call made, somewhere -/
def MadeP (w : World) (l : List UInt8) (u : Value) (Y : World) : Prop := (ownT u l * all w).on Y ∧ Str w Y
theorem MadeP.below {w : World} {l : List UInt8} {u : Value} {X Y : World} (h : MadeP w l u X) (k : Stay X Y) : MadeP w l u Y := ⟨SP.on.below h.1 k, h.2.trans (Str.below k)⟩

end Go.Proofs.YtgmpmlneoiagdaaGreatDoor
