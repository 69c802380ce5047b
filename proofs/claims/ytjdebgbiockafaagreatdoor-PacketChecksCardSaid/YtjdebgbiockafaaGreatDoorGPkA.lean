/- A part. -/
import Derived.Test.YtjdebgbiockafaaGreatDoorGMi
import Derived.Test.YtjdebgbiockafaaGreatDoorGTl
import Derived.Laws.CopyOwn
import Derived.Handy
set_option linter.unusedVariables false
set_option linter.unusedSimpArgs false
set_option maxRecDepth 100000
set_option maxHeartbeats 8000000
namespace Go.Proofs.YtjdebgbiockafaaGreatDoor
structure PkS where
 hw : Nat
 ty : UInt8
 ver : Nat
 sz : Nat
 hash : List UInt8
 sig : List UInt8
structure PkS.Ok (p : PkS) : Prop where
 hw : p.hw < 4294967296
 ver : p.ver < 4294967296
 sz : p.sz < 4294967296
 hash : p.hash.length = 32
 sig : p.sig.length = 64
def zP : PkS := ⟨0, 0, 0, 0, List.replicate 32 0, List.replicate 64 0⟩
theorem zP_ok : zP.Ok := ⟨by decide, by decide, by decide, rfl, rfl⟩
def descI (p : PkS) : List TItem := [⟨1, wordB p.hw⟩, ⟨2, [p.ty]⟩, ⟨3, wordB p.ver⟩, ⟨4, wordB p.sz⟩, ⟨5, p.hash⟩]
def allI (p : PkS) : List TItem := descI p ++ [⟨6, p.sig⟩]
def signedB (p : PkS) : List UInt8 := ((((([] ++ 1 :: 4 :: wordB p.hw) ++ 2 :: 1 :: [p.ty]) ++ 3 :: 4 :: wordB p.ver) ++ 4 :: 4 :: wordB p.sz) ++ 5 :: 32 :: p.hash)
def pkB (p : PkS) : List UInt8 := signedB p ++ 6 :: 64 :: p.sig
theorem signedB_len {p : PkS} (h : p.Ok) : (signedB p).length = 55 := by
 simp only [signedB, List.length_append, List.length_cons, List.length_nil, wordB_len, h.hash]
theorem pkB_len {p : PkS} (h : p.Ok) : (pkB p).length = 121 := by
 simp only [pkB, List.length_append, signedB_len h, List.length_cons, h.sig]
theorem enc_desc {p : PkS} (h : p.Ok) : encodeF 0 0 (descI p) [] = (signedB p, 0) := by
 unfold descI
 rw [encodeF_good (by simp only [wordB_len]; rfl), encodeF_good (by rfl), encodeF_good (by simp only [wordB_len]; rfl), encodeF_good (by simp only [wordB_len]; rfl), encodeF_good (by simp only [h.hash]; rfl)]
 simp only [encodeF, h.hash, wordB_len, List.length_cons, List.length_nil]
 rfl
theorem enc_all {p : PkS} (h : p.Ok) : encodeF 0 0 (allI p) [] = (pkB p, 0) := by
 show encodeF 0 0 [⟨1, wordB p.hw⟩, ⟨2, [p.ty]⟩, ⟨3, wordB p.ver⟩, ⟨4, wordB p.sz⟩, ⟨5, p.hash⟩, ⟨6, p.sig⟩] [] = _
 rw [encodeF_good (by simp only [wordB_len]; rfl), encodeF_good (by rfl), encodeF_good (by simp only [wordB_len]; rfl), encodeF_good (by simp only [wordB_len]; rfl), encodeF_good (by simp only [h.hash]; rfl), encodeF_good (by simp only [h.sig]; rfl)]
 simp only [encodeF, h.hash, h.sig, wordB_len, List.length_cons, List.length_nil]
 rfl
def pkAt (b : List UInt8) : PkS := ⟨numS b 2 4, b.getD 8 0, numS b 11 4, numS b 17 4, (b.drop 23).take 32, (b.drop 57).take 64⟩
theorem pkAt_ok {b : List UInt8} (h : b.length = 121) : (pkAt b).Ok :=
 ⟨numS_lt _ _ 4, numS_lt _ _ 4, numS_lt _ _ 4, by simp [pkAt, h], by simp [pkAt, h]⟩
def pparse (b : List UInt8) : PkS × Nat :=
 if 128 < b.length then (zP, 17) else if (parseF b.length b 0 []).2 ≠ 0 then (zP, (parseF b.length b 0 []).2)
 else if b.length = 121 ∧ pkB (pkAt b) = b then (pkAt b, 0) else (zP, 7)
theorem pkAt_pkB {p : PkS} (h : p.Ok) : pkAt (pkB p) = p := by
 obtain ⟨hw, ty, ver, sz, hash, sig⟩ := p
 have h1 := h.hash
 have h2 := h.sig
 simp only at h1 h2
 have e : pkB ⟨hw, ty, ver, sz, hash, sig⟩ = [1, 4] ++ (wordB hw ++ ([2, 1, ty, 3, 4] ++ (wordB ver ++ ([4, 4] ++ (wordB sz ++ ([5, 32] ++ (hash ++ ([6, 64] ++ sig)))))))) := by
  simp [pkB, signedB]
 have e1 : numS (pkB ⟨hw, ty, ver, sz, hash, sig⟩) 2 4 = hw := by rw [e]; exact numS_word _ _ _ h.hw 2 rfl
 have e2 : numS (pkB ⟨hw, ty, ver, sz, hash, sig⟩) 11 4 = ver := by
  rw [e, show [1, 4] ++ (wordB hw ++ ([2, 1, ty, 3, 4] ++ (wordB ver ++ ([4, 4] ++ (wordB sz ++ ([5, 32] ++ (hash ++ ([6, 64] ++ sig)))))))) = ([1, 4] ++ (wordB hw ++ [2, 1, ty, 3, 4])) ++ (wordB ver ++ ([4, 4] ++ (wordB sz ++ ([5, 32] ++ (hash ++ ([6, 64] ++ sig)))))) by simp]
  exact numS_word _ _ _ h.ver 11 rfl
 have e3 : numS (pkB ⟨hw, ty, ver, sz, hash, sig⟩) 17 4 = sz := by
  rw [e, show [1, 4] ++ (wordB hw ++ ([2, 1, ty, 3, 4] ++ (wordB ver ++ ([4, 4] ++ (wordB sz ++ ([5, 32] ++ (hash ++ ([6, 64] ++ sig)))))))) = ([1, 4] ++ (wordB hw ++ ([2, 1, ty, 3, 4] ++ (wordB ver ++ [4, 4])))) ++ (wordB sz ++ ([5, 32] ++ (hash ++ ([6, 64] ++ sig)))) by simp]
  exact numS_word _ _ _ h.sz 17 rfl
 have e4 : (pkB ⟨hw, ty, ver, sz, hash, sig⟩).getD 8 0 = ty := by rw [e]; rfl
 have e5 : ((pkB ⟨hw, ty, ver, sz, hash, sig⟩).drop 23).take 32 = hash := by
  rw [e, show [1, 4] ++ (wordB hw ++ ([2, 1, ty, 3, 4] ++ (wordB ver ++ ([4, 4] ++ (wordB sz ++ ([5, 32] ++ (hash ++ ([6, 64] ++ sig)))))))) = ([1, 4] ++ (wordB hw ++ ([2, 1, ty, 3, 4] ++ (wordB ver ++ ([4, 4] ++ (wordB sz ++ [5, 32])))))) ++ (hash ++ ([6, 64] ++ sig)) by simp]
  rw [List.drop_left' (by rfl), List.take_left' h1]
 have e6 : ((pkB ⟨hw, ty, ver, sz, hash, sig⟩).drop 57).take 64 = sig := by
  rw [e, show [1, 4] ++ (wordB hw ++ ([2, 1, ty, 3, 4] ++ (wordB ver ++ ([4, 4] ++ (wordB sz ++ ([5, 32] ++ (hash ++ ([6, 64] ++ sig)))))))) = (([1, 4] ++ (wordB hw ++ ([2, 1, ty, 3, 4] ++ (wordB ver ++ ([4, 4] ++ (wordB sz ++ [5, 32])))))) ++ (hash ++ [6, 64])) ++ sig by simp]
  rw [List.drop_left' (by simp only [List.length_append, List.length_cons, List.length_nil, wordB_len, h1]), List.take_of_length_le (by omega)]
 unfold pkAt
 rw [e1, e2, e3, e4, e5, e6]
theorem wordB_num : ∀ (v : List UInt8), v.length = 4 → wordB (numS v 0 4) = v
 | [a, b, c, d], _ => by
  have ha := UInt8.toNat_lt a
  have hb := UInt8.toNat_lt b
  have hc := UInt8.toNat_lt c
  have hd := UInt8.toNat_lt d
  have e : numS [a, b, c, d] 0 4 = a.toNat + b.toNat * 256 + c.toNat * 65536 + d.toNat * 16777216 := by
   simp [numS]
  have q : ∀ (x : UInt8) (k : Nat), numS [a, b, c, d] 0 4 / 2 ^ (8 * k) % 256 = x.toNat → b4 (numS [a, b, c, d] 0 4) k = x := by
   intro x k h
   apply UInt8.toNat_inj.1
   rw [b4_toNat, h]
  unfold wordB
  rw [q a 0 (by rw [e]; omega), q b 1 (by rw [e]; omega), q c 2 (by rw [e]; omega), q d 3 (by rw [e]; omega)]
def shapeK (L : List TItem) : List (Nat × Nat) := L.map fun x => (x.tag.toNat, x.value.length)
def shape6 : List (Nat × Nat) := [(1, 4), (2, 1), (3, 4), (4, 4), (5, 32), (6, 64)]
theorem shaped_items {L : List TItem} (h : shapeK L = shape6) : ∃ p : PkS, p.Ok ∧ L = allI p := by
 have hl : L.length = 6 := by
  have := congrArg List.length h
  rwa [shapeK, List.length_map] at this
 match L, hl, h with
 | [⟨t1, v1⟩, ⟨t2, v2⟩, ⟨t3, v3⟩, ⟨t4, v4⟩, ⟨t5, v5⟩, ⟨t6, v6⟩], _, h =>
  simp only [shapeK, shape6, List.map_cons, List.map_nil, List.cons.injEq, Prod.mk.injEq, and_true] at h
  obtain ⟨⟨a1, b1⟩, ⟨a2, b2⟩, ⟨a3, b3⟩, ⟨a4, b4'⟩, ⟨a5, b5⟩, a6, b6⟩ := h
  have g : ∀ (t : UInt8) (n : Nat), n < 256 → t.toNat = n → t = UInt8.ofNat n := by
   intro t n hn h
   rw [← h]; simp
  obtain rfl := g t1 1 (by decide) a1
  obtain rfl := g t2 2 (by decide) a2
  obtain rfl := g t3 3 (by decide) a3
  obtain rfl := g t4 4 (by decide) a4
  obtain rfl := g t5 5 (by decide) a5
  obtain rfl := g t6 6 (by decide) a6
  match v2, b2 with
  | [c], _ =>
   refine ⟨⟨numS v1 0 4, c, numS v3 0 4, numS v4 0 4, v5, v6⟩, ⟨numS_lt _ _ 4, numS_lt _ _ 4, numS_lt _ _ 4, b5, b6⟩, ?_⟩
   unfold allI descI
   simp only [wordB_num v1 b1, wordB_num v3 b3, wordB_num v4 b4']
   rfl
theorem allI_shape {p : PkS} (h : p.Ok) : shapeK (allI p) = shape6 := by
 unfold shapeK allI descI
 simp only [List.cons_append, List.nil_append, List.map_cons, List.map_nil, h.hash, h.sig]
 rfl
theorem parse_shape {b : List UInt8} {L : List TItem} (hp : parseF b.length b 0 [] = (L, 0)) : shapeK L = shape6 ↔ (b.length = 121 ∧ pkB (pkAt b) = b) := by
 constructor
 ·intro h
  obtain ⟨p, hk, rfl⟩ := shaped_items h
  have h1 := parse_encode hp
  rw [enc_all hk] at h1
  simp only [Prod.mk.injEq, and_true] at h1
  subst h1
  exact ⟨pkB_len hk, by rw [pkAt_pkB hk]⟩
 rintro ⟨h1, h2⟩
 have hk := pkAt_ok h1
 have h3 := encode_parse (enc_all hk)
 rw [h2, hp] at h3
 simp only [Prod.mk.injEq, and_true] at h3
 rw [h3]
 exact allI_shape hk
theorem parse_all {b : List UInt8} {L : List TItem} (hp : parseF b.length b 0 [] = (L, 0)) (h : shapeK L = shape6) : (pkAt b).Ok ∧ L = allI (pkAt b) := by
 obtain ⟨h1, h2⟩ := (parse_shape hp).1 h
 have hk := pkAt_ok h1
 have h3 := encode_parse (enc_all hk)
 rw [h2, hp] at h3
 simp only [Prod.mk.injEq, and_true] at h3
 exact ⟨hk, h3⟩
theorem pparse_pkB {p : PkS} (h : p.Ok) : pparse (pkB p) = (p, 0) := by
 have hp := encode_parse (enc_all h)
 have hl := pkB_len h
 unfold pparse
 rw [if_neg (by omega), hp, if_neg (by simp), if_pos ⟨hl, by rw [pkAt_pkB h]⟩, pkAt_pkB h]
theorem pparse_ok {b : List UInt8} : (pparse b).1.Ok := by
 unfold pparse
 split
 ·exact zP_ok
 split
 ·exact zP_ok
 split
 ·next h => exact pkAt_ok h.1
 exact zP_ok
end Go.Proofs.YtjdebgbiockafaaGreatDoor
namespace Go.Proofs.YtjdebgbiockafaaGreatDoor
open Go.ChangeShapes Go.WideShapes Go.ChangeAt Go.RowKit
def pkL (p : PkS) : List Value := [.int .u32 p.hw, vb p.ty, .int .u32 p.ver, .int .u32 p.sz] ++ (vbs p.hash ++ vbs p.sig)
def rpL (p : PkS) : List Value := [.int .u32 p.hw, .int .u32 p.ver, .int .u32 p.sz, vb p.ty] ++ (vbs p.hash ++ vbs p.sig)
def pkC (p : PkS) : Array Value := (pkL p).toArray
def rpC (p : PkS) : Array Value := (rpL p).toArray
theorem pkC_size {p : PkS} (h : p.Ok) : (pkC p).size = 100 := by simp [pkC, pkL, h.hash, h.sig]
theorem rpC_size {p : PkS} (h : p.Ok) : (rpC p).size = 100 := by simp [rpC, rpL, h.hash, h.sig]
theorem pkC_one (p : PkS) : (pkC p).all (·.oneCell') = true := by
 rw [Array.all_eq_true_iff_forall_mem]
 intro x hx
 simp only [pkC, pkL, List.mem_toArray, List.mem_append, List.mem_cons, List.not_mem_nil, or_false, vbs, List.mem_map] at hx
 rcases hx with (rfl | rfl | rfl | rfl) | ⟨y, _, rfl⟩ | ⟨y, _, rfl⟩ <;> rfl
theorem rpC_one (p : PkS) : (rpC p).all (·.oneCell') = true := by
 rw [Array.all_eq_true_iff_forall_mem]
 intro x hx
 simp only [rpC, rpL, List.mem_toArray, List.mem_append, List.mem_cons, List.not_mem_nil, or_false, vbs, List.mem_map] at hx
 rcases hx with (rfl | rfl | rfl | rfl) | ⟨y, _, rfl⟩ | ⟨y, _, rfl⟩ <;> rfl
theorem drop4 (a b c d : Value) (l : List Value) : ([a, b, c, d] ++ l).drop 4 = l := rfl
theorem pk_hash {p : PkS} (h : p.Ok) (X : World) (g : Nat) (t : TypeId) (hX : X.heap[g]? = some (.cells (pkC p) t (0, 0))) : Lay X (some ⟨g, 4, .none⟩) (vbs p.hash) := by
 intro i u hu
 refine ⟨_, _, rfl, ?_⟩
 rw [cell_of_row _ _ _ _ _ _ hX]
 unfold pkC pkL
 rw [List.getElem?_toArray, List.getElem?_append_right (by simp), show 4 + i - [Value.int .u32 p.hw, vb p.ty, .int .u32 p.ver, .int .u32 p.sz].length = i by simp]
 rw [List.getElem?_append_left ((List.getElem?_eq_some_iff.1 hu).1)]
 exact hu
theorem pk_sig {p : PkS} (h : p.Ok) (X : World) (g : Nat) (t : TypeId) (hX : X.heap[g]? = some (.cells (pkC p) t (0, 0))) : Lay X (some ⟨g, 36, .none⟩) (vbs p.sig) := by
 intro i u hu
 refine ⟨_, _, rfl, ?_⟩
 rw [cell_of_row _ _ _ _ _ _ hX]
 unfold pkC pkL
 have hl : (vbs p.hash).length = 32 := by simp [vbs, h.hash]
 rw [List.getElem?_toArray, List.getElem?_append_right (by simp; omega), show 36 + i - [Value.int .u32 p.hw, vb p.ty, .int .u32 p.ver, .int .u32 p.sz].length = 32 + i by simp; omega]
 rw [List.getElem?_append_right (by omega), hl, Nat.add_sub_cancel_left]
 exact hu
theorem rp_hash {p : PkS} (h : p.Ok) (X : World) (g : Nat) (t : TypeId) (hX : X.heap[g]? = some (.cells (rpC p) t (0, 0))) : Lay X (some ⟨g, 4, .none⟩) (vbs p.hash) := by
 intro i u hu
 refine ⟨_, _, rfl, ?_⟩
 rw [cell_of_row _ _ _ _ _ _ hX]
 unfold rpC rpL
 rw [List.getElem?_toArray, List.getElem?_append_right (by simp), show 4 + i - [Value.int .u32 p.hw, .int .u32 p.ver, .int .u32 p.sz, vb p.ty].length = i by simp]
 rw [List.getElem?_append_left ((List.getElem?_eq_some_iff.1 hu).1)]
 exact hu
theorem rp_sig {p : PkS} (h : p.Ok) (X : World) (g : Nat) (t : TypeId) (hX : X.heap[g]? = some (.cells (rpC p) t (0, 0))) : Lay X (some ⟨g, 36, .none⟩) (vbs p.sig) := by
 intro i u hu
 refine ⟨_, _, rfl, ?_⟩
 rw [cell_of_row _ _ _ _ _ _ hX]
 unfold rpC rpL
 have hl : (vbs p.hash).length = 32 := by simp [vbs, h.hash]
 rw [List.getElem?_toArray, List.getElem?_append_right (by simp; omega), show 36 + i - [Value.int .u32 p.hw, .int .u32 p.ver, .int .u32 p.sz, vb p.ty].length = 32 + i by simp; omega]
 rw [List.getElem?_append_right (by omega), hl, Nat.add_sub_cancel_left]
 exact hu
theorem pk_cells (p : PkS) (X : World) (g : Nat) (t : TypeId) (hX : X.heap[g]? = some (.cells (pkC p) t (0, 0))) :
  X.cell? ⟨g, 0, .none⟩ = some (.int .u32 p.hw) ∧ X.cell? ⟨g, 1, .none⟩ = some (vb p.ty) ∧ X.cell? ⟨g, 2, .none⟩ = some (.int .u32 p.ver) ∧ X.cell? ⟨g, 3, .none⟩ = some (.int .u32 p.sz) := by
 refine ⟨?_, ?_, ?_, ?_⟩ <;> (rw [cell_of_row _ _ _ _ _ _ hX]; rfl)
theorem rp_cells (p : PkS) (X : World) (g : Nat) (t : TypeId) (hX : X.heap[g]? = some (.cells (rpC p) t (0, 0))) :
  X.cell? ⟨g, 0, .none⟩ = some (.int .u32 p.hw) ∧ X.cell? ⟨g, 1, .none⟩ = some (.int .u32 p.ver) ∧ X.cell? ⟨g, 2, .none⟩ = some (.int .u32 p.sz) ∧ X.cell? ⟨g, 3, .none⟩ = some (vb p.ty) := by
 refine ⟨?_, ?_, ?_, ?_⟩ <;> (rw [cell_of_row _ _ _ _ _ _ hX]; rfl)
theorem arr_whole (t : TypeId) (n : Nat) (ht : Tryz.prog.underlying t = some (.array n 5)) (q off : Nat) (X : World) : (Instr.sliceAt t (.pointer (some ⟨q, off, .none⟩)) Option.none Option.none Option.none).run Tryz.prog X = .ok (.slice (some ⟨q, off, .none⟩) n n) X := by
 have h8 : (sizeOf 5).run Tryz.prog X = .ok 1 X := by
  obtain ⟨i, hq, _, hs, _⟩ := info_some infoT
  simp [sizeOf, typeInfo, hq, hs]
 have e1 : Tryz.prog.arrayLen t = n := by simp [Program.arrayLen, ht]
 have e2 : Tryz.prog.elem t = 5 := by simp [Program.elem, ht]
 have hu : Tryz.prog.underlying t = some (.array (Tryz.prog.arrayLen t) (Tryz.prog.elem t)) := by rw [e1, e2]; exact ht
 rw [run_sliceAt_array_all X _ ⟨q, off, .none⟩ hu, e1, e2, h8]
 have e4 : (⟨q, off, .none⟩ : Addr).add (0 * 1) = ⟨q, off, .none⟩ := by unfold Addr.add; split <;> simp_all
 simp [Result.andThen_ok, slicedAt, e4]
theorem bytesOf_any (n : Nat) (w : World) : Calls Tryz.prog 52 #[.int .u32 n] w (Makes w fun v => ownT v (wordB n)) := by
 have h := own_new 5 1 4 (vbs (wordB n)) (on_all w) rfl (by decide)
 have hs := (Str.refl w).alloc (.cells (vbs (wordB n)).toArray 5)
 rw [show (vbs (wordB n)).toArray = #[.int .u8 ((n : Int) % 256), .int .u8 ((n : Int) / 256 % 256), .int .u8 ((n : Int) / 65536 % 256), .int .u8 ((n : Int) / 16777216 % 256)] by simp [vbs, wordB, vb, b4_toNat]] at h hs
 have H := hide h
 have HS := hide hs
 clear h hs
 go_enter Tryz.func52, Tryz.ntmps52
 go_wp2
 go_ret
 exact ⟨_, rfl, H.out, HS.out⟩
theorem run_append_full {P : Program} {w : World} (t ty e : TypeId) (i : TypeInfo) (z : Value) (size bytes : Nat) (ht : P.underlying t = some (.slice e)) (hi : P.info? e = some i) (hz : i.zero = some z)
  (hsize : i.size = size) (hby : i.bytes = bytes) (hzs : z.cells.size = size) (hsz : 0 < size)
  (g n cap : Nat) (xs : List Value) (hx : xs.length = n * size) (hlay : Lay w (some ⟨g, 0, .none⟩) xs)
  (a : Addr) (m c : Nat) (hfull : cap < n + m) (news : List Value) (hl : news.length = m * size) (hnews : Lay w (some a) news)
  (h63 : n + m ≤ maxLen) (hbytes : (n + m) * bytes ≤ 140737488355328) (hm : 0 < m) :
  ∃ v' w', (Builtin.append_ #[t, t] ty #[.slice (some ⟨g, 0, .none⟩) n cap, .slice (some a) m c]).run P w = .ok v' w' ∧ (own e size v' (n + m) (xs ++ news) * all w).on w' ∧ Stay w w' := by
 have hlenx : (xs ++ news).length = (n + m) * size := by rw [List.length_append, hx, hl, Nat.add_mul]
 have hnews' : ∀ j u, news[j]? = some u → w.cell? (a.add j) = some u := by
  intro j u hu
  obtain ⟨b, off, e1, e2⟩ := hnews j u hu
  cases e1
  have : (⟨b, off, .none⟩ : Addr).add j = ⟨b, off + j, .none⟩ := by unfold Addr.add; split <;> simp_all
  rw [this]; exact e2
 have holds : ∀ j u, xs[j]? = some u → w.cell? ((⟨g, 0, .none⟩ : Addr).add j) = some u := by
  intro j u hu
  obtain ⟨b, off, e1, e2⟩ := hlay j u hu
  cases e1
  have : (⟨g, 0, .none⟩ : Addr).add j = ⟨g, 0 + j, .none⟩ := by unfold Addr.add; split <;> simp_all
  rw [this]; exact e2
 subst hsize
 subst hby
 have hsmall : n + m ≤ 9223372036854775807 := by simp only [maxLen] at h63; omega
 have hr := run_append_grow (P := P) w t ty e i z ht hi hz ⟨g, 0, .none⟩ n cap xs hx holds a m c news hl hnews' (by omega) (by omega) (growslice_fits (by omega) hbytes)
 have hge := grownCap_ge w (n + m) cap e
 have hle := grownCap_le_maxLen w (n + m) cap e h63
 refine ⟨_, _, hr, own_of_blk (SP.on.alloc (w := w.drew) (on_all w).drew _) hlenx hge hle ?_ ?_, ((Below.refl _ _).drew).alloc (by simp) _⟩
 ·simp only [Array.size_append, List.size_toArray, size_zeroCells, hzs]
  rw [show xs.length + news.length = (n + m) * i.size by simpa using hlenx, ← Nat.add_mul]
  congr 1
  omega
 simp only [Array.toList_append]
 rw [← hlenx]
 exact List.take_left
def DescP (p : PkS) (u : Value) (Y : World) : Prop := ∃ g L, u = .slice (some ⟨g, 0, .none⟩) 5 5 ∧ L.map Prod.snd = descI p ∧ Lay Y (some ⟨g, 0, .none⟩) (itCells L) ∧ ∀ (i : Nat) (v : Value) (e : TItem), L[i]? = some (v, e) → IsBytes Y v e.value
theorem DescP.below {p : PkS} {u : Value} {X Y : World} (h : DescP p u X) (k : Stay X Y) : DescP p u Y := by
 obtain ⟨g, L, h1, h2, h3, h4⟩ := h
 exact ⟨g, L, h1, h2, h3.below k, fun i v e he => (h4 i v e he).below k⟩
theorem DescP.items {p : PkS} {u : Value} {X : World} (h : DescP p u X) : ∃ L, L.map Prod.snd = descI p ∧ IsItems X u L := by
 obtain ⟨g, L, h1, h2, h3, h4⟩ := h
 have hl : L.length = 5 := by have := congrArg List.length h2; simpa [descI] using this
 exact ⟨L, h2, _, _, by rw [hl]; exact h1, by omega, by decide, h3, h4⟩
def ItP (t : UInt8) (l : List UInt8) (u : Value) (X : World) : Prop := ∃ v, u = .agg #[vb t, v] ∧ IsBytes X v l
theorem ItP.below {t : UInt8} {l : List UInt8} {u : Value} {X Y : World} (h : ItP t l u X) (k : Stay X Y) : ItP t l u Y := by
 obtain ⟨v, h1, h2⟩ := h
 exact ⟨v, h1, h2.below k⟩
def ItsP (p : PkS) (u : Value) (X : World) : Prop := ∃ L, L.map Prod.snd = allI p ∧ IsItems X u L
theorem ItsP.below {p : PkS} {u : Value} {X Y : World} (h : ItsP p u X) (k : Stay X Y) : ItsP p u Y := by
 obtain ⟨L, h1, h2⟩ := h
 exact ⟨L, h1, h2.below k⟩
def MadeP (w : World) (l : List UInt8) (u : Value) (Y : World) : Prop := (ownT u l * all w).on Y ∧ Str w Y
theorem MadeP.below {w : World} {l : List UInt8} {u : Value} {X Y : World} (h : MadeP w l u X) (k : Stay X Y) : MadeP w l u Y := ⟨SP.on.below h.1 k, h.2.trans (Str.below k)⟩
theorem encoded_any (v : Value) (L : List (Value × TItem)) (w : World) (h : IsItems w v L) (hlen : L.length ≤ 1000) (hvl : ∀ (i : Nat) (u : Value) (e : TItem), L[i]? = some (u, e) → e.value.length ≤ 1000) :
  Calls Tryz.prog 26 #[v] w (Makes w fun v => ownT v (encodeF 0 0 (L.map Prod.snd) []).1) := by
 have hE := tencode_any v L w h (by omega) (fun i u e he => Nat.le_trans (hvl i u e he) (by omega))
 obtain ⟨a, c, rfl, _, _, _, _⟩ := h
 go_enter Tryz.func26, Tryz.ntmps26
 go_wp2_with fail
 refine hE.mono ?_
 clear hE
 rintro e w2 ⟨out, rfl, ho, hs⟩
 have HO := hide ho
 have HS := hide hs
 clear ho hs
 go_wp2
 go_ret
 exact ⟨_, rfl, HO.out, HS.out⟩
theorem itCells_len : ∀ (L : List (Value × TItem)), (itCells L).length = L.length * 2
 | [] => rfl
 | y :: t => by
  show (vb y.2.tag :: y.1 :: itCells t).length = _
  simp only [List.length_cons, itCells_len t]
  omega
theorem desc_new (p : PkS) (X : World) (v1 v2 v3 v4 v5 : Value) (h1 : IsBytes X v1 (wordB p.hw)) (h2 : IsBytes X v2 [p.ty]) (h3 : IsBytes X v3 (wordB p.ver)) (h4 : IsBytes X v4 (wordB p.sz)) (h5 : IsBytes X v5 p.hash) :
  DescP p (.slice (some ⟨X.heap.size, 0, .none⟩) 5 5) (X.alloc (.cells #[vb 1, v1, vb 2, v2, vb 3, v3, vb 4, v4, vb 5, v5] 72)) := by
 have hB : Stay X (X.alloc (.cells #[vb 1, v1, vb 2, v2, vb 3, v3, vb 4, v4, vb 5, v5] 72)) := (Below.refl _ _).alloc (Nat.le_refl _) _
 refine ⟨_, [(v1, ⟨1, wordB p.hw⟩), (v2, ⟨2, [p.ty]⟩), (v3, ⟨3, wordB p.ver⟩), (v4, ⟨4, wordB p.sz⟩), (v5, ⟨5, p.hash⟩)], rfl, rfl, Lay.new X [vb 1, v1, vb 2, v2, vb 3, v3, vb 4, v4, vb 5, v5] _, ?_⟩
 intro i v e he
 match i, he with
 | 0, he => obtain ⟨rfl, rfl⟩ := Prod.mk.inj (Option.some.inj he); exact h1.below hB
 | 1, he => obtain ⟨rfl, rfl⟩ := Prod.mk.inj (Option.some.inj he); exact h2.below hB
 | 2, he => obtain ⟨rfl, rfl⟩ := Prod.mk.inj (Option.some.inj he); exact h3.below hB
 | 3, he => obtain ⟨rfl, rfl⟩ := Prod.mk.inj (Option.some.inj he); exact h4.below hB
 | 4, he => obtain ⟨rfl, rfl⟩ := Prod.mk.inj (Option.some.inj he); exact h5.below hB
 | n + 5, he => simp at he
theorem part_at {X : World} {g : Nat} {cs : Array Value} {t : TypeId} {fr : Nat × Nat} (h : X.heap[g]? = some (.cells cs t fr)) : ∀ j v, cs[j]? = some v → X.cell? ⟨g, 0 + j, .none⟩ = some v := fun j v hj => by
 rw [Nat.zero_add, cell_of_row _ _ _ _ _ _ h]
 exact hj
theorem described_any (p : PkS) (hpk : p.Ok) (w : World) : Calls Tryz.prog 27 #[.agg (pkC p)] w fun e w' => ∃ u, e = .returned u ∧ DescP p u w' ∧ Below w.heap.size w w' := by
 have hud := Tryz.underlying24
 have hr := heap_alloc_new w (.cells (pkC p) 28)
 have HC : Hid (∀ X, Stay (w.alloc (.cells (pkC p) 28)) X → X.cell? ⟨w.heap.size, 0, .none⟩ = some (.int .u32 p.hw) ∧ X.cell? ⟨w.heap.size, 1, .none⟩ = some (vb p.ty) ∧ X.cell? ⟨w.heap.size, 2, .none⟩ = some (.int .u32 p.ver) ∧ X.cell? ⟨w.heap.size, 3, .none⟩ = some (.int .u32 p.sz)) := hide fun X hT => pk_cells p X w.heap.size _ ((hT.block _ (by simp)).trans hr)
 have HH : Hid (∀ X, Stay (w.alloc (.cells (pkC p) 28)) X → IsBytes X (.slice (some ⟨w.heap.size, 4, .none⟩) 32 32) p.hash) := hide fun X hT => ⟨_, _, by rw [hpk.hash], by rw [hpk.hash]; omega, by decide, pk_hash hpk X w.heap.size _ ((hT.block _ (by simp)).trans hr), fun h => (nomatch h)⟩
 have HB := hide ((Below.refl w.heap.size w).alloc (Nat.le_refl _) (.cells (pkC p) 28))
 clear hr
 go_enter Tryz.func27, Tryz.ntmps27
 generalize hC : pkC p = C at *
 go_wp2_with fail
 refine rV [isV (.pointer (some ⟨w.heap.size, 0, .none⟩)), isV (.int .u32 (p.hw : Int)), fun v X => IsBytes X v (wordB p.hw), fun v X => ItP 1 (wordB p.hw) v X, isV (.pointer (some ⟨w.heap.size, 1, .none⟩)), isV (vb p.ty), fun v X => IsBytes X v ([p.ty]), fun v X => ItP 2 ([p.ty]) v X, isV (.pointer (some ⟨w.heap.size, 2, .none⟩)), isV (.int .u32 (p.ver : Int)), fun v X => IsBytes X v (wordB p.ver), fun v X => ItP 3 (wordB p.ver) v X, isV (.pointer (some ⟨w.heap.size, 3, .none⟩)), isV (.int .u32 (p.sz : Int)), fun v X => IsBytes X v (wordB p.sz), fun v X => ItP 4 (wordB p.sz) v X, isV (.pointer (some ⟨w.heap.size, 4, .none⟩)), isV (.slice (some ⟨w.heap.size, 4, .none⟩) 32 32), fun v X => ItP 5 (p.hash) v X, fun v X => DescP p v X, fun v X => DescP p v X] ?t65 ?r77 (hk := ?keep)
 case keep => exact ⟨Keep.isV _, Keep.isV _, fun _ _ _ h k => IsBytes.below h k, fun _ _ _ h k => ItP.below h k, Keep.isV _, Keep.isV _, fun _ _ _ h k => IsBytes.below h k, fun _ _ _ h k => ItP.below h k, Keep.isV _, Keep.isV _, fun _ _ _ h k => IsBytes.below h k, fun _ _ _ h k => ItP.below h k, Keep.isV _, Keep.isV _, fun _ _ _ h k => IsBytes.below h k, fun _ _ _ h k => ItP.below h k, Keep.isV _, Keep.isV _, fun _ _ _ h k => ItP.below h k, fun _ _ _ h k => DescP.below h k, fun _ _ _ h k => DescP.below h k, trivial⟩
 case' t65 => refine ⟨?_, ?_, ?_, ?_, ?_, ?_, ?_, ?_, ?_, ?_, ?_, ?_, ?_, ?_, ?_, ?_, ?_, ?_, ?_, ?_, ?_, trivial⟩ <;> intro ev X hT hb hk hf
 ·exact OpOk.s (fV ev 1 (.pointer (some ⟨w.heap.size, 0, .none⟩)) hk.1) hb
 ·have cW := ((HC.out X hT).1)
  exact OpOk.sc (fX ev 3 hf.1) cW
 ·refine OpOk.enters (by simp [execOp, resolve, invoke, fX ev 4 hf.1, hb.1, hb.2.1, go_sem]) ((bytesOf_any p.hw X).mono ?_)
  rintro e X2 ⟨v5, rfl, h5, h6⟩
  exact ⟨_, rfl, own_bytes h5, all_below h5.right h6⟩
 ·have e0 : IsBytes X (ev (.tmp 5)) (wordB p.hw) := hf.1
  have e0' := e0
  obtain ⟨a5, c5, k5, _, _, _, _⟩ := e0'
  exact OpOk.run (v := .agg #[vb 1, .slice a5 (wordB p.hw).length c5]) (W' := X) (by simp [execOp, k5, hb.1, go_sem]) ⟨⟨_, rfl, by rw [← k5]; exact e0⟩, Stay.refl _⟩
 ·exact OpOk.s (fV ev 1 (.pointer (some ⟨w.heap.size, 0, .none⟩)) hk.1) hb
 ·have cW := ((HC.out X hT).2.1)
  exact OpOk.sc (fX ev 7 hf.1) cW
 ·exact OpOk.run (v := .slice (some ⟨X.heap.size, 0, .none⟩) 1 1) (W' := X.alloc (.cells #[vb p.ty] 5)) (by simp [execOp, fX ev 8 hf.1, go_sem]) ⟨IsBytes.new X [p.ty] (by simp [maxLen]) _, (Below.refl _ _).alloc (Nat.le_refl _) _⟩
 ·have e0 : IsBytes X (ev (.tmp 9)) ([p.ty]) := hf.1
  have e0' := e0
  obtain ⟨a5, c5, k5, _, _, _, _⟩ := e0'
  exact OpOk.run (v := .agg #[vb 2, .slice a5 ([p.ty]).length c5]) (W' := X) (by simp [execOp, k5, hb.1, go_sem]) ⟨⟨_, rfl, by rw [← k5]; exact e0⟩, Stay.refl _⟩
 ·exact OpOk.s (fV ev 1 (.pointer (some ⟨w.heap.size, 0, .none⟩)) hk.1) hb
 ·have cW := ((HC.out X hT).2.2.1)
  exact OpOk.sc (fX ev 11 hf.1) cW
 ·refine OpOk.enters (by simp [execOp, resolve, invoke, fX ev 12 hf.1, hb.1, hb.2.1, go_sem]) ((bytesOf_any p.ver X).mono ?_)
  rintro e X2 ⟨v5, rfl, h5, h6⟩
  exact ⟨_, rfl, own_bytes h5, all_below h5.right h6⟩
 ·have e0 : IsBytes X (ev (.tmp 13)) (wordB p.ver) := hf.1
  have e0' := e0
  obtain ⟨a5, c5, k5, _, _, _, _⟩ := e0'
  exact OpOk.run (v := .agg #[vb 3, .slice a5 (wordB p.ver).length c5]) (W' := X) (by simp [execOp, k5, hb.1, go_sem]) ⟨⟨_, rfl, by rw [← k5]; exact e0⟩, Stay.refl _⟩
 ·exact OpOk.s (fV ev 1 (.pointer (some ⟨w.heap.size, 0, .none⟩)) hk.1) hb
 ·have cW := ((HC.out X hT).2.2.2)
  exact OpOk.sc (fX ev 15 hf.1) cW
 ·refine OpOk.enters (by simp [execOp, resolve, invoke, fX ev 16 hf.1, hb.1, hb.2.1, go_sem]) ((bytesOf_any p.sz X).mono ?_)
  rintro e X2 ⟨v5, rfl, h5, h6⟩
  exact ⟨_, rfl, own_bytes h5, all_below h5.right h6⟩
 ·have e0 : IsBytes X (ev (.tmp 17)) (wordB p.sz) := hf.1
  have e0' := e0
  obtain ⟨a5, c5, k5, _, _, _, _⟩ := e0'
  exact OpOk.run (v := .agg #[vb 4, .slice a5 (wordB p.sz).length c5]) (W' := X) (by simp [execOp, k5, hb.1, go_sem]) ⟨⟨_, rfl, by rw [← k5]; exact e0⟩, Stay.refl _⟩
 ·exact OpOk.s (fV ev 1 (.pointer (some ⟨w.heap.size, 0, .none⟩)) hk.1) hb
 ·exact OpOk.r (by have h9 := arr_whole 24 32 hud w.heap.size 4 X; simp [execOp, fX ev 19 hf.1, hb.1, h9, go_sem])
 ·exact OpOk.run (v := .agg #[vb 5, .slice (some ⟨w.heap.size, 4, .none⟩) 32 32]) (W' := X) (by simp [execOp, fX ev 20 hf.1, hb.1, go_sem]) ⟨⟨_, rfl, HH.out X hT⟩, Stay.refl _⟩
 ·have e0 : ItP 1 (wordB p.hw) (ev (.tmp 6)) X := hf.1
  have e1 : ItP 2 ([p.ty]) (ev (.tmp 10)) X := hf.2.1
  have e2 : ItP 3 (wordB p.ver) (ev (.tmp 14)) X := hf.2.2.1
  have e3 : ItP 4 (wordB p.sz) (ev (.tmp 18)) X := hf.2.2.2.1
  have e4 : ItP 5 (p.hash) (ev (.tmp 21)) X := hf.2.2.2.2.1
  obtain ⟨v1, k1, q1⟩ := e0
  obtain ⟨v2, k2, q2⟩ := e1
  obtain ⟨v3, k3, q3⟩ := e2
  obtain ⟨v4, k4, q4⟩ := e3
  obtain ⟨v5, k5, q5⟩ := e4
  have r1 := q1
  obtain ⟨a1, c1, rfl, _, _, _, _⟩ := r1
  have r2 := q2
  obtain ⟨a2, c2, rfl, _, _, _, _⟩ := r2
  have r3 := q3
  obtain ⟨a3, c3, rfl, _, _, _, _⟩ := r3
  have r4 := q4
  obtain ⟨a4, c4, rfl, _, _, _, _⟩ := r4
  have r5 := q5
  obtain ⟨a5, c5, rfl, _, _, _, _⟩ := r5
  exact OpOk.run (v := .slice (some ⟨X.heap.size, 0, .none⟩) 5 5) (W' := X.alloc (.cells #[vb 1, .slice a1 _ c1, vb 2, .slice a2 _ c2, vb 3, .slice a3 _ c3, vb 4, .slice a4 _ c4, vb 5, .slice a5 _ c5] 72)) (by simp [execOp, k1, k2, k3, k4, k5, hb.1, go_sem]) ⟨desc_new p X _ _ _ _ _ q1 q2 q3 q4 q5, (Below.refl _ _).alloc (Nat.le_refl _) _⟩
 ·have e0 : DescP p (ev (.tmp 22)) X := hf.1
  exact OpOk.assign rfl rfl ⟨e0, Stay.refl _⟩
 intro X hT
 rintro _ rfl _ rfl _ - _ - _ rfl _ rfl _ - _ - _ rfl _ rfl _ - _ - _ rfl _ rfl _ - _ - _ rfl _ rfl _ - v19 h19 v20 h20
 have h9 : DescP p v20 X := h20
 have H9 := hide h9
 obtain ⟨g9, L9, rfl, _, _, _⟩ := h9
 have HBB := hide (HB.out.trans (hT.mono (by simp)))
 clear hT h19 h20
 go_wp2
 refine Rest.done ?_
 go_wp2
 go_ret
 exact ⟨_, rfl, H9.out, HBB.out⟩
theorem psigned_any (p : PkS) (hpk : p.Ok) (w : World) : Calls Tryz.prog 13 #[.agg (pkC p)] w (Makes w fun v => ownT v (signedB p)) := by
 have hup := Tryz.underlying28
 have HSz : Hid ((Tryz.prog.info? 28).map (·.size) = some (pkC p).size) := hide (by rw [pkC_size hpk]; kernel_rfl)
 have Hr := hide (heap_alloc_new w (.cells (pkC p) 28))
 have hD := described_any p hpk (w.alloc (.cells (pkC p) 28))
 have HA := hide ((on_all w).alloc (.cells (pkC p) 28)).right
 have HSt := hide ((Str.refl w).alloc (.cells (pkC p) 28))
 generalize hC : pkC p = C at *
 go_enter Tryz.func13, Tryz.ntmps13
 go_wp2_with (refine wpList_load_row rfl _ _ rfl w.heap.size rfl _ C _ _ Hr.out hup rfl HSz.out ?_)
 refine hD.mono ?_
 clear hD
 rintro e w2 ⟨u, rfl, hd, hb⟩
 have HA2 := hide (SP.on.below HA.out hb)
 have HS2 := hide (HSt.out.trans (Str.below hb))
 obtain ⟨L, hL, hI⟩ := hd.items
 have hE := encoded_any u L w2 hI (by have := congrArg List.length hL; simp [descI] at this; omega) (fun i v e he => by
  have h1 : e ∈ L.map Prod.snd := List.mem_map.2 ⟨(v, e), List.mem_of_getElem? he, rfl⟩
  rw [hL] at h1
  simp only [descI, List.mem_cons, List.not_mem_nil, or_false] at h1
  rcases h1 with rfl | rfl | rfl | rfl | rfl <;> simp [wordB_len, hpk.hash])
 rw [hL, enc_desc hpk] at hE
 obtain ⟨g9, L9, rfl, _, _, _⟩ := hd
 clear hb hL hI
 go_wp2_with fail
 refine hE.mono ?_
 clear hE
 rintro e w3 ⟨v, rfl, ho, hs⟩
 have H3 := hide (on_all_to ho HA2.out)
 have HS3 := hide (HS2.out.trans hs)
 obtain ⟨va, vc, rfl, _, _, _, _⟩ := own_value ho
 clear ho hs
 go_wp2
 go_ret
 exact ⟨_, rfl, H3.out, HS3.out⟩
theorem its_len {p : PkS} {L : List (Value × TItem)} (hL : L.map Prod.snd = allI p) : L.length ≤ 1000 := by
 have := congrArg List.length hL; simp [allI, descI] at this; omega
theorem its_short {p : PkS} (hk : p.Ok) {L : List (Value × TItem)} (hL : L.map Prod.snd = allI p) : ∀ (i : Nat) (u : Value) (e : TItem), L[i]? = some (u, e) → e.value.length ≤ 1000 := fun i v e he => by
 have h1 : e ∈ L.map Prod.snd := List.mem_map.2 ⟨(v, e), List.mem_of_getElem? he, rfl⟩
 rw [hL] at h1
 simp only [allI, descI, List.cons_append, List.nil_append, List.mem_cons, List.not_mem_nil, or_false] at h1
 rcases h1 with rfl | rfl | rfl | rfl | rfl | rfl <;> simp [wordB_len, hk.hash, hk.sig]
theorem OpOk.append_pk {o : Oper} {ev : Operand → Value} {W : World} (p : PkS) (hk : p.Ok) {s x : Operand} {sv : Value} (ho : o.op = .call { callee := .builtin .append, args := #[s, x], argTypes := #[69, 69] })
  (hs : DescP p (ev s) W) (hx : ∃ b, ev x = .slice (some ⟨b, 0, .none⟩) 1 1 ∧ Lay W (some ⟨b, 0, .none⟩) [vb 6, sv]) (hb : IsBytes W sv p.sig) : OpOk Tryz.prog o ev W (fun v Y => ItsP p v Y ∧ Stay W Y) := by
 obtain ⟨g, L, h1, h2, h3, h4⟩ := hs
 obtain ⟨b, h5, h6⟩ := hx
 have hl : L.length = 5 := by have := congrArg List.length h2; simpa [descI] using this
 have hc : (itCells L).length = 10 := by rw [itCells_len, hl]
 obtain ⟨i, hq, hz, hsz, hby⟩ := info_some infoItem
 obtain ⟨v', w', hr, h7, h8⟩ := run_append_full (P := Tryz.prog) 69 o.type 72 i _ 2 32 Tryz.underlying69 hq hz hsz hby rfl (by decide) g 5 5 (itCells L) (by rw [hc]) h3 ⟨b, 0, .none⟩ 1 1 (by decide) [vb 6, sv] rfl h6 (by decide) (by decide) (by decide)
 unfold OpOk execOp
 simp only [ho, resolve, invoke, builtin, Sem.run_bind, Sem.run_pure, Result.andThen_ok, List.map_toArray, List.map_cons, List.map_nil, h1, h5, hr]
 refine ⟨⟨L ++ [(sv, ⟨6, p.sig⟩)], by rw [List.map_append, h2]; rfl, ?_⟩, h8⟩
 have e1 : itCells L ++ [vb 6, sv] = itCells (L ++ [(sv, ⟨6, p.sig⟩)]) := (itCells_snoc L (sv, ⟨6, p.sig⟩)).symm
 rw [e1] at h7
 obtain ⟨a, c, e2, e3, e4, e5, _⟩ := own_value h7
 refine ⟨a, c, by rw [e2, List.length_append, hl]; rfl, by rw [List.length_append, hl]; exact e3, e4, e5, ?_⟩
 intro i v e he
 rcases Nat.lt_or_ge i 5 with hi | hi
 ·rw [List.getElem?_append_left (by omega)] at he
  exact (h4 i v e he).below h8
 rw [List.getElem?_append_right (by omega), hl] at he
 match i - 5, he with
 | 0, he => obtain ⟨rfl, rfl⟩ := Prod.mk.inj (Option.some.inj he); exact hb.below h8
 | n + 1, he => simp at he
theorem pencode_any (p : PkS) (hpk : p.Ok) (w : World) : Calls Tryz.prog 9 #[.agg (pkC p)] w (Makes w fun v => ownT v (pkB p)) := by
 have hup := Tryz.underlying28
 have hus := Tryz.underlying26
 have HSz : Hid ((Tryz.prog.info? 28).map (·.size) = some (pkC p).size) := hide (by rw [pkC_size hpk]; kernel_rfl)
 have hr := heap_alloc_new w (.cells (pkC p) 28)
 have HG : Hid (∀ X, Stay (w.alloc (.cells (pkC p) 28)) X → X.heap[w.heap.size]? = some (.cells (pkC p) 28 (0, 0))) := hide fun X hT => (hT.block _ (by simp)).trans hr
 have HH : Hid (∀ X, Stay (w.alloc (.cells (pkC p) 28)) X → IsBytes X (.slice (some ⟨w.heap.size, 36, .none⟩) 64 64) p.sig) := hide fun X hT => ⟨_, _, by rw [hpk.sig], by rw [hpk.sig]; omega, by decide, pk_sig hpk X w.heap.size _ ((hT.block _ (by simp)).trans hr), fun h => (nomatch h)⟩
 have HA := hide ((on_all w).alloc (.cells (pkC p) 28)).right
 have HSt := hide ((Str.refl w).alloc (.cells (pkC p) 28))
 clear hr
 go_enter Tryz.func9, Tryz.ntmps9
 go_wp2_with fail
 refine rV [isV (.agg (pkC p)), fun v X => DescP p v X, isV (.pointer (some ⟨w.heap.size, 36, .none⟩)), isV (.slice (some ⟨w.heap.size, 36, .none⟩) 64 64), isV (.agg #[vb 6, .slice (some ⟨w.heap.size, 36, .none⟩) 64 64]), fun v X => ∃ b, v = .slice (some ⟨b, 0, .none⟩) 1 1 ∧ Lay X (some ⟨b, 0, .none⟩) [vb 6, .slice (some ⟨w.heap.size, 36, .none⟩) 64 64], fun v X => ItsP p v X, fun v X => MadeP w (pkB p) v X, fun v X => MadeP w (pkB p) v X] ?t66 ?r78 (hk := ?keep)
 case keep => exact ⟨Keep.isV _, fun _ _ _ h k => DescP.below h k, Keep.isV _, Keep.isV _, Keep.isV _, fun _ _ _ h k => by obtain ⟨b, h1, h2⟩ := h; exact ⟨b, h1, h2.below k⟩, fun _ _ _ h k => ItsP.below h k, fun _ _ _ h k => MadeP.below h k, fun _ _ _ h k => MadeP.below h k, trivial⟩
 case' t66 => refine ⟨?_, ?_, ?_, ?_, ?_, ?_, ?_, ?_, ?_, trivial⟩ <;> intro ev X hT hb hk hf
 ·exact OpOk.lp (fV ev 1 (.pointer (some ⟨w.heap.size, 0, .none⟩)) hk.1) (part_at (HG.out X hT)) hup HSz.out
 ·refine OpOk.enters (f := 27) (args := #[.agg (pkC p)]) (W' := X) (by simp [execOp, resolve, invoke, fX ev 3 hf.1, hb.1, hb.2.1, go_sem]) ((described_any p hpk X).mono ?_)
  rintro e X2 ⟨v5, rfl, h5, h6⟩
  exact ⟨_, rfl, h5, h6⟩
 ·exact OpOk.s (fV ev 1 (.pointer (some ⟨w.heap.size, 0, .none⟩)) hk.1) hb
 ·exact OpOk.r (by have h9 := arr_whole 26 64 hus w.heap.size 36 X; simp [execOp, fX ev 5 hf.1, hb.1, h9, go_sem])
 ·exact OpOk.s (fX ev 6 hf.1) hb
 ·exact OpOk.run (v := .slice (some ⟨X.heap.size, 0, .none⟩) 1 1) (W' := X.alloc (.cells #[vb 6, .slice (some ⟨w.heap.size, 36, .none⟩) 64 64] 72)) (by simp [execOp, fX ev 7 hf.1, go_sem]) ⟨⟨_, rfl, Lay.new X [vb 6, .slice (some ⟨w.heap.size, 36, .none⟩) 64 64] _⟩, (Below.refl _ _).alloc (Nat.le_refl _) _⟩
 ·have e0 : DescP p (ev (.tmp 4)) X := hf.1
  have e1 : ∃ b, (ev (.tmp 8)) = .slice (some ⟨b, 0, .none⟩) 1 1 ∧ Lay X (some ⟨b, 0, .none⟩) [vb 6, .slice (some ⟨w.heap.size, 36, .none⟩) 64 64] := hf.2.1
  exact OpOk.append_pk p hpk rfl e0 e1 (HH.out X hT)
 ·have e0 : ItsP p (ev (.tmp 9)) X := hf.1
  obtain ⟨L, hL, hI⟩ := e0
  refine OpOk.enters (by simp [execOp, resolve, invoke, hb.1, hb.2.1, go_sem]) ((encoded_any _ L X hI (its_len hL) (its_short hpk hL)).mono ?_)
  rintro e X2 ⟨v5, rfl, h5, h6⟩
  rw [hL, enc_all hpk] at h5
  exact ⟨_, rfl, ⟨on_all_to h5 (SP.on.below HA.out hT), (HSt.out.trans (Str.below hT)).trans h6⟩, all_below h5.right h6⟩
 ·have e0 : MadeP w (pkB p) (ev (.tmp 10)) X := hf.1
  exact OpOk.assign rfl rfl ⟨e0, Stay.refl _⟩
 intro X hT
 rintro _ rfl _ - _ rfl _ rfl _ rfl _ - _ - v7 h7 v8 h8
 have h9 : MadeP w (pkB p) v8 X := h8
 have H9 := hide h9
 obtain ⟨va, vc, rfl, _, _, _, _⟩ := own_value h9.1
 clear hT h7 h8 h9
 go_wp2
 refine Rest.done ?_
 go_wp2
 go_ret
 exact ⟨_, rfl, H9.out.1, H9.out.2⟩
def lensL : List Int := [0, 4, 1, 4, 4, 32, 64]
def Lens (w : World) : Prop := ∀ i, i < 7 → w.cell? ⟨0, i, .none⟩ = some (.int .i64 (lensL.getD i 0))
theorem Lens.below {w X : World} (h : Lens w) (hb : Below w.heap.size w X) : Lens X := fun i hi => (hb.cell (World.block_lt_of_cell? _ _ (h i hi))).trans (h i hi)
theorem pvalue_any (v : Value) (L : List (Value × TItem)) (tag : UInt8) (w : World) (h : IsItems w v L) (hlen : L.length ≤ 1000) (hvl : ∀ (i : Nat) (u : Value) (e : TItem), L[i]? = some (u, e) → e.value.length ≤ 1000) :
  Calls Tryz.prog 34 #[v, vb tag] w (Makes w fun u => ownT u (findR tag (L.map Prod.snd)).1) := by
 have hE := tfind_any v L tag w h (by omega) (fun i u e he => Nat.le_trans (hvl i u e he) (by omega))
 obtain ⟨a, c, rfl, _, _, _, _⟩ := h
 go_enter Tryz.func34, Tryz.ntmps34
 go_wp2_with fail
 refine hE.mono ?_
 clear hE
 rintro e w2 ⟨out, rfl, ho, hs⟩
 have HO := hide ho
 have HS := hide hs
 obtain ⟨_, _, rfl, _, _, _, _⟩ := own_value ho
 clear ho hs
 go_wp2
 go_ret
 exact ⟨_, rfl, HO.out, HS.out⟩
theorem or32_word (b0 b1 b2 b3 : Nat) (h0 : b0 < 256) (h1 : b1 < 256) (h2 : b2 < 256) (h3 : b3 < 256) :
  (b0 ||| b1 * 256 = b0 + b1 * 256) ∧ ((b0 + b1 * 256) ||| b2 * 65536 = b0 + b1 * 256 + b2 * 65536) ∧ ((b0 + b1 * 256 + b2 * 65536) ||| b3 * 16777216 = b0 + b1 * 256 + b2 * 65536 + b3 * 16777216) := by
 refine ⟨?_, ?_, ?_⟩
 ·rw [Nat.or_comm, show b1 * 256 = b1 <<< 8 by rw [Nat.shiftLeft_eq], ← Nat.shiftLeft_add_eq_or_of_lt (show b0 < 2 ^ 8 by omega), Nat.add_comm]
 ·rw [Nat.or_comm, show b2 * 65536 = b2 <<< 16 by rw [Nat.shiftLeft_eq], ← Nat.shiftLeft_add_eq_or_of_lt (show b0 + b1 * 256 < 2 ^ 16 by omega), Nat.add_comm]
 rw [Nat.or_comm, show b3 * 16777216 = b3 <<< 24 by rw [Nat.shiftLeft_eq], ← Nat.shiftLeft_add_eq_or_of_lt (show b0 + b1 * 256 + b2 * 65536 < 2 ^ 24 by omega), Nat.add_comm]
theorem pnumber_any (v : Value) (L : List (Value × TItem)) (tag : UInt8) (w : World) (h : IsItems w v L) (hlen : L.length ≤ 1000) (hvl : ∀ (i : Nat) (u : Value) (e : TItem), L[i]? = some (u, e) → e.value.length ≤ 1000)
  (h4 : (findR tag (L.map Prod.snd)).1.length = 4) :
  Calls Tryz.prog 33 #[v, vb tag] w fun e w' => e = .returned (.int .u32 (numS (findR tag (L.map Prod.snd)).1 0 4 : Nat)) ∧ Below w.heap.size w w' := by
 have hE := pvalue_any v L tag w h hlen hvl
 obtain ⟨a, c, rfl, _, _, _, _⟩ := h
 go_enter Tryz.func33, Tryz.ntmps33
 go_wp2_with fail
 refine hE.mono ?_
 clear hE
 rintro e w2 ⟨out, rfl, ho, hs⟩
 generalize hl : (findR tag (L.map Prod.snd)).1 = l at *
 match l, h4, hl with
 | [x0, x1, x2, x3], _, hl =>
  have Hl := hide hl
  clear hl
  obtain ⟨oa, oc, rfl, _, _⟩ := own_block ho (by simp)
  have HB := hide (all_below ho.right hs)
  have HC : Hid (∀ X, Stay w2 X → X.cell? ⟨oa, 0, .none⟩ = some (vb x0) ∧ X.cell? ⟨oa, 1, .none⟩ = some (vb x1) ∧ X.cell? ⟨oa, 2, .none⟩ = some (vb x2) ∧ X.cell? ⟨oa, 3, .none⟩ = some (vb x3)) := hide fun X hX => by
   have h9 := SP.on.below ho hX
   exact ⟨own_cell h9 0 _ rfl, own_cell h9 1 _ rfl, own_cell h9 2 _ rfl, own_cell h9 3 _ rfl⟩
  have b0 := UInt8.toNat_lt x0
  have b1 := UInt8.toNat_lt x1
  have b2 := UInt8.toNat_lt x2
  have b3 := UInt8.toNat_lt x3
  have HN : Hid (numS [x0, x1, x2, x3] 0 4 = x0.toNat + x1.toNat * 256 + x2.toNat * 65536 + x3.toNat * 16777216) := hide (by simp [numS])
  obtain ⟨o1, o2, o3⟩ := or32_word x0.toNat x1.toNat x2.toNat x3.toNat b0 b1 b2 b3
  obtain ⟨M1, hM1⟩ : ∃ M, M = x1.toNat * 256 := ⟨_, rfl⟩
  obtain ⟨M2, hM2⟩ : ∃ M, M = x2.toNat * 65536 := ⟨_, rfl⟩
  obtain ⟨M3, hM3⟩ : ∃ M, M = x3.toNat * 16777216 := ⟨_, rfl⟩
  obtain ⟨N1, hN1⟩ : ∃ N, N = x0.toNat + M1 := ⟨_, rfl⟩
  obtain ⟨N2, hN2⟩ : ∃ N, N = N1 + M2 := ⟨_, rfl⟩
  obtain ⟨N3, hN3⟩ : ∃ N, N = N2 + M3 := ⟨_, rfl⟩
  have HN2 : Hid (numS [x0, x1, x2, x3] 0 4 = N3) := hide (by rw [HN.out]; omega)
  rw [← hM1] at o1 o2 o3
  rw [← hM2] at o2 o3
  rw [← hM3] at o3
  rw [← hN1] at o1 o2 o3
  rw [← hN2] at o2 o3
  rw [← hN3] at o3
  have q1 : bits .or .u32 (x0.toNat : Int) (M1 : Int) = (N1 : Int) := (u32_or_nat x0.toNat M1 (by omega) (by omega)).trans (congrArg Int.ofNat o1)
  have q2 : bits .or .u32 (N1 : Int) (M2 : Int) = (N2 : Int) := (u32_or_nat N1 M2 (by omega) (by omega)).trans (congrArg Int.ofNat o2)
  have q3 : bits .or .u32 (N2 : Int) (M3 : Int) = (N3 : Int) := (u32_or_nat N2 M3 (by omega) (by omega)).trans (congrArg Int.ofNat o3)
  have s1 : IntKind.u32.wrap ((x1.toNat : Int) * 256) = (M1 : Int) := by rw [IntKind.wrap_u32]; omega
  have s2 : IntKind.u32.wrap ((x2.toNat : Int) * 65536) = (M2 : Int) := by rw [IntKind.wrap_u32]; omega
  have s3 : IntKind.u32.wrap ((x3.toNat : Int) * 16777216) = (M3 : Int) := by rw [IntKind.wrap_u32]; omega
  clear ho hs o1 o2 o3 hM1 hM2 hM3 hN1 hN2 hN3 HN
  go_wp2_with fail
  refine rV (iv [.slice (some ⟨oa, 0, .none⟩) 4 oc, .pointer (some ⟨oa, 0, .none⟩), vb x0, .int .u32 (x0.toNat : Int), .slice (some ⟨oa, 0, .none⟩) 4 oc, .pointer (some ⟨oa, 1, .none⟩), vb x1, .int .u32 (x1.toNat : Int), .int .u32 (M1 : Int), .int .u32 (N1 : Int), .slice (some ⟨oa, 0, .none⟩) 4 oc, .pointer (some ⟨oa, 2, .none⟩), vb x2, .int .u32 (x2.toNat : Int), .int .u32 (M2 : Int), .int .u32 (N2 : Int), .slice (some ⟨oa, 0, .none⟩) 4 oc, .pointer (some ⟨oa, 3, .none⟩), vb x3, .int .u32 (x3.toNat : Int), .int .u32 (M3 : Int), .int .u32 (N3 : Int), .int .u32 (N3 : Int)]) ?t67 ?r79
  case' t67 => refine ⟨?_, ?_, ?_, ?_, ?_, ?_, ?_, ?_, ?_, ?_, ?_, ?_, ?_, ?_, ?_, ?_, ?_, ?_, ?_, ?_, ?_, ?_, ?_, trivial⟩ <;> intro ev X hT hb hk hf
  ·exact OpOk.m rfl hk.1
  ·exact OpOk.s (fX ev 9 hf.1) hb
  ·have cW := ((HC.out X hT).1)
   exact OpOk.sc (fX ev 10 hf.1) cW
  ·exact OpOk.run (v := .int .u32 (x0.toNat : Int)) (W' := X) (by simp [execOp, fX ev 11 hf.1, hb.1, go_sem, IntKind.wrap_u32]; try omega) ⟨rfl, Stay.refl _⟩
  ·exact OpOk.m rfl hk.1
  ·exact OpOk.s (fX ev 13 hf.1) hb
  ·have cW := ((HC.out X hT).2.1)
   exact OpOk.sc (fX ev 14 hf.1) cW
  ·exact OpOk.run (v := .int .u32 (x1.toNat : Int)) (W' := X) (by simp [execOp, fX ev 15 hf.1, hb.1, go_sem, IntKind.wrap_u32]; try omega) ⟨rfl, Stay.refl _⟩
  ·exact OpOk.r (by simp [execOp, fX ev 16 hf.1, hb.1, go_sem, s1])
  ·exact OpOk.r (by simp [execOp, fX ev 12 hf.1, fX ev 17 hf.2.1, hb.1, go_sem, q1])
  ·exact OpOk.m rfl hk.1
  ·exact OpOk.s (fX ev 19 hf.1) hb
  ·have cW := ((HC.out X hT).2.2.1)
   exact OpOk.sc (fX ev 20 hf.1) cW
  ·exact OpOk.run (v := .int .u32 (x2.toNat : Int)) (W' := X) (by simp [execOp, fX ev 21 hf.1, hb.1, go_sem, IntKind.wrap_u32]; try omega) ⟨rfl, Stay.refl _⟩
  ·exact OpOk.r (by simp [execOp, fX ev 22 hf.1, hb.1, go_sem, s2])
  ·exact OpOk.r (by simp [execOp, fX ev 18 hf.1, fX ev 23 hf.2.1, hb.1, go_sem, q2])
  ·exact OpOk.m rfl hk.1
  ·exact OpOk.s (fX ev 25 hf.1) hb
  ·have cW := ((HC.out X hT).2.2.2)
   exact OpOk.sc (fX ev 26 hf.1) cW
  ·exact OpOk.run (v := .int .u32 (x3.toNat : Int)) (W' := X) (by simp [execOp, fX ev 27 hf.1, hb.1, go_sem, IntKind.wrap_u32]; try omega) ⟨rfl, Stay.refl _⟩
  ·exact OpOk.r (by simp [execOp, fX ev 28 hf.1, hb.1, go_sem, s3])
  ·exact OpOk.r (by simp [execOp, fX ev 24 hf.1, fX ev 29 hf.2.1, hb.1, go_sem, q3])
  ·exact OpOk.assign rfl (fX ev 30 hf.1) ⟨rfl, Stay.refl _⟩
  intro X hT
  iterate 23 rintro _ rfl
  have HBB := hide (HB.out.trans (hT.mono HB.out.size))
  clear hT
  go_wp2
  refine Rest.done ?_
  go_wp2
  go_ret
  refine ⟨?_, HBB.out⟩
  rw [Hl.out, HN2.out]
  rfl
theorem shapeK_take {L : List TItem} {k : Nat} {x : TItem} (hx : L[k]? = some x) : shapeK (L.take (k + 1)) = shapeK (L.take k) ++ [(x.tag.toNat, x.value.length)] := by
 unfold shapeK
 rw [List.take_add_one, hx, List.map_append]
 rfl
theorem shape6_get : ∀ k, k < 6 → shape6.take (k + 1) = shape6.take k ++ [(k + 1, (lensL.getD (k + 1) 0).toNat)] ∧ 0 ≤ lensL.getD (k + 1) 0 ∧ lensL.getD (k + 1) 0 < 1000 := by decide
theorem shape_no {L : List TItem} {k : Nat} {x : TItem} (hk : k < 6) (hx : L[k]? = some x) (h : ¬(x.tag.toNat = k + 1 ∧ x.value.length = (lensL.getD (k + 1) 0).toNat)) : decide (shapeK L = shape6) = false := by
 rw [decide_eq_false_iff_not]
 intro e
 have h1 := congrArg (fun l => l[k]?) e
 simp only [shapeK, List.getElem?_map, hx] at h1
 have h2 := (shape6_get k hk).1
 have h3 : shape6[k]? = some (k + 1, (lensL.getD (k + 1) 0).toNat) := by
  have := congrArg (fun l => l[k]?) h2
  simp only [List.getElem?_take, Nat.lt_succ_self, if_true] at this
  rw [this, List.getElem?_append_right (by simp [shape6]; omega)]
  have hl : (shape6.take k).length = k := by rw [List.length_take]; simp [shape6]; omega
  rw [hl, Nat.sub_self]
  rfl
 rw [h3] at h1
 simp only [Option.map_some, Option.some.injEq, Prod.mk.injEq] at h1
 exact h h1
theorem shaped_any (v : Value) (L : List (Value × TItem)) (w : World) (h : IsItems w v L) (hvl : ∀ (i : Nat) (u : Value) (e : TItem), L[i]? = some (u, e) → e.value.length ≤ 1000) (hLens : Lens w) :
  Calls Tryz.prog 32 #[v] w fun e w' => e = .returned (.bool (decide (shapeK (L.map Prod.snd) = shape6))) ∧ Below w.heap.size w w' := by
 have HI0 := hide h
 obtain ⟨a, c, rfl, hc, hm, _, _⟩ := h
 unfold maxLen at hm
 have hui := Tryz.underlying72
 by_cases h6 : L.length = 6
 ·have h6i : ((L.length : Int) != 6) = false := by simp; omega
  have H6 := hide h6
  clear h6
  go_enter Tryz.func32, Tryz.ntmps32
  go_wp2_with fail
  clear h6i
  go_loopw [10] (fun i wr => ∃ k : Nat, k ≤ L.length ∧ i = .int .i64 k ∧ shapeK ((L.map Prod.snd).take k) = shape6.take k ∧ Below w.heap.size w wr) (fun i _ => L.length - (intOf i).toNat)
  case atStart => exact ⟨0, Nat.zero_le _, rfl, rfl, Below.refl _ _⟩
  obtain ⟨k, hk6, rfl, hsh, hbl⟩ := hrel
  have HSh := hide hsh
  clear hsh
  by_cases hltL : k < L.length
  ·have hlt : k < 6 := by have := H6.out; omega
   obtain ⟨u, it, hL⟩ : ∃ u it, L[k]? = some (u, it) := ⟨_, _, List.getElem?_eq_getElem hltL⟩
   have hI := HI0.out.below hbl
   obtain ⟨a', c', e', _, _, hlay, hin⟩ := hI
   simp only [Value.slice.injEq] at e'
   obtain ⟨rfl, _, rfl⟩ := e'
   have hb9 := hin k u it hL
   obtain ⟨ua, uc, rfl, _, _, _, _⟩ := hb9
   obtain ⟨g1, g2⟩ := itCells_get L k _ it hL
   obtain ⟨b, off, rfl⟩ : ∃ b off, a = some ⟨b, off, .none⟩ := by obtain ⟨b, off, e, _⟩ := hlay _ _ g1; exact ⟨b, off, e⟩
   have q1 := Lay.cell hlay _ g1
   have q2 := Lay.cell hlay _ g2
   have eoff : off + k * 2 + 1 = off + (k * 2 + 1) := by omega
   have hvb := hvl k _ it hL
   have hT8 := UInt8.toNat_lt it.tag
   obtain ⟨h61, h62, h63⟩ := shape6_get k hlt
   have hLS : (L.map Prod.snd)[k]? = some it := by rw [List.getElem?_map, hL]; rfl
   have HNo := hide (shape_no hlt hLS)
   have HYes := hide (shapeK_take hLS)
   have H61 := hide h61
   obtain ⟨k1, hk1⟩ : ∃ k1, k1 = k + 1 := ⟨_, rfl⟩
   have hadd : IntKind.i64.wrap ((k : Int) + 1) = (k1 : Int) := by rw [IntWalk.i64_in _ (by omega)]; omega
   have hwr : IntKind.i64.wrap ((it.tag.toNat : Nat) : Int) = ((it.tag.toNat : Nat) : Int) := IntWalk.i64_in _ (by omega)
   have k7 : (k1 : Int) < 7 := by omega
   have hr := heap_alloc_new wr (.cells #[vb it.tag, .slice ua it.value.length uc] 72)
   have HC : Hid (∀ X, Stay (wr.alloc (.cells #[vb it.tag, .slice ua it.value.length uc] 72)) X → X.cell? ⟨wr.heap.size, 0, .none⟩ = some (vb it.tag) ∧ X.cell? ⟨wr.heap.size, 1, .none⟩ = some (.slice ua it.value.length uc)) := hide fun X hT => by
    have h9 := (hT.block _ (by simp)).trans hr
    exact ⟨by rw [cell_of_row _ _ _ _ _ _ h9]; rfl, by rw [cell_of_row _ _ _ _ _ _ h9]; rfl⟩
   have HBl := hide (hbl.alloc hbl.size (.cells #[vb it.tag, .slice ua it.value.length uc] 72))
   have HL : Hid (∀ X, Stay (wr.alloc (.cells #[vb it.tag, .slice ua it.value.length uc] 72)) X → X.cell? ⟨0, k1, .none⟩ = some (.int .i64 (lensL.getD k1 0))) := hide fun X hT => (hLens.below (HBl.out.trans (hT.mono HBl.out.size))) k1 (by omega)
   rw [← hk1] at HNo H61 h62 h63
   have HK1 := hide hk1
   generalize lensL.getD k1 0 = ln at *
   clear hr hlay hin hL g1 g2 hLS h61 hk1
   by_cases ht : it.tag.toNat = k1
   ·by_cases hv : it.value.length = ln.toNat
    ·have hne1 : (((it.tag.toNat : Nat) : Int) != (k1 : Int)) = false := by simp; omega
     have hne2 : (((it.value.length : Nat) : Int) != ln) = false := by simp; omega
     have HGo : Hid (shapeK ((L.map Prod.snd).take (k + 1)) = shape6.take (k + 1)) := hide (by rw [HYes.out, HSh.out, ht, hv, ← HK1.out]; exact H61.out.symm)
     clear HNo HYes H61 HSh ht hv
     go_wp2_with fail
     refine rV (iv [.pointer (some ⟨wr.heap.size, 0, .none⟩), vb it.tag, .int .i64 (it.tag.toNat : Int), .int .i64 (k : Int), .int .i64 (k1 : Int), .bool false, .bool false, .pointer (some ⟨wr.heap.size, 1, .none⟩), .slice ua it.value.length uc, .int .i64 (it.value.length : Int), .int .i64 (k : Int), .int .i64 (k1 : Int), .pointer (some ⟨0, k1, .none⟩), .int .i64 ln, .bool false, .bool false]) ?t68 ?r80
     case' t68 => refine ⟨?_, ?_, ?_, ?_, ?_, ?_, ?_, ?_, ?_, ?_, ?_, ?_, ?_, ?_, ?_, ?_, trivial⟩ <;> intro ev X hT hb hk hf
     ·exact OpOk.s (fV ev 4 (.pointer (some ⟨wr.heap.size, 0, .none⟩)) hk.1) hb
     ·have cW := ((HC.out X hT).1)
      exact OpOk.sc (fX ev 15 hf.1) cW
     ·exact OpOk.r (by simp [execOp, fX ev 16 hf.1, hb.1, go_sem, hwr])
     ·exact OpOk.m rfl hk.1
     ·exact OpOk.r (by simp [execOp, fX ev 18 hf.1, hb.1, hadd, go_sem, -Int.natCast_add])
     ·exact OpOk.r (by simp [execOp, fX ev 17 hf.1, fX ev 19 hf.2.1, hb.1, go_sem, hne1, -Int.natCast_add])
     ·exact OpOk.m rfl hf.1
     ·refine ⟨false, hf.1, fun _ => ?_, fun h => (h rfl).elim⟩
      exact OpOk.s (fV ev 4 (.pointer (some ⟨wr.heap.size, 0, .none⟩)) hk.1) hb
     ·refine ⟨false, hf.2.1, fun _ => ?_, fun h => (h rfl).elim⟩
      have cW := ((HC.out X hT).2)
      exact OpOk.sc (fX ev 22 hf.1) cW
     ·refine ⟨false, hf.2.1, fun _ => ?_, fun h => (h rfl).elim⟩
      exact OpOk.s (fX ev 23 hf.1) hb
     ·refine ⟨false, hf.1, fun _ => ?_, fun h => (h rfl).elim⟩
      exact OpOk.m rfl (fV ev 3 (.int .i64 (k : Int)) hk.1)
     ·refine ⟨false, hf.2.1, fun _ => ?_, fun h => (h rfl).elim⟩
      exact OpOk.r (by simp [execOp, fX ev 25 hf.1, hb.1, hadd, go_sem, -Int.natCast_add])
     ·refine ⟨false, hf.2.1, fun _ => ?_, fun h => (h rfl).elim⟩
      exact OpOk.r (by simp [execOp, fX ev 26 hf.1, hb.1, hb.2.1, hb.2.2, k7, go_sem, -Int.natCast_add])
     ·refine ⟨false, hf.2.1, fun _ => ?_, fun h => (h rfl).elim⟩
      have cW := (HL.out X hT)
      exact OpOk.sc (fX ev 27 hf.1) cW
     ·refine ⟨false, hf.2.2.1, fun _ => ?_, fun h => (h rfl).elim⟩
      exact OpOk.r (by simp [execOp, fX ev 24 hf.1, fX ev 28 hf.2.1, hb.1, go_sem, hne2, -List.getD_eq_getElem?_getD])
     ·exact OpOk.s2 (fX ev 21 hf.1) (fX ev 29 hf.2.1) hb
     intro X hT
     iterate 16 rintro _ rfl
     have HX := hide (HBl.out.trans (hT.mono HBl.out.size))
     clear hT HC HBl HL eoff q1 q2 hadd hwr k7 hvb hT8 h62 h63
     go_wp2
     refine Rest.done ?_
     go_wp2
     go_roundw
     case rel => exact ⟨k + 1, by omega, by simp, HGo.out, HX.out⟩
     case measure =>
      have := HK1.out
      simp [intOf]
      omega
    have hne1 : (((it.tag.toNat : Nat) : Int) != (k1 : Int)) = false := by simp; omega
    have hne2 : (((it.value.length : Nat) : Int) != ln) = true := by simp; omega
    have HN := hide (HNo.out (fun h => hv h.2))
    clear HNo HYes H61 HSh ht hv
    go_wp2_with fail
    refine rV (iv [.pointer (some ⟨wr.heap.size, 0, .none⟩), vb it.tag, .int .i64 (it.tag.toNat : Int), .int .i64 (k : Int), .int .i64 (k1 : Int), .bool false, .bool false, .pointer (some ⟨wr.heap.size, 1, .none⟩), .slice ua it.value.length uc, .int .i64 (it.value.length : Int), .int .i64 (k : Int), .int .i64 (k1 : Int), .pointer (some ⟨0, k1, .none⟩), .int .i64 ln, .bool true, .bool true]) ?t69 ?r81
    case' t69 => refine ⟨?_, ?_, ?_, ?_, ?_, ?_, ?_, ?_, ?_, ?_, ?_, ?_, ?_, ?_, ?_, ?_, trivial⟩ <;> intro ev X hT hb hk hf
    ·exact OpOk.s (fV ev 4 (.pointer (some ⟨wr.heap.size, 0, .none⟩)) hk.1) hb
    ·have cW := ((HC.out X hT).1)
     exact OpOk.sc (fX ev 15 hf.1) cW
    ·exact OpOk.r (by simp [execOp, fX ev 16 hf.1, hb.1, go_sem, hwr])
    ·exact OpOk.m rfl hk.1
    ·exact OpOk.r (by simp [execOp, fX ev 18 hf.1, hb.1, hadd, go_sem, -Int.natCast_add])
    ·exact OpOk.r (by simp [execOp, fX ev 17 hf.1, fX ev 19 hf.2.1, hb.1, go_sem, hne1, -Int.natCast_add])
    ·exact OpOk.m rfl hf.1
    ·refine ⟨false, hf.1, fun _ => ?_, fun h => (h rfl).elim⟩
     exact OpOk.s (fV ev 4 (.pointer (some ⟨wr.heap.size, 0, .none⟩)) hk.1) hb
    ·refine ⟨false, hf.2.1, fun _ => ?_, fun h => (h rfl).elim⟩
     have cW := ((HC.out X hT).2)
     exact OpOk.sc (fX ev 22 hf.1) cW
    ·refine ⟨false, hf.2.1, fun _ => ?_, fun h => (h rfl).elim⟩
     exact OpOk.s (fX ev 23 hf.1) hb
    ·refine ⟨false, hf.1, fun _ => ?_, fun h => (h rfl).elim⟩
     exact OpOk.m rfl (fV ev 3 (.int .i64 (k : Int)) hk.1)
    ·refine ⟨false, hf.2.1, fun _ => ?_, fun h => (h rfl).elim⟩
     exact OpOk.r (by simp [execOp, fX ev 25 hf.1, hb.1, hadd, go_sem, -Int.natCast_add])
    ·refine ⟨false, hf.2.1, fun _ => ?_, fun h => (h rfl).elim⟩
     exact OpOk.r (by simp [execOp, fX ev 26 hf.1, hb.1, hb.2.1, hb.2.2, k7, go_sem, -Int.natCast_add])
    ·refine ⟨false, hf.2.1, fun _ => ?_, fun h => (h rfl).elim⟩
     have cW := (HL.out X hT)
     exact OpOk.sc (fX ev 27 hf.1) cW
    ·refine ⟨false, hf.2.2.1, fun _ => ?_, fun h => (h rfl).elim⟩
     exact OpOk.r (by simp [execOp, fX ev 24 hf.1, fX ev 28 hf.2.1, hb.1, go_sem, hne2, -List.getD_eq_getElem?_getD])
    ·exact OpOk.s2 (fX ev 21 hf.1) (fX ev 29 hf.2.1) hb
    intro X hT
    iterate 16 rintro _ rfl
    have HX := hide (HBl.out.trans (hT.mono HBl.out.size))
    clear hT HC HBl HL eoff q1 q2 hadd hwr k7 hvb hT8 h62 h63
    go_wp2
    refine Rest.done ?_
    go_wp2
    go_ret
    exact ⟨(congrArg (fun b => Ending.returned (Value.bool b)) HN.out).symm, HX.out⟩
   have hne1 : (((it.tag.toNat : Nat) : Int) != (k1 : Int)) = true := by simp; omega
   have HN := hide (HNo.out (fun h => ht h.1))
   clear HNo HYes H61 HSh ht
   go_wp2_with fail
   refine rV (iv [.pointer (some ⟨wr.heap.size, 0, .none⟩), vb it.tag, .int .i64 (it.tag.toNat : Int), .int .i64 (k : Int), .int .i64 (k1 : Int), .bool true, .bool true, undef, undef, undef, undef, undef, undef, undef, undef, .bool true]) ?t70 ?r82
   case' t70 => refine ⟨?_, ?_, ?_, ?_, ?_, ?_, ?_, ?_, ?_, ?_, ?_, ?_, ?_, ?_, ?_, ?_, trivial⟩ <;> intro ev X hT hb hk hf
   ·exact OpOk.s (fV ev 4 (.pointer (some ⟨wr.heap.size, 0, .none⟩)) hk.1) hb
   ·have cW := ((HC.out X hT).1)
    exact OpOk.sc (fX ev 15 hf.1) cW
   ·exact OpOk.r (by simp [execOp, fX ev 16 hf.1, hb.1, go_sem, hwr])
   ·exact OpOk.m rfl hk.1
   ·exact OpOk.r (by simp [execOp, fX ev 18 hf.1, hb.1, hadd, go_sem, -Int.natCast_add])
   ·exact OpOk.r (by simp [execOp, fX ev 17 hf.1, fX ev 19 hf.2.1, hb.1, go_sem, hne1, -Int.natCast_add])
   ·exact OpOk.m rfl hf.1
   ·exact ⟨true, hf.1, fun h => (nomatch h), fun _ => rfl⟩
   ·exact ⟨true, hf.2.1, fun h => (nomatch h), fun _ => rfl⟩
   ·exact ⟨true, hf.2.1, fun h => (nomatch h), fun _ => rfl⟩
   ·exact ⟨true, hf.1, fun h => (nomatch h), fun _ => rfl⟩
   ·exact ⟨true, hf.2.1, fun h => (nomatch h), fun _ => rfl⟩
   ·exact ⟨true, hf.2.1, fun h => (nomatch h), fun _ => rfl⟩
   ·exact ⟨true, hf.2.1, fun h => (nomatch h), fun _ => rfl⟩
   ·exact ⟨true, hf.2.2.1, fun h => (nomatch h), fun _ => rfl⟩
   ·exact OpOk.s2 (fX ev 21 hf.1) (fX ev 29 hf.2.1) hb
   intro X hT
   iterate 16 rintro _ rfl
   have HX := hide (HBl.out.trans (hT.mono HBl.out.size))
   clear hT HC HBl HL eoff q1 q2 hadd hwr k7 hvb hT8 h62 h63
   go_wp2
   refine Rest.done ?_
   go_wp2
   go_ret
   exact ⟨(congrArg (fun b => Ending.returned (Value.bool b)) HN.out).symm, HX.out⟩
  obtain rfl : k = L.length := by omega
  have HD : Hid (decide (shapeK (L.map Prod.snd) = shape6) = true) := hide (by
   have h9 := HSh.out
   rw [List.take_of_length_le (by simp), H6.out, show shape6.take 6 = shape6 from rfl] at h9
   rw [decide_eq_true_iff]
   exact h9)
  have HX := hide hbl
  clear hbl HSh
  go_wp2
  go_ret
  exact ⟨(congrArg (fun b => Ending.returned (Value.bool b)) HD.out).symm, HX.out⟩
 have h6i : ((L.length : Int) != 6) = true := by simp; omega
 have HD : Hid (decide (shapeK (L.map Prod.snd) = shape6) = false) := hide (by
  rw [decide_eq_false_iff_not]
  intro e
  have := congrArg List.length e
  simp [shapeK, shape6] at this
  omega)
 rw [HD.out]
 clear HD
 go_enter Tryz.func32, Tryz.ntmps32
 go_wp2
 go_ret
 exact ⟨rfl, Below.refl _ _⟩
theorem addr_add0 (b off j : Nat) : (⟨b, off, .none⟩ : Addr).add j = ⟨b, off + j, .none⟩ := by unfold Addr.add; split <;> simp_all
theorem pk_hz (w : World) : (zeroValue 28).run Tryz.prog w = .ok (.agg (pkC zP)) w := by kernel_rfl
theorem finds (q : PkS) : (findR 1 (allI q)).1 = wordB q.hw ∧ (findR 2 (allI q)).1 = [q.ty] ∧ (findR 3 (allI q)).1 = wordB q.ver ∧ (findR 4 (allI q)).1 = wordB q.sz ∧ (findR 5 (allI q)).1 = q.hash ∧ (findR 6 (allI q)).1 = q.sig := by
 simp [findR, findF, allI, descI]
theorem num_word (n : Nat) (h : n < 4294967296) : numS (wordB n) 0 4 = n := by
 have := numS_word [] [] n h 0 rfl
 simpa using this
theorem pkC_ty (p : PkS) (t : UInt8) : (pkC p).setIfInBounds 1 (vb t) = pkC { p with ty := t } := by simp [pkC, pkL]
theorem splice_hash (p : PkS) (h : p.hash.length = 32) (l : List UInt8) (hl : l.length = 32) : splice (pkL p) 4 (vbs l) = pkL { p with hash := l } := by
 unfold splice pkL
 have e1 : (vbs l).length = 32 := by simp [hl]
 have e2 : (vbs p.hash).length = 32 := by simp [h]
 rw [e1, List.take_left' (by rfl), show 4 + 32 = 4 + 32 from rfl, ← List.drop_drop, List.drop_left' (by rfl), List.drop_left' e2]
theorem splice_sig (p : PkS) (h : p.hash.length = 32) (h2 : p.sig.length = 64) (l : List UInt8) (hl : l.length = 64) : splice (pkL p) 36 (vbs l) = pkL { p with sig := l } := by
 unfold splice pkL
 have e1 : (vbs l).length = 64 := by simp [hl]
 have e2 : (vbs p.sig).length = 64 := by simp [h2]
 have e3 : (vbs p.hash).length = 32 := by simp [h]
 have ht : ([Value.int .u32 p.hw, vb p.ty, .int .u32 p.ver, .int .u32 p.sz] ++ (vbs p.hash ++ vbs p.sig)).take 36 = [Value.int .u32 p.hw, vb p.ty, .int .u32 p.ver, .int .u32 p.sz] ++ vbs p.hash := by
  rw [← List.append_assoc]
  exact List.take_left' (by simp [h])
 have hd : ([Value.int .u32 p.hw, vb p.ty, .int .u32 p.ver, .int .u32 p.sz] ++ (vbs p.hash ++ vbs p.sig)).drop (36 + 64) = [] := List.drop_eq_nil_of_le (by simp [h, h2])
 rw [e1, ht, hd]
 simp
theorem pk_three (n1 n2 n3 : Nat) : (((pkC zP).setIfInBounds 0 (.int .u32 n1)).setIfInBounds 2 (.int .u32 n2)).setIfInBounds 3 (.int .u32 n3) = pkC { zP with hw := n1, ver := n2, sz := n3 } := by simp [pkC, pkL, zP]
theorem wpList_build_pk {ops : Array Oper} {rest : List Oper} {o : Oper} {a : Act} {w : World} {Q : Exit → Act → World → Prop} (hgd : o.guard = Option.none) (x y z : Operand) (ho : o.op = .build 28 #[(0, x), (2, y), (3, z)]) (n1 n2 n3 : Nat)
  (hx : a.eval x = .int .u32 n1) (hy : a.eval y = .int .u32 n2) (hz : a.eval z = .int .u32 n3) (h : wpList Tryz.prog ops Q rest (a.put o.dst (.agg (pkC { zP with hw := n1, ver := n2, sz := n3 }))) w) : wpList Tryz.prog ops Q (o :: rest) a w := by
 have hr : (execOp a.eval o).run Tryz.prog w = .ok (.value (.agg (pkC { zP with hw := n1, ver := n2, sz := n3 }))) w := by
  have hz' := pk_hz w
  have hs : (pkC zP).size = 100 := rfl
  have hup := Tryz.underlying28
  rw [← pk_three]
  generalize pkC zP = Z at *
  generalize a.eval = ev at *
  have hne : Z ≠ #[] := by intro e; rw [e] at hs; simp at hs
  simp [execOp, ho, hx, hy, hz, hz', hs, hne, hup, go_sem]
 exact wpList_plain hgd fun _ hK => by
  unfold Oper.wp
  simp only [hr]
  exact hK _ _ h
def PkEnd (C : PkS → Array Value) (R : PkS × Nat) (w : World) (e : Ending) (w' : World) : Prop := e = .returned (.tuple #[.agg (C R.1), .int .i64 (R.2 : Nat)]) ∧ Below w.heap.size w w'
theorem pkparse_any (v : Value) (b : List UInt8) (w : World) (h : IsBytes w v b) (hlen : b.length ≤ 1000000) (hLens : Lens w) :
  Calls Tryz.prog 12 #[v] w (PkEnd pkC (pparse b) w) := by
 have hup := Tryz.underlying28
 have hz := pk_hz
 have hzs : (Tryz.prog.info? 28).map (·.size) = some (pkC zP).size := by kernel_rfl
 have hr0 := heap_alloc_new w (.cells (pkC zP) 28)
 have hb0 : Below w.heap.size w (w.alloc (.cells (pkC zP) 28)) := (Below.refl _ _).alloc (Nat.le_refl _) _
 have HB0 := hide hb0
 have hb1 := h.below hb0
 have hzo := pkC_one zP
 have HZ := hide (show (pkC zP).size = 100 by rfl)
 clear hb0
 by_cases h128 : 128 < b.length
 ·have HP := hide (show pparse b = (zP, 17) by unfold pparse; rw [if_pos h128])
  have Hr0 := hide hr0
  obtain ⟨a, c, rfl, _, hm, _, _⟩ := h
  have h128i : (128 : Int) < (b.length : Int) := by omega
  generalize hZ : pkC zP = Z at *
  clear hb1 h128 hr0
  go_enter Tryz.func12, Tryz.ntmps12
  go_wp2_with (refine wpList_store_row rfl _ _ _ rfl w.heap.size Z rfl rfl _ _ Hr0.out hzs rfl hzo ?_)
  refine bodyPost_ret (v := .tuple #[.agg Z, .int .i64 17]) (results_cell_row_tmp Tryz.results12 _ _ w.heap.size _ Z (0, 0) _ rfl (setRow_heap_same _ _ _ _ _ _ Hr0.out) hup rfl hzs (.int .i64 17) rfl) rfl ?_
  refine ⟨?_, below_setRow HB0.out (Nat.le_refl _) _⟩
  rw [HP.out, ← hZ]
  rfl
 have hP1 := tparse_any _ b _ hb1 hlen
 have HLn := hide (hLens.below HB0.out)
 have h128i : ¬((128 : Int) < (b.length : Int)) := by omega
 have hsh := parse_short (b := b) rfl
 by_cases he : (parseF b.length b 0 []).2 = 0
 ·have hpp : parseF b.length b 0 [] = ((parseF b.length b 0 []).1, 0) := by rw [← he]
  have HP : Hid (pparse b = if b.length = 121 ∧ pkB (pkAt b) = b then (pkAt b, 0) else (zP, 7)) := hide (by unfold pparse; rw [if_neg h128, if_neg (by simp [he])])
  have HPS := hide (parse_shape hpp)
  have HPA := hide (fun hs => parse_all hpp hs)
  have Hsh := hide hsh.1
  rw [he] at hP1
  have Hr0 := hide hr0
  obtain ⟨a, c, rfl, _, hm, _, _⟩ := h
  generalize hIt : (parseF b.length b 0 []).1 = its at *
  have HCnt : Hid (its.length ≤ b.length) := hide (by rw [← hIt]; simpa using parse_count b.length b 0 [])
  clear hb1 hr0 hsh hpp he hIt
  generalize hZ : pkC zP = Z at *
  go_enter Tryz.func12, Tryz.ntmps12
  go_wp2_with fail
  refine hP1.mono ?_
  clear hP1
  rintro e w2 ⟨out, L, rfl, hL, ho, hs2⟩
  have HB2 := hide (all_below (w := w.alloc (.cells Z 28)) (by exact ho.right) hs2)
  have HI2 := hide (Its.lay ho)
  have HLl : Hid (L.length ≤ 1000) := hide (by have h1 := HCnt.out; rw [← hL, List.length_map] at h1; omega)
  have HLs : Hid (∀ (i : Nat) (u : Value) (e : TItem), L[i]? = some (u, e) → e.value.length ≤ 1000) := hide fun i u e he => by
   have h1 : e ∈ L.map Prod.snd := List.mem_map.2 ⟨(u, e), List.mem_of_getElem? he, rfl⟩
   rw [hL] at h1
   have := Hsh.out e h1
   omega
  obtain ⟨la, lc, rfl, _, _, _, _⟩ := Its.lay ho
  have hS := shaped_any _ L w2 HI2.out HLs.out (HLn.out.below HB2.out)
  rw [hL] at hS
  have HL := hide hL
  clear ho hs2 hL
  go_wp2_with fail
  refine hS.mono ?_
  clear hS
  rintro e w3 ⟨rfl, hb3⟩
  have HB3 := hide (HB2.out.trans (hb3.mono HB2.out.size))
  have HI : Hid (∀ X, Below w2.heap.size w2 X → IsItems X (.slice la L.length lc) L) := hide fun X hX => HI2.out.below hX
  by_cases hsp : shapeK its = shape6
  ·rw [decide_eq_true hsp]
   obtain ⟨hqk, hqi⟩ := HPA.out hsp
   have HP2 := hide (show pparse b = (pkAt b, 0) by rw [HP.out, if_pos (HPS.out.1 hsp)])
   clear HP HPS HPA
   generalize pkAt b = q at *
   obtain ⟨f1, f2, f3, f4, f5, f6⟩ := finds q
   rw [← hqi, ← HL.out] at f1 f2 f3 f4 f5 f6
   have HF1 := hide f1
   have HF2 := hide f2
   have HF3 := hide f3
   have HF4 := hide f4
   have HF5 := hide f5
   have HF6 := hide f6
   have Hqk := hide hqk
   have HW3 := hide hb3
   have hN1 := pnumber_any _ L 1 w3 (HI.out _ hb3) HLl.out HLs.out (by rw [f1]; rfl)
   rw [f1, num_word _ hqk.hw] at hN1
   clear hqi f1 f2 f3 f4 f5 f6 hqk hsp hb3
   go_wp2_with fail
   refine hN1.mono ?_
   clear hN1
   rintro e w4 ⟨rfl, hb4⟩
   have HW4 := hide (HW3.out.trans (hb4.mono HW3.out.size))
   have hN3 := pnumber_any _ L 3 w4 (HI.out _ HW4.out) HLl.out HLs.out (by rw [HF3.out]; rfl)
   rw [HF3.out, num_word _ Hqk.out.ver] at hN3
   clear hb4
   go_wp2_with fail
   refine hN3.mono ?_
   clear hN3
   rintro e w5 ⟨rfl, hb5⟩
   have HW5 := hide (HW4.out.trans (hb5.mono HW4.out.size))
   have hN4 := pnumber_any _ L 4 w5 (HI.out _ HW5.out) HLl.out HLs.out (by rw [HF4.out]; rfl)
   rw [HF4.out, num_word _ Hqk.out.sz] at hN4
   clear hb5
   go_wp2_with fail
   refine hN4.mono ?_
   clear hN4
   rintro e w6 ⟨rfl, hb6⟩
   have HW6 := hide (HW5.out.trans (hb6.mono HW5.out.size))
   have hr6 := heap_alloc_new w6 (.cells Z 28)
   have h7 := (on_all w6).alloc (.cells Z 28)
   have HW7 : Hid (Below w2.heap.size w2 ((w6.alloc (.cells Z 28)).setRow w6.heap.size (pkC { zP with hw := q.hw, ver := q.ver, sz := q.sz }))) := hide (below_setRow (HW6.out.alloc HW6.out.size _) HW6.out.size _)
   have hp7 : ((w6.alloc (.cells Z 28)).setRow w6.heap.size (pkC { zP with hw := q.hw, ver := q.ver, sz := q.sz })).heap[w6.heap.size]? = some (.cells (pkC { zP with hw := q.hw, ver := q.ver, sz := q.sz }) 28 (0, 0)) := setRow_heap_same _ _ _ _ _ _ hr6
   have hok1 : PkS.Ok { zP with hw := q.hw, ver := q.ver, sz := q.sz } := ⟨Hqk.out.hw, Hqk.out.ver, Hqk.out.sz, rfl, rfl⟩
   have hs1 : (Tryz.prog.info? 28).map (·.size) = some (pkC { zP with hw := q.hw, ver := q.ver, sz := q.sz }).size := by rw [pkC_size hok1]; kernel_rfl
   have hzs1 : Z.size = (pkC { zP with hw := q.hw, ver := q.ver, sz := q.sz }).size := by rw [pkC_size hok1]; exact HZ.out
   have ho1 := pkC_one { zP with hw := q.hw, ver := q.ver, sz := q.sz }
   have hpg : w2.heap.size ≤ w6.heap.size := HW6.out.size
   have Hp7 := hide hp7
   have Hpg := hide hpg
   clear hb6 h7 hp7 hpg
   generalize hq1 : ({ zP with hw := q.hw, ver := q.ver, sz := q.sz } : PkS) = q1 at *
   have Hq1 := hide hq1
   have Hok1 := hide hok1
   clear hq1
   generalize hw7 : (w6.alloc (.cells Z 28)).setRow w6.heap.size (pkC q1) = w7 at *
   have Hw7 := hide hw7
   clear hw7
   go_wp2_with (first
    | (refine wpList_build_pk rfl _ _ _ rfl q.hw q.ver q.sz rfl rfl rfl ?_; rw [Hq1.out])
    | (refine wpList_store_row rfl _ _ _ rfl w6.heap.size (pkC q1) rfl rfl _ _ hr6 hs1 hzs1 ho1 ?_; rw [Hw7.out]))
   have hV2 := pvalue_any _ L 2 w7 (HI.out _ HW7.out) HLl.out HLs.out
   rw [HF2.out] at hV2
   generalize w6.heap.size = p at *
   clear hr6 hs1 hzs1 ho1 hok1
   go_wp2_with fail
   refine hV2.mono ?_
   clear hV2
   rintro e w8 ⟨u, rfl, hu8, hs8⟩
   have hb8 := all_below hu8.right hs8
   obtain ⟨gu, cu, rfl, _, _⟩ := own_block hu8 (by simp)
   have cu0 := own_cell hu8 0 _ rfl
   have hp8 := (hb8.block p (Array.getElem?_eq_some_iff.1 Hp7.out).1).trans Hp7.out
   have HW8 := hide (HW7.out.trans (hb8.mono HW7.out.size))
   have hty1 : w8.cell? ⟨p, 1, .none⟩ = some (vb q1.ty) := (pk_cells q1 w8 p _ hp8).2.1
   have hfr1 := frozen_of_row w8 p 1 _ _ hp8
   clear hu8 hs8 hb8
   go_wp2_with fail
   have hg9 := heap_setCell_same w8 p 1 _ _ (vb q.ty) hp8
   rw [pkC_ty] at hg9
   obtain ⟨q2, hq2⟩ : ∃ x : PkS, x = { q1 with ty := q.ty } := ⟨_, rfl⟩
   rw [← hq2] at hg9
   have HW9 := hide (HW8.out.setCell (p := ⟨p, 1, .none⟩) Hpg.out (vb q.ty))
   have Hp9 := hide hg9
   have Hok9 : Hid (PkS.Ok q2) := hide (by rw [hq2]; exact ⟨Hok1.out.hw, Hok1.out.ver, Hok1.out.sz, Hok1.out.hash, Hok1.out.sig⟩)
   have Hq2 := hide hq2
   have hu5 := Tryz.underlying24
   have hu6 := Tryz.underlying26
   generalize hw9 : w8.setCell ⟨p, 1, .none⟩ (vb q.ty) = w9 at *
   clear hg9 hp8 hw9 cu0 hty1 hfr1 hq2
   refine wp_tail 4 [isV (.pointer (some ⟨p, 4, .none⟩)), isV (.slice (some ⟨p, 4, .none⟩) 32 32), isV (.slice la L.length lc), fun v X => IsBytes X v (q.hash)] ?t71 ?r83 (hk := ?keep)
   case keep => exact ⟨Keep.isV _, Keep.isV _, Keep.isV _, fun _ _ _ h k => IsBytes.below h k, trivial⟩
   case' t71 => refine ⟨?_, ?_, ?_, ?_, trivial⟩ <;> intro ev X hT hb hk hf
   ·exact OpOk.s (fV ev 6 (.pointer (some ⟨p, 0, .none⟩)) hk.1) hb
   ·exact OpOk.r (by have h9 := arr_whole 24 32 hu5 p 4 X; simp [execOp, fX ev 36 hf.1, hb.1, h9, go_sem])
   ·exact OpOk.m rfl hk.1
   ·refine OpOk.enters (by simp [execOp, resolve, invoke, fX ev 38 hf.1, hb.1, hb.2.1, go_sem]) ((pvalue_any _ L 5 X (HI.out X (HW9.out.trans (hT.mono HW9.out.size))) HLl.out HLs.out).mono ?_)
    rintro e X2 ⟨v5, rfl, h5, h6⟩
    rw [HF5.out] at h5
    exact ⟨_, rfl, own_bytes h5, all_below h5.right h6⟩
   intro X hT
   rintro _ rfl _ rfl _ rfl v3 h3
   have h3' : IsBytes X v3 q.hash := h3
   obtain ⟨xa, xc, rfl, _, _, hlx, _⟩ := h3'
   have hgX := (hT.block p (Array.getElem?_eq_some_iff.1 Hp9.out).1).trans Hp9.out
   have hbX := HW9.out.trans (hT.mono HW9.out.size)
   have hln : q.hash.length = 32 := Hqk.out.hash
   clear h3 hT
   go_wp2
   refine Rest.done ?_
   have hA : (vbs q.hash).length = Nat.min 32 32 := by rw [show (vbs q.hash).length = q.hash.length by simp, hln]; rfl
   have hB : 4 + (vbs q.hash).length ≤ (pkL q2).length := by
    rw [show (vbs q.hash).length = 32 by simp [hln]]
    have h9 := pkC_size Hok9.out
    have h10 : (pkC q2).size = (pkL q2).length := by simp [pkC]
    omega
   refine wpList_copy_splice rfl _ _ _ _ rfl 5 Tryz.underlying35 (by kernel_rfl) _ _ _ _ _ _ rfl rfl p 4 (pkL q2) 28 hgX (vbs q.hash) hA ?_ hB (vbs_one _) w2.heap.size w2 hbX Hpg.out ?_
   ·intro hpos
    obtain ⟨b9, off9, rfl⟩ := hlx.isAddr 0 hpos
    refine ⟨rfl, _, rfl, ?_⟩
    intro j v hv
    have := Lay.cell hlx j hv
    have ea : (⟨b9, off9, .none⟩ : Addr).add j = ⟨b9, off9 + j, .none⟩ := addr_add0 b9 off9 j
    rw [ea]; exact this
   intro w10 hg10 hbb10
   have hg9 := hg10.out
   rw [splice_hash q2 Hok9.out.hash _ hln] at hg9
   obtain ⟨q3, hq3⟩ : ∃ x : PkS, x = { q2 with hash := q.hash } := ⟨_, rfl⟩
   rw [← hq3] at hg9
   have Hp10 : Hid (w10.heap[p]? = some (.cells (pkC q3) 28 (0, 0))) := hide hg9
   have HW10 := hide hbb10
   have Hok10 : Hid (PkS.Ok q3) := hide (by rw [hq3]; exact ⟨Hok9.out.hw, Hok9.out.ver, Hok9.out.sz, hln, Hok9.out.sig⟩)
   have Hq3 := hide hq3
   clear hq3 hg9 hg10 hbb10 hlx hgX hbX hln
   simp only [wpList]
   go_wp2_with fail
   refine wp_tail 4 [isV (.pointer (some ⟨p, 36, .none⟩)), isV (.slice (some ⟨p, 36, .none⟩) 64 64), isV (.slice la L.length lc), fun v X => IsBytes X v (q.sig)] ?t72 ?r84 (hk := ?keep)
   case keep => exact ⟨Keep.isV _, Keep.isV _, Keep.isV _, fun _ _ _ h k => IsBytes.below h k, trivial⟩
   case' t72 => refine ⟨?_, ?_, ?_, ?_, trivial⟩ <;> intro ev X hT hb hk hf
   ·exact OpOk.s (fV ev 6 (.pointer (some ⟨p, 0, .none⟩)) hk.1) hb
   ·exact OpOk.r (by have h9 := arr_whole 26 64 hu6 p 36 X; simp [execOp, fX ev 41 hf.1, hb.1, h9, go_sem])
   ·exact OpOk.m rfl hk.1
   ·refine OpOk.enters (by simp [execOp, resolve, invoke, fX ev 43 hf.1, hb.1, hb.2.1, go_sem]) ((pvalue_any _ L 6 X (HI.out X (HW10.out.trans (hT.mono HW10.out.size))) HLl.out HLs.out).mono ?_)
    rintro e X2 ⟨v5, rfl, h5, h6⟩
    rw [HF6.out] at h5
    exact ⟨_, rfl, own_bytes h5, all_below h5.right h6⟩
   intro X hT
   rintro _ rfl _ rfl _ rfl v3 h3
   have h3' : IsBytes X v3 q.sig := h3
   obtain ⟨xa, xc, rfl, _, _, hlx, _⟩ := h3'
   have hgX := (hT.block p (Array.getElem?_eq_some_iff.1 Hp10.out).1).trans Hp10.out
   have hbX := HW10.out.trans (hT.mono HW10.out.size)
   have hln : q.sig.length = 64 := Hqk.out.sig
   clear h3 hT
   go_wp2
   refine Rest.done ?_
   have hA : (vbs q.sig).length = Nat.min 64 64 := by rw [show (vbs q.sig).length = q.sig.length by simp, hln]; rfl
   have hB : 36 + (vbs q.sig).length ≤ (pkL q3).length := by
    rw [show (vbs q.sig).length = 64 by simp [hln]]
    have h9 := pkC_size Hok10.out
    have h10 : (pkC q3).size = (pkL q3).length := by simp [pkC]
    omega
   refine wpList_copy_splice rfl _ _ _ _ rfl 5 Tryz.underlying35 (by kernel_rfl) _ _ _ _ _ _ rfl rfl p 36 (pkL q3) 28 hgX (vbs q.sig) hA ?_ hB (vbs_one _) w2.heap.size w2 hbX Hpg.out ?_
   ·intro hpos
    obtain ⟨b9, off9, rfl⟩ := hlx.isAddr 0 hpos
    refine ⟨rfl, _, rfl, ?_⟩
    intro j v hv
    have := Lay.cell hlx j hv
    have ea : (⟨b9, off9, .none⟩ : Addr).add j = ⟨b9, off9 + j, .none⟩ := addr_add0 b9 off9 j
    rw [ea]; exact this
   intro w11 hg11 hbb11
   have hg9 := hg11.out
   rw [splice_sig q3 Hok10.out.hash Hok10.out.sig _ hln, show ({ q3 with sig := q.sig } : PkS) = q by rw [Hq3.out, Hq2.out, ← Hq1.out]] at hg9
   have Hp11 : Hid (w11.heap[p]? = some (.cells (pkC q) 28 (0, 0))) := hide hg9
   have HW11 := hide hbb11
   clear hg9 hg11 hbb11 hlx hgX hbX hln
   simp only [wpList]
   have hs2 : (Tryz.prog.info? 28).map (·.size) = some (pkC q).size := by rw [pkC_size Hqk.out]; kernel_rfl
   have hz2 : Z.size = (pkC q).size := by rw [pkC_size Hqk.out]; exact HZ.out
   have ho2 := pkC_one q
   have hB11 := HB2.out.trans (HW11.out.mono HB2.out.size)
   have Hr11 := hide ((hB11.block w.heap.size (by simp)).trans Hr0.out)
   have HB11 := hide hB11
   clear hB11
   generalize hC : pkC q = C at *
   go_wp2_with (first
    | (refine wpList_load_row rfl _ _ rfl p rfl _ C _ _ Hp11.out hup rfl hs2 ?_)
    | (refine wpList_store_row rfl _ _ _ rfl w.heap.size C rfl rfl _ _ Hr11.out hs2 hz2 ho2 ?_))
   refine bodyPost_ret (v := .tuple #[.agg C, .int .i64 0]) (results_cell_row_tmp Tryz.results12 _ _ w.heap.size _ C (0, 0) _ rfl (setRow_heap_same _ _ _ _ _ _ Hr11.out) hup rfl hs2 (.int .i64 0) rfl) rfl ?_
   refine ⟨?_, below_setRow (HB0.out.trans (HB11.out.mono (by simp))) (Nat.le_refl _) _⟩
   rw [HP2.out, ← hC]
   rfl
  rw [decide_eq_false hsp]
  have HP2 := hide (show pparse b = (zP, 7) by rw [HP.out, if_neg (fun hh => hsp (HPS.out.2 hh))])
  have Hr3 := hide ((HB3.out.block w.heap.size (by simp)).trans Hr0.out)
  clear hb3 hsp
  go_wp2_with (refine wpList_store_row rfl _ _ _ rfl w.heap.size Z rfl rfl _ _ Hr3.out hzs rfl hzo ?_)
  refine bodyPost_ret (v := .tuple #[.agg Z, .int .i64 7]) (results_cell_row_tmp Tryz.results12 _ _ w.heap.size _ Z (0, 0) _ rfl (setRow_heap_same _ _ _ _ _ _ Hr3.out) hup rfl hzs (.int .i64 7) rfl) rfl ?_
  refine ⟨?_, below_setRow (HB0.out.trans (HB3.out.mono (by simp))) (Nat.le_refl _) _⟩
  rw [HP2.out, ← hZ]
  rfl
 have HP := hide (show pparse b = (zP, (parseF b.length b 0 []).2) by unfold pparse; rw [if_neg h128, if_pos (by simp [he])])
 have Hr0 := hide hr0
 obtain ⟨a, c, rfl, _, hm, _, _⟩ := h
 generalize hE : (parseF b.length b 0 []).2 = er at *
 have hei : (((er : Nat) : Int) != 0) = true := by simp; omega
 clear hb1 hr0 hsh hE
 generalize hZ : pkC zP = Z at *
 go_enter Tryz.func12, Tryz.ntmps12
 go_wp2_with fail
 refine hP1.mono ?_
 clear hP1
 rintro e w2 ⟨out, L, rfl, hL, ho, hs2⟩
 have HB2 := hide (all_below (w := w.alloc (.cells Z 28)) (by exact ho.right) hs2)
 have Hr2 := hide ((HB2.out.block w.heap.size (by simp)).trans Hr0.out)
 obtain ⟨la, lc, rfl, _, _, _, _⟩ := Its.lay ho
 clear ho hs2 hL he
 go_wp2_with (refine wpList_store_row rfl _ _ _ rfl w.heap.size Z rfl rfl _ _ Hr2.out hzs rfl hzo ?_)
 refine bodyPost_ret (v := .tuple #[.agg Z, .int .i64 (er : Nat)]) (results_cell_row_tmp Tryz.results12 _ _ w.heap.size _ Z (0, 0) _ rfl (setRow_heap_same _ _ _ _ _ _ Hr2.out) hup rfl hzs (.int .i64 (er : Nat)) rfl) rfl ?_
 refine ⟨?_, below_setRow (HB0.out.trans (HB2.out.mono (by simp))) (Nat.le_refl _) _⟩
 rw [HP.out, ← hZ]
end Go.Proofs.YtjdebgbiockafaaGreatDoor
