/- A part. -/
import Derived.Test.YtjdebgbiockafaaGreatDoorGFeD
set_option linter.unusedVariables false
set_option linter.unusedSimpArgs false
set_option maxRecDepth 100000
set_option maxHeartbeats 8000000
namespace Go.Proofs.YtjdebgbiockafaaGreatDoor
namespace Ed
open Fe
section
variable {F : Type} [Lean.Grind.CommRing F]
theorem r_zero (x y u : F) (h1 : x * u = 1) (h : x * y = 0) : y = 0 := by grind
theorem r_cancel (w u x y : F) (h1 : w * u = 1) (h : x * w = y * w) : x = y := by grind
theorem r_sq (a w u d : F) (h1 : w * u = 1) (h : a * a = d * (w * w)) : a * u * (a * u) = d := by grind
theorem r_s0 (s : F) (hs : s * s = 1) (h : s = 0) : (1 : F) = 0 := by grind
theorem r_k1 (d x1 y1 x2 y2 s : F) (he : d * x1 * x2 * y1 * y2 = s) (h : x1 = 0) : s = 0 := by grind
theorem r_k2 (d x1 y1 x2 y2 s : F) (he : d * x1 * x2 * y1 * y2 = s) (h : y1 = 0) : s = 0 := by grind
theorem r_k3 (d x1 y1 x2 y2 s : F) (he : d * x1 * x2 * y1 * y2 = s) (h : y2 = 0) : s = 0 := by grind
theorem r_neg (d x y : F) (h : y * y - x * x = 1 + d * x * x * y * y) : -y * -y - x * x = 1 + d * x * x * -y * -y := by grind
theorem r_nn (d x1 y1 x2 y2 s : F) (he : d * x1 * x2 * y1 * y2 = s) : d * x1 * x2 * -y1 * -y2 = s := by grind
theorem r_ny (x y : F) (h : x * -y = 0) : x * y = 0 := by grind
theorem r_two (i x y : F) (h1 : i * x + y = 0) (h2 : i * x + -y = 0) : (1 + 1) * y = 0 := by grind
theorem r_m1 (e : F) (h : 1 + e = 0) : e = -1 := by grind
theorem r_p1 (e : F) (h : 1 - e = 0) : e = 1 := by grind
theorem r_mm : (-1 : F) * -1 = 1 := by grind
theorem r_oo : (1 : F) * 1 = 1 := by grind
theorem r_none (d : F) : (1 : F) * 1 - 0 * 0 = 1 + d * 0 * 0 * 1 * 1 := by grind
theorem g_e1 (d x1 y1 x2 y2 Z1 Z2 : F) : Z1 * Z2 + Z1 * Z2 - x1 * y1 * Z1 * (d + d) * (x2 * y2 * Z2) = (1 - d * x1 * x2 * y1 * y2) * ((1 + 1) * (Z1 * Z2)) := by grind
theorem g_e2 (d x1 y1 x2 y2 Z1 Z2 : F) : Z1 * Z2 + Z1 * Z2 + x1 * y1 * Z1 * (d + d) * (x2 * y2 * Z2) = (1 + d * x1 * x2 * y1 * y2) * ((1 + 1) * (Z1 * Z2)) := by grind
theorem g_e3 (x1 y1 x2 y2 Z1 Z2 : F) : (y1 * Z1 + x1 * Z1) * (y2 * Z2 + x2 * Z2) - (y1 * Z1 - x1 * Z1) * (y2 * Z2 - x2 * Z2) = (x1 * y2 + x2 * y1) * ((1 + 1) * (Z1 * Z2)) := by grind
theorem g_e4 (x1 y1 x2 y2 Z1 Z2 : F) : (y1 * Z1 + x1 * Z1) * (y2 * Z2 + x2 * Z2) + (y1 * Z1 - x1 * Z1) * (y2 * Z2 - x2 * Z2) = (y1 * y2 + x1 * x2) * ((1 + 1) * (Z1 * Z2)) := by grind
theorem g_x (m A B u W : F) (h : A * u = 1) : m * W * (B * W) = m * u * (B * W * (A * W)) := by grind
theorem g_y (m A B v W : F) (h : B * v = 1) : A * W * (m * W) = m * v * (B * W * (A * W)) := by grind
theorem g_t (m n A B u v W : F) (h1 : A * u = 1) (h2 : B * v = 1) : n * W * (m * W) = n * u * (m * v) * (B * W * (A * W)) := by grind
theorem p_e1 (d x1 y1 x2 y2 Z1 Z2 : F) : Z1 * Z2 * (Z1 * Z2) - d * (x1 * Z1 * (x2 * Z2) * (y1 * Z1 * (y2 * Z2))) = (1 - d * x1 * x2 * y1 * y2) * (Z1 * Z2 * (Z1 * Z2)) := by grind
theorem p_e2 (d x1 y1 x2 y2 Z1 Z2 : F) : Z1 * Z2 * (Z1 * Z2) + d * (x1 * Z1 * (x2 * Z2) * (y1 * Z1 * (y2 * Z2))) = (1 + d * x1 * x2 * y1 * y2) * (Z1 * Z2 * (Z1 * Z2)) := by grind
theorem p_e3 (x1 y1 x2 y2 Z1 Z2 : F) : (x1 * Z1 + y1 * Z1) * (x2 * Z2 + y2 * Z2) - x1 * Z1 * (x2 * Z2) - y1 * Z1 * (y2 * Z2) = (x1 * y2 + x2 * y1) * (Z1 * Z2) := by grind
theorem p_e4 (x1 y1 x2 y2 Z1 Z2 : F) : y1 * Z1 * (y2 * Z2) + x1 * Z1 * (x2 * Z2) = (y1 * y2 + x1 * x2) * (Z1 * Z2) := by grind
theorem p_x (m A B u W : F) (h : A * u = 1) : W * (B * (W * W)) * (m * W) = m * u * (B * (W * W) * (A * (W * W))) := by grind
theorem p_y (m A B v W : F) (h : B * v = 1) : W * (A * (W * W)) * (m * W) = m * v * (B * (W * W) * (A * (W * W))) := by grind
theorem r_pt (x Z u : F) (h : Z * u = 1) : x * Z * u = x := by grind
theorem r_same (x1 x2 Z1 Z2 : F) (h : x1 * Z1 * Z2 = x2 * Z2 * Z1) : x1 * (Z1 * Z2) = x2 * (Z1 * Z2) := by grind
theorem r_same2 (x Z1 Z2 : F) : x * Z1 * Z2 = x * Z2 * Z1 := by grind
theorem sq_form (i d x1 y1 x2 y2 s : F) (hi : i * i = -1) (h1 : y1 * y1 - x1 * x1 = 1 + d * x1 * x1 * y1 * y1) (h2 : y2 * y2 - x2 * x2 = 1 + d * x2 * x2 * y2 * y2) (hs : s * s = 1) (he : d * x1 * x2 * y1 * y2 = s) :
  (i * x1 + s * y1) * (i * x1 + s * y1) = d * ((x1 * y1 * (i * x2 + y2)) * (x1 * y1 * (i * x2 + y2))) := by grind
theorem key_form (d x1 y1 x2 y2 : F) (h1 : y1 * y1 - x1 * x1 = 1 + d * x1 * x1 * y1 * y1) (h2 : y2 * y2 - x2 * x2 = 1 + d * x2 * x2 * y2 * y2) :
  (y1 * y2 + x1 * x2) * (y1 * y2 + x1 * x2) * ((1 + d * x1 * x2 * y1 * y2) * (1 + d * x1 * x2 * y1 * y2)) - (x1 * y2 + x2 * y1) * (x1 * y2 + x2 * y1) * ((1 - d * x1 * x2 * y1 * y2) * (1 - d * x1 * x2 * y1 * y2))
   = (1 + d * x1 * x2 * y1 * y2) * (1 + d * x1 * x2 * y1 * y2) * ((1 - d * x1 * x2 * y1 * y2) * (1 - d * x1 * x2 * y1 * y2)) + d * ((x1 * y2 + x2 * y1) * (x1 * y2 + x2 * y1)) * ((y1 * y2 + x1 * x2) * (y1 * y2 + x1 * x2)) := by grind
theorem key_end (d u v a b p m : F) (hp : a * p = 1) (hm : b * m = 1) (h : v * v * (a * a) - u * u * (b * b) = a * a * (b * b) + d * (u * u) * (v * v)) :
  v * m * (v * m) - u * p * (u * p) = 1 + d * (u * p) * (u * p) * (v * m) * (v * m) := by
 have e1 : v * m * (v * m) - u * p * (u * p) = (v * v * (a * a) - u * u * (b * b)) * (p * p) * (m * m) := by grind
 rw [e1, h]; grind
end
instance ne5 : NeZero P5 := ⟨by decide⟩
abbrev F5 := Fin P5
def el (n : Nat) : F5 := ⟨n % P5, Nat.mod_lt _ P5_pos⟩
theorem el_val (n : Nat) (h : n < P5) : (el n).val = n := Nat.mod_eq_of_lt h
theorem val_el (x : F5) : el x.val = x := Fin.ext (Nat.mod_eq_of_lt x.isLt)
theorem val_add (x y : F5) : (x + y).val = (x.val + y.val) % P5 := rfl
theorem val_mul (x y : F5) : (x * y).val = x.val * y.val % P5 := rfl
theorem val_sub (x y : F5) : (x - y).val = (x.val + (P5 - y.val)) % P5 := by rw [Nat.add_comm]; rfl
theorem val_neg (x : F5) : (-x).val = (P5 - x.val) % P5 := rfl
def inv (x : F5) : F5 := ⟨pwr x.val (P5 - 2) 256, pwr_lt _ _ _⟩
theorem zero_val : (0 : F5).val = 0 := rfl
theorem one_val : (1 : F5).val = 1 := by decide
theorem mul_inv (x : F5) (h : x ≠ 0) : x * inv x = 1 := by
 refine Fin.ext ?_
 rw [val_mul, one_val]
 exact inv_one x.val (fun e => h (Fin.ext e)) x.isLt
theorem mul_zero (x y : F5) (h : x * y = 0) : x = 0 ∨ y = 0 := by
 by_cases hx : x = 0
 ·exact .inl hx
 exact .inr (r_zero x y _ (mul_inv x hx) h)
theorem cancel (w x y : F5) (hw : w ≠ 0) (h : x * w = y * w) : x = y := r_cancel w _ x y (mul_inv w hw) h
theorem inv_val (x : F5) : (inv x).val = pwr x.val (P5 - 2) 256 := rfl
def dN : Nat := 37095705934669439343138083508754565189542113879843219016388785533085940283555
def d5 : F5 := el dN
def i5 : F5 := el SqM
theorem i5_sq : i5 * i5 = -1 := by
 refine Fin.ext ?_
 rw [val_mul, val_neg, one_val]
 show SqM % P5 * (SqM % P5) % P5 = (P5 - 1) % P5
 decide +kernel
theorem d5_no (z : F5) : z * z ≠ d5 := by
 intro h
 have h1 := congrArg Fin.val h
 rw [val_mul, show d5.val = dN from el_val dN (by decide)] at h1
 have h2 := sq_pow z.val dN h1 (by decide) z.isLt
 rw [← pwr_all _ _ HF_lt] at h2
 have h3 : pwr dN HF 256 = P5 - 1 := by decide +kernel
 rw [h3] at h2
 exact absurd h2 (by decide)
theorem one_ne : (1 : F5) ≠ 0 := by
 intro h
 have := congrArg Fin.val h
 rw [one_val, zero_val] at this
 omega
theorem two_ne : (1 : F5) + 1 ≠ 0 := by
 intro h
 have := congrArg Fin.val h
 rw [val_add, one_val, zero_val] at this
 exact absurd this (by decide)
def On (x y : F5) : Prop := y * y - x * x = 1 + d5 * x * x * y * y
theorem no_square (a w : F5) (hw : w ≠ 0) (h : a * a = d5 * (w * w)) : False := d5_no (a * inv w) (r_sq a w _ d5 (mul_inv w hw) h)
theorem full (x1 y1 x2 y2 : F5) (h1 : On x1 y1) (h2 : On x2 y2) (s : F5) (hs : s * s = 1) (he : d5 * x1 * x2 * y1 * y2 = s) : False := by
 have hs0 : s ≠ 0 := fun e => one_ne (r_s0 s hs e)
 have hx1 : x1 ≠ 0 := fun e => hs0 (r_k1 _ _ _ _ _ _ he e)
 have hy1 : y1 ≠ 0 := fun e => hs0 (r_k2 _ _ _ _ _ _ he e)
 have hy2 : y2 ≠ 0 := fun e => hs0 (r_k3 _ _ _ _ _ _ he e)
 have hp : x1 * y1 ≠ 0 := fun e => by rcases mul_zero _ _ e with e | e; exact hx1 e; exact hy1 e
 have f1 := sq_form i5 d5 x1 y1 x2 y2 s i5_sq h1 h2 hs he
 have f2 := sq_form i5 d5 x1 (-y1) x2 (-y2) s i5_sq (r_neg d5 x1 y1 h1) (r_neg d5 x2 y2 h2) hs (r_nn _ _ _ _ _ _ he)
 have g1 : i5 * x2 + y2 = 0 := Classical.byContradiction fun hne => by
  refine no_square _ _ (fun e => ?_) f1
  rcases mul_zero _ _ e with e | e; exact hp e; exact hne e
 have g2 : i5 * x2 + -y2 = 0 := Classical.byContradiction fun hne => by
  refine no_square _ _ (fun e => ?_) f2
  rcases mul_zero _ _ e with e | e
  ·exact hp (r_ny _ _ e)
  exact hne e
 rcases mul_zero _ _ (r_two _ _ _ g1 g2) with e | e
 ·exact two_ne e
 exact hy2 e
theorem full_add (x1 y1 x2 y2 : F5) (h1 : On x1 y1) (h2 : On x2 y2) : 1 + d5 * x1 * x2 * y1 * y2 ≠ 0 := fun e => full x1 y1 x2 y2 h1 h2 (-1) r_mm (r_m1 _ e)
theorem full_sub (x1 y1 x2 y2 : F5) (h1 : On x1 y1) (h2 : On x2 y2) : 1 - d5 * x1 * x2 * y1 * y2 ≠ 0 := fun e => full x1 y1 x2 y2 h1 h2 1 r_oo (r_p1 _ e)
def sX (x1 y1 x2 y2 : F5) : F5 := (x1 * y2 + x2 * y1) * inv (1 + d5 * x1 * x2 * y1 * y2)
def sY (x1 y1 x2 y2 : F5) : F5 := (y1 * y2 + x1 * x2) * inv (1 - d5 * x1 * x2 * y1 * y2)
theorem On.sum {x1 y1 x2 y2 : F5} (h1 : On x1 y1) (h2 : On x2 y2) : On (sX x1 y1 x2 y2) (sY x1 y1 x2 y2) :=
 key_end d5 _ _ _ _ _ _ (mul_inv _ (full_add x1 y1 x2 y2 h1 h2)) (mul_inv _ (full_sub x1 y1 x2 y2 h1 h2)) (key_form d5 x1 y1 x2 y2 h1 h2)
theorem On.none : On 0 1 := r_none d5
structure Ex (X Y Z T x y : F5) : Prop where
 zn : Z ≠ 0
 xe : X = x * Z
 ye : Y = y * Z
 te : T = x * y * Z
structure Pj (X Y Z x y : F5) : Prop where
 zn : Z ≠ 0
 xe : X = x * Z
 ye : Y = y * Z
theorem ne_mul {a b : F5} (ha : a ≠ 0) (hb : b ≠ 0) : a * b ≠ 0 := fun e => by rcases mul_zero _ _ e with e | e; exact ha e; exact hb e
theorem Ex.add {X1 Y1 Z1 T1 x1 y1 X2 Y2 Z2 T2 x2 y2 : F5} (p : Ex X1 Y1 Z1 T1 x1 y1) (q : Ex X2 Y2 Z2 T2 x2 y2) (h1 : On x1 y1) (h2 : On x2 y2) :
  let a := (Y1 - X1) * (Y2 - X2)
  let b := (Y1 + X1) * (Y2 + X2)
  let c := T1 * (d5 + d5) * T2
  let z := Z1 * Z2 + Z1 * Z2
  Ex ((b - a) * (z - c)) ((z + c) * (b + a)) ((z - c) * (z + c)) ((b - a) * (b + a)) (sX x1 y1 x2 y2) (sY x1 y1 x2 y2) := by
 intro a b c z
 have f1 := full_add x1 y1 x2 y2 h1 h2
 have f2 := full_sub x1 y1 x2 y2 h1 h2
 have i1 := mul_inv _ f1
 have i2 := mul_inv _ f2
 have hz := ne_mul two_ne (ne_mul p.zn q.zn)
 have e1 : z - c = (1 - d5 * x1 * x2 * y1 * y2) * ((1 + 1) * (Z1 * Z2)) := by
  show Z1 * Z2 + Z1 * Z2 - T1 * (d5 + d5) * T2 = _
  rw [p.te, q.te]; exact g_e1 _ _ _ _ _ _ _
 have e2 : z + c = (1 + d5 * x1 * x2 * y1 * y2) * ((1 + 1) * (Z1 * Z2)) := by
  show Z1 * Z2 + Z1 * Z2 + T1 * (d5 + d5) * T2 = _
  rw [p.te, q.te]; exact g_e2 _ _ _ _ _ _ _
 have e3 : b - a = (x1 * y2 + x2 * y1) * ((1 + 1) * (Z1 * Z2)) := by
  show (Y1 + X1) * (Y2 + X2) - (Y1 - X1) * (Y2 - X2) = _
  rw [p.xe, p.ye, q.xe, q.ye]; exact g_e3 _ _ _ _ _ _
 have e4 : b + a = (y1 * y2 + x1 * x2) * ((1 + 1) * (Z1 * Z2)) := by
  show (Y1 + X1) * (Y2 + X2) + (Y1 - X1) * (Y2 - X2) = _
  rw [p.xe, p.ye, q.xe, q.ye]; exact g_e4 _ _ _ _ _ _
 have n1 : z - c ≠ 0 := by rw [e1]; exact ne_mul f2 hz
 have n2 : z + c ≠ 0 := by rw [e2]; exact ne_mul f1 hz
 refine ⟨ne_mul n1 n2, ?_, ?_, ?_⟩
 ·rw [e1, e2, e3]; exact g_x _ _ _ _ _ i1
 ·rw [e1, e2, e4]; exact g_y _ _ _ _ _ i2
 rw [e1, e2, e3, e4]; exact g_t _ _ _ _ _ _ _ i1 i2
theorem Pj.add {X1 Y1 Z1 x1 y1 X2 Y2 Z2 x2 y2 : F5} (p : Pj X1 Y1 Z1 x1 y1) (q : Pj X2 Y2 Z2 x2 y2) (h1 : On x1 y1) (h2 : On x2 y2) :
  let a := Z1 * Z2
  let b := a * a
  let c := X1 * X2
  let e := Y1 * Y2
  let f := d5 * (c * e)
  Pj (a * (b - f) * ((X1 + Y1) * (X2 + Y2) - c - e)) (a * (b + f) * (e + c)) ((b - f) * (b + f)) (sX x1 y1 x2 y2) (sY x1 y1 x2 y2) := by
 intro a b c e f
 have f1 := full_add x1 y1 x2 y2 h1 h2
 have f2 := full_sub x1 y1 x2 y2 h1 h2
 have i1 := mul_inv _ f1
 have i2 := mul_inv _ f2
 have hz := ne_mul p.zn q.zn
 have e1 : b - f = (1 - d5 * x1 * x2 * y1 * y2) * ((Z1 * Z2) * (Z1 * Z2)) := by
  show Z1 * Z2 * (Z1 * Z2) - d5 * (X1 * X2 * (Y1 * Y2)) = _
  rw [p.xe, p.ye, q.xe, q.ye]; exact p_e1 _ _ _ _ _ _ _
 have e2 : b + f = (1 + d5 * x1 * x2 * y1 * y2) * ((Z1 * Z2) * (Z1 * Z2)) := by
  show Z1 * Z2 * (Z1 * Z2) + d5 * (X1 * X2 * (Y1 * Y2)) = _
  rw [p.xe, p.ye, q.xe, q.ye]; exact p_e2 _ _ _ _ _ _ _
 have e3 : (X1 + Y1) * (X2 + Y2) - c - e = (x1 * y2 + x2 * y1) * (Z1 * Z2) := by
  show (X1 + Y1) * (X2 + Y2) - X1 * X2 - Y1 * Y2 = _
  rw [p.xe, p.ye, q.xe, q.ye]; exact p_e3 _ _ _ _ _ _
 have e4 : e + c = (y1 * y2 + x1 * x2) * (Z1 * Z2) := by
  show Y1 * Y2 + X1 * X2 = _
  rw [p.xe, p.ye, q.xe, q.ye]; exact p_e4 _ _ _ _ _ _
 have n1 : b - f ≠ 0 := by rw [e1]; exact ne_mul f2 (ne_mul hz hz)
 have n2 : b + f ≠ 0 := by rw [e2]; exact ne_mul f1 (ne_mul hz hz)
 refine ⟨ne_mul n1 n2, ?_, ?_⟩
 ·rw [e1, e2, e3]; exact p_x _ _ _ _ _ i1
 rw [e1, e2, e4]; exact p_y _ _ _ _ _ i2
theorem Ex.point {X Y Z T x y : F5} (p : Ex X Y Z T x y) : X * inv Z = x ∧ Y * inv Z = y := by
 rw [p.xe, p.ye]
 exact ⟨r_pt _ _ _ (mul_inv Z p.zn), r_pt _ _ _ (mul_inv Z p.zn)⟩
theorem Pj.point {X Y Z x y : F5} (p : Pj X Y Z x y) : X * inv Z = x ∧ Y * inv Z = y := by
 rw [p.xe, p.ye]
 exact ⟨r_pt _ _ _ (mul_inv Z p.zn), r_pt _ _ _ (mul_inv Z p.zn)⟩
theorem Pj.same {X1 Y1 Z1 x1 y1 X2 Y2 Z2 x2 y2 : F5} (p : Pj X1 Y1 Z1 x1 y1) (q : Pj X2 Y2 Z2 x2 y2) : (X1 * Z2 = X2 * Z1 ↔ x1 = x2) ∧ (Y1 * Z2 = Y2 * Z1 ↔ y1 = y2) := by
 have hz := ne_mul p.zn q.zn
 rw [p.xe, p.ye, q.xe, q.ye]
 exact ⟨⟨fun h => cancel _ _ _ hz (r_same _ _ _ _ h), fun h => by rw [h]; exact r_same2 _ _ _⟩, ⟨fun h => cancel _ _ _ hz (r_same _ _ _ _ h), fun h => by rw [h]; exact r_same2 _ _ _⟩⟩
section
variable {F : Type} [Lean.Grind.CommRing F]
theorem assoc_x (d x1 y1 x2 y2 x3 y3 : F) (h1 : y1 * y1 = 1 + x1 * x1 + d * x1 * x1 * y1 * y1) (h2 : y2 * y2 = 1 + x2 * x2 + d * x2 * x2 * y2 * y2) (h3 : y3 * y3 = 1 + x3 * x3 + d * x3 * x3 * y3 * y3) :
  ((x1 * y2 + x2 * y1) * (1 - d * x1 * x2 * y1 * y2) * y3 + x3 * (y1 * y2 + x1 * x2) * (1 + d * x1 * x2 * y1 * y2)) * ((1 + d * x2 * x3 * y2 * y3) * (1 - d * x2 * x3 * y2 * y3) + d * x1 * y1 * (x2 * y3 + x3 * y2) * (y2 * y3 + x2 * x3))
  = (x1 * (y2 * y3 + x2 * x3) * (1 + d * x2 * x3 * y2 * y3) + (x2 * y3 + x3 * y2) * (1 - d * x2 * x3 * y2 * y3) * y1) * ((1 + d * x1 * x2 * y1 * y2) * (1 - d * x1 * x2 * y1 * y2) + d * x3 * y3 * (x1 * y2 + x2 * y1) * (y1 * y2 + x1 * x2)) := by
 grind (ringSteps := 1000000)
theorem assoc_y (d x1 y1 x2 y2 x3 y3 : F) (h1 : y1 * y1 = 1 + x1 * x1 + d * x1 * x1 * y1 * y1) (h2 : y2 * y2 = 1 + x2 * x2 + d * x2 * x2 * y2 * y2) (h3 : y3 * y3 = 1 + x3 * x3 + d * x3 * x3 * y3 * y3) :
  ((y1 * y2 + x1 * x2) * (1 + d * x1 * x2 * y1 * y2) * y3 + (x1 * y2 + x2 * y1) * (1 - d * x1 * x2 * y1 * y2) * x3) * ((1 + d * x2 * x3 * y2 * y3) * (1 - d * x2 * x3 * y2 * y3) - d * x1 * y1 * (x2 * y3 + x3 * y2) * (y2 * y3 + x2 * x3))
  = (y1 * (y2 * y3 + x2 * x3) * (1 + d * x2 * x3 * y2 * y3) + x1 * (x2 * y3 + x3 * y2) * (1 - d * x2 * x3 * y2 * y3)) * ((1 + d * x1 * x2 * y1 * y2) * (1 - d * x1 * x2 * y1 * y2) - d * x3 * y3 * (x1 * y2 + x2 * y1) * (y1 * y2 + x1 * x2)) := by
 grind (ringSteps := 1000000)
theorem r_on (d x y : F) (h : y * y - x * x = 1 + d * x * x * y * y) : y * y = 1 + x * x + d * x * x * y * y := by grind
theorem l_den (d x y U V A B u v : F) (h1 : A * u = 1) (h2 : B * v = 1) : 1 + d * (U * u) * x * (V * v) * y = (A * B + d * x * y * U * V) * (u * v) := by grind
theorem l_den2 (d x y U V A B u v : F) (h1 : A * u = 1) (h2 : B * v = 1) : 1 - d * (U * u) * x * (V * v) * y = (A * B - d * x * y * U * V) * (u * v) := by grind
theorem l_denr (d x y U V A B u v : F) (h1 : A * u = 1) (h2 : B * v = 1) : 1 + d * x * (U * u) * y * (V * v) = (A * B + d * x * y * U * V) * (u * v) := by grind
theorem l_denr2 (d x y U V A B u v : F) (h1 : A * u = 1) (h2 : B * v = 1) : 1 - d * x * (U * u) * y * (V * v) = (A * B - d * x * y * U * V) * (u * v) := by grind
theorem l_x (x y U V A B u v P g : F) (h1 : A * u = 1) (h2 : B * v = 1) (h : P * (u * v) * g = 1) : (U * u * y + x * (V * v)) * g * P = U * B * y + x * V * A := by
 have e : P * g = A * B := by grind
 have e2 : (U * u * y + x * (V * v)) * g * P = (U * u * y + x * (V * v)) * (P * g) := by grind
 rw [e2, e]; grind
theorem l_y (x y U V A B u v P g : F) (h1 : A * u = 1) (h2 : B * v = 1) (h : P * (u * v) * g = 1) : (V * v * y + U * u * x) * g * P = V * A * y + U * B * x := by
 have e : P * g = A * B := by grind
 have e2 : (V * v * y + U * u * x) * g * P = (V * v * y + U * u * x) * (P * g) := by grind
 rw [e2, e]; grind
theorem l_xr (x y U V A B u v P g : F) (h1 : A * u = 1) (h2 : B * v = 1) (h : P * (u * v) * g = 1) : (x * (V * v) + U * u * y) * g * P = x * V * A + U * B * y := by
 have e : P * g = A * B := by grind
 have e2 : (x * (V * v) + U * u * y) * g * P = (x * (V * v) + U * u * y) * (P * g) := by grind
 rw [e2, e]; grind
theorem l_yr (x y U V A B u v P g : F) (h1 : A * u = 1) (h2 : B * v = 1) (h : P * (u * v) * g = 1) : (y * (V * v) + x * (U * u)) * g * P = y * V * A + x * U * B := by
 have e : P * g = A * B := by grind
 have e2 : (y * (V * v) + x * (U * u)) * g * P = (y * (V * v) + x * (U * u)) * (P * g) := by grind
 rw [e2, e]; grind
theorem l_end (a b P Q m n : F) (h1 : a * P = m) (h2 : b * Q = n) (h : m * Q = n * P) : a * (P * Q) = b * (P * Q) := by
 have e1 : a * (P * Q) = m * Q := by rw [← h1]; grind
 have e2 : b * (P * Q) = n * P := by rw [← h2]; grind
 rw [e1, e2, h]
theorem c_num (x1 y1 x2 y2 : F) : x1 * y2 + x2 * y1 = x2 * y1 + x1 * y2 ∧ y1 * y2 + x1 * x2 = y2 * y1 + x2 * x1 := by constructor <;> grind
theorem c_den (d x1 y1 x2 y2 : F) : d * x1 * x2 * y1 * y2 = d * x2 * x1 * y2 * y1 := by grind
theorem n_x (d x y u : F) (h : (1 + d * 0 * x * 1 * y) * u = 1) : (0 * y + x * 1) * u = x := by grind
theorem n_y (d x y u : F) (h : (1 - d * 0 * x * 1 * y) * u = 1) : (1 * y + 0 * x) * u = y := by grind
end
theorem left_ne {P w : F5} (h : P * w ≠ 0) : P ≠ 0 := fun e => h (by rw [e]; exact Fin.ext (by rw [val_mul, zero_val, Nat.zero_mul]; rfl))
theorem sum_comm (x1 y1 x2 y2 : F5) : sX x1 y1 x2 y2 = sX x2 y2 x1 y1 ∧ sY x1 y1 x2 y2 = sY x2 y2 x1 y1 := by
 unfold sX sY
 rw [(c_num x1 y1 x2 y2).1, (c_num x1 y1 x2 y2).2, c_den d5 x1 y1 x2 y2]
 exact ⟨rfl, rfl⟩
theorem sum_none (x y : F5) (h : On x y) : sX 0 1 x y = x ∧ sY 0 1 x y = y :=
 ⟨n_x d5 x y _ (mul_inv _ (full_add 0 1 x y On.none h)), n_y d5 x y _ (mul_inv _ (full_sub 0 1 x y On.none h))⟩
theorem sum_assoc (x1 y1 x2 y2 x3 y3 : F5) (h1 : On x1 y1) (h2 : On x2 y2) (h3 : On x3 y3) :
  sX (sX x1 y1 x2 y2) (sY x1 y1 x2 y2) x3 y3 = sX x1 y1 (sX x2 y2 x3 y3) (sY x2 y2 x3 y3) ∧ sY (sX x1 y1 x2 y2) (sY x1 y1 x2 y2) x3 y3 = sY x1 y1 (sX x2 y2 x3 y3) (sY x2 y2 x3 y3) := by
 have h12 := h1.sum h2
 have h23 := h2.sum h3
 have a1 := full_add _ _ x3 y3 h12 h3
 have a2 := full_sub _ _ x3 y3 h12 h3
 have b1 := full_add x1 y1 _ _ h1 h23
 have b2 := full_sub x1 y1 _ _ h1 h23
 have iA := mul_inv _ (full_add x1 y1 x2 y2 h1 h2)
 have iB := mul_inv _ (full_sub x1 y1 x2 y2 h1 h2)
 have iC := mul_inv _ (full_add x2 y2 x3 y3 h2 h3)
 have iD := mul_inv _ (full_sub x2 y2 x3 y3 h2 h3)
 have ia1 := mul_inv _ a1
 have ia2 := mul_inv _ a2
 have ib1 := mul_inv _ b1
 have ib2 := mul_inv _ b2
 have X := assoc_x d5 x1 y1 x2 y2 x3 y3 (r_on _ _ _ h1) (r_on _ _ _ h2) (r_on _ _ _ h3)
 have Y := assoc_y d5 x1 y1 x2 y2 x3 y3 (r_on _ _ _ h1) (r_on _ _ _ h2) (r_on _ _ _ h3)
 clear h12 h23 h1 h2 h3
 unfold sX sY at *
 generalize inv (1 + d5 * x1 * x2 * y1 * y2) = u at *
 generalize inv (1 - d5 * x1 * x2 * y1 * y2) = v at *
 generalize inv (1 + d5 * x2 * x3 * y2 * y3) = s at *
 generalize inv (1 - d5 * x2 * x3 * y2 * y3) = t at *
 generalize 1 + d5 * x1 * x2 * y1 * y2 = A at *
 generalize 1 - d5 * x1 * x2 * y1 * y2 = B at *
 generalize 1 + d5 * x2 * x3 * y2 * y3 = C at *
 generalize 1 - d5 * x2 * x3 * y2 * y3 = D at *
 generalize x1 * y2 + x2 * y1 = U at *
 generalize y1 * y2 + x1 * x2 = V at *
 generalize x2 * y3 + x3 * y2 = M at *
 generalize y2 * y3 + x2 * x3 = N at *
 rw [l_den d5 x3 y3 U V A B u v iA iB] at a1 ia1
 rw [l_den2 d5 x3 y3 U V A B u v iA iB] at a2 ia2
 rw [l_denr d5 x1 y1 M N C D s t iC iD] at b1 ib1
 rw [l_denr2 d5 x1 y1 M N C D s t iC iD] at b2 ib2
 rw [l_den d5 x3 y3 U V A B u v iA iB, l_den2 d5 x3 y3 U V A B u v iA iB, l_denr d5 x1 y1 M N C D s t iC iD, l_denr2 d5 x1 y1 M N C D s t iC iD]
 constructor
 ·exact cancel _ _ _ (ne_mul (left_ne a1) (left_ne b1)) (l_end _ _ _ _ _ _ (l_x x3 y3 U V A B u v _ _ iA iB ia1) (l_xr x1 y1 M N C D s t _ _ iC iD ib1) X)
 exact cancel _ _ _ (ne_mul (left_ne a2) (left_ne b2)) (l_end _ _ _ _ _ _ (l_y x3 y3 U V A B u v _ _ iA iB ia2) (l_yr x1 y1 M N C D s t _ _ iC iD ib2) Y)
structure Pt where
 x : F5
 y : F5
 on : On x y
theorem Pt.same {p q : Pt} (h1 : p.x = q.x) (h2 : p.y = q.y) : p = q := by
 cases p; cases q; cases h1; cases h2; rfl
def Pt.none : Pt := ⟨0, 1, On.none⟩
def Pt.sum (p q : Pt) : Pt := ⟨sX p.x p.y q.x q.y, sY p.x p.y q.x q.y, p.on.sum q.on⟩
theorem Pt.comm (p q : Pt) : p.sum q = q.sum p := Pt.same (sum_comm _ _ _ _).1 (sum_comm _ _ _ _).2
theorem Pt.assoc (p q r : Pt) : (p.sum q).sum r = p.sum (q.sum r) := Pt.same (sum_assoc _ _ _ _ _ _ p.on q.on r.on).1 (sum_assoc _ _ _ _ _ _ p.on q.on r.on).2
theorem Pt.none_sum (p : Pt) : Pt.none.sum p = p := Pt.same (sum_none _ _ p.on).1 (sum_none _ _ p.on).2
theorem Pt.sum_none (p : Pt) : p.sum Pt.none = p := by rw [Pt.comm, Pt.none_sum]
def Pt.mul (p : Pt) : Nat → Pt
 | 0 => Pt.none
 | n + 1 => (p.mul n).sum p
theorem Pt.mul_add (p : Pt) (m : Nat) : ∀ n, p.mul (m + n) = (p.mul m).sum (p.mul n)
 | 0 => (Pt.sum_none _).symm
 | n + 1 => by
  show (p.mul (m + n)).sum p = (p.mul m).sum ((p.mul n).sum p)
  rw [Pt.mul_add p m n, Pt.assoc]
theorem Pt.mul_two (p : Pt) (n : Nat) : p.mul (2 * n) = (p.mul n).sum (p.mul n) := by rw [Nat.two_mul, Pt.mul_add]
structure Sp where
 x : F5
 y : F5
 z : F5
 t : F5
def Sp.has (s : Sp) (p : Pt) : Prop := Ex s.x s.y s.z s.t p.x p.y
def spMix (a b c z : F5) : Sp := ⟨(b - a) * (z - c), (z + c) * (b + a), (z - c) * (z + c), (b - a) * (b + a)⟩
def Sp.add (p q : Sp) : Sp := spMix ((p.y - p.x) * (q.y - q.x)) ((p.y + p.x) * (q.y + q.x)) (p.t * (d5 + d5) * q.t) (p.z * q.z + p.z * q.z)
theorem Sp.add_has {s t : Sp} {p q : Pt} (h1 : s.has p) (h2 : t.has q) : (s.add t).has (p.sum q) := Ex.add h1 h2 p.on q.on
section
variable {F : Type} [Lean.Grind.CommRing F]
theorem q_none : (0 : F) = 0 * 1 ∧ (1 : F) = 1 * 1 ∧ (0 : F) = 0 * 1 * 1 := by refine ⟨?_, ?_, ?_⟩ <;> grind
theorem q_one (x y : F) : x = x * 1 ∧ y = y * 1 ∧ x * y = x * y * 1 := by refine ⟨?_, ?_, ?_⟩ <;> grind
end
def Sp.none : Sp := ⟨0, 1, 1, 0⟩
theorem Sp.none_has : Sp.none.has Pt.none := ⟨one_ne, q_none.1, q_none.2.1, q_none.2.2⟩
def Pt.spread (p : Pt) : Sp := ⟨p.x, p.y, 1, p.x * p.y⟩
theorem Pt.spread_has (p : Pt) : p.spread.has p := ⟨one_ne, (q_one p.x p.y).1, (q_one p.x p.y).2.1, (q_one p.x p.y).2.2⟩
def Sp.next (one : Sp) (b : Bool) (s : Sp) : Sp := if b = true then s.add one else s
def Sp.times (one : Sp) (n : Nat) : Nat → Sp
 | 0 => Sp.none
 | k + 1 => Sp.next one (n.testBit (255 - k)) (Sp.add (Sp.times one n k) (Sp.times one n k))
theorem half (n k : Nat) (hk : k < 256) : n / 2 ^ (255 - k) = 2 * (n / 2 ^ (256 - k)) + if n.testBit (255 - k) = true then 1 else 0 := by
 have e1 : n / 2 ^ (255 - k) / 2 = n / 2 ^ (256 - k) := by rw [Nat.div_div_eq_div_mul, ← Nat.pow_succ]; congr 2; omega
 rw [← e1, Nat.testBit_eq_decide_div_mod_eq]
 generalize n / 2 ^ (255 - k) = m
 by_cases hb : m % 2 = 1
 ·rw [if_pos (by simpa using hb)]; omega
 rw [if_neg (by simpa using hb)]; omega
theorem Sp.times_has {one : Sp} {p : Pt} (h : one.has p) (n : Nat) (hn : n < 2 ^ 256) : ∀ k, k ≤ 256 → (Sp.times one n k).has (p.mul (n / 2 ^ (256 - k)))
 | 0, _ => by
  rw [Nat.div_eq_of_lt hn]; exact Sp.none_has
 | k + 1, hk => by
  have ih := Sp.times_has h n hn k (by omega)
  have h2 := Sp.add_has ih ih
  rw [← Pt.mul_two] at h2
  rw [show 256 - (k + 1) = 255 - k by omega, half n k (by omega)]
  show (Sp.next one (n.testBit (255 - k)) _).has _
  unfold Sp.next
  by_cases hb : n.testBit (255 - k) = true
  ·rw [if_pos hb, if_pos hb]; exact Sp.add_has h2 h
  rw [if_neg hb, if_neg hb]; exact h2
theorem Sp.times_all {one : Sp} {p : Pt} (h : one.has p) (n : Nat) (hn : n < 2 ^ 256) : (Sp.times one n 256).has (p.mul n) := by
 have := Sp.times_has h n hn 256 (Nat.le_refl _)
 rwa [Nat.sub_self, Nat.pow_zero, Nat.div_one] at this
structure Tp where
 x : F5
 y : F5
 z : F5
def Tp.has (s : Tp) (p : Pt) : Prop := Pj s.x s.y s.z p.x p.y
def tpMix (a b c e f m : F5) : Tp := ⟨a * (b - f) * (m - c - e), a * (b + f) * (e + c), (b - f) * (b + f)⟩
def Tp.add (p q : Tp) : Tp := tpMix (p.z * q.z) (p.z * q.z * (p.z * q.z)) (p.x * q.x) (p.y * q.y) (d5 * (p.x * q.x * (p.y * q.y))) ((p.x + p.y) * (q.x + q.y))
theorem Tp.add_has {s t : Tp} {p q : Pt} (h1 : s.has p) (h2 : t.has q) : (s.add t).has (p.sum q) := Pj.add h1 h2 p.on q.on
def Tp.none : Tp := ⟨0, 1, 1⟩
theorem Tp.none_has : Tp.none.has Pt.none := ⟨one_ne, q_none.1, q_none.2.1⟩
def Tp.next (one : Tp) (b : Bool) (s : Tp) : Tp := if b = true then s.add one else s
def Tp.times (one : Tp) (n : Nat) : Nat → Tp
 | 0 => Tp.none
 | k + 1 => Tp.next one (n.testBit (255 - k)) (Tp.add (Tp.times one n k) (Tp.times one n k))
theorem Tp.times_has {one : Tp} {p : Pt} (h : one.has p) (n : Nat) (hn : n < 2 ^ 256) : ∀ k, k ≤ 256 → (Tp.times one n k).has (p.mul (n / 2 ^ (256 - k)))
 | 0, _ => by
  rw [Nat.div_eq_of_lt hn]; exact Tp.none_has
 | k + 1, hk => by
  have ih := Tp.times_has h n hn k (by omega)
  have h2 := Tp.add_has ih ih
  rw [← Pt.mul_two] at h2
  rw [show 256 - (k + 1) = 255 - k by omega, half n k (by omega)]
  show (Tp.next one (n.testBit (255 - k)) _).has _
  unfold Tp.next
  by_cases hb : n.testBit (255 - k) = true
  ·rw [if_pos hb, if_pos hb]; exact Tp.add_has h2 h
  rw [if_neg hb, if_neg hb]; exact h2
theorem Tp.times_all {one : Tp} {p : Pt} (h : one.has p) (n : Nat) (hn : n < 2 ^ 256) : (Tp.times one n 256).has (p.mul n) := by
 have := Tp.times_has h n hn 256 (Nat.le_refl _)
 rwa [Nat.sub_self, Nat.pow_zero, Nat.div_one] at this
def bxN : Nat := 15112221349535400772501151409588531511454012693041857206046113283949847762202
def byN : Nat := 46316835694926478169428394003475163141307993866256225615783033603165251855960
theorem base_on : On (el bxN) (el byN) := by
 refine Fin.ext ?_
 decide +kernel
def Pt.base : Pt := ⟨el bxN, el byN, base_on⟩
def nEnd (e f g h : Nat) : Nat × Nat × Nat × Nat := (e * f % P5, g * h % P5, f * g % P5, e * h % P5)
def nMix (a b c z : Nat) : Nat × Nat × Nat × Nat := nEnd ((b + (P5 - a)) % P5) ((z + (P5 - c)) % P5) ((z + c) % P5) ((b + a) % P5)
def nAdd (p q : Nat × Nat × Nat × Nat) : Nat × Nat × Nat × Nat :=
 nMix ((p.2.1 + (P5 - p.1)) % P5 * ((q.2.1 + (P5 - q.1)) % P5) % P5) ((p.2.1 + p.1) % P5 * ((q.2.1 + q.1) % P5) % P5) (p.2.2.2 * ((dN + dN) % P5) % P5 * q.2.2.2 % P5) ((p.2.2.1 * q.2.2.1 % P5 + p.2.2.1 * q.2.2.1 % P5) % P5)
def Sp.nat (s : Sp) : Nat × Nat × Nat × Nat := (s.x.val, s.y.val, s.z.val, s.t.val)
theorem d5_val : d5.val = dN := el_val dN (by decide)
theorem nAdd_ok (s t : Sp) : (s.add t).nat = nAdd s.nat t.nat := by
 have e : (d5 + d5).val = (dN + dN) % P5 := by rw [val_add, d5_val]
 unfold Sp.nat Sp.add spMix nAdd nMix nEnd
 simp only [val_add, val_mul, val_sub, e, d5_val]
theorem P5_odd : P5 % 2 = 1 := by decide
theorem same_parity (r s : Nat) (hr : r < P5) (hs : s < P5) (h : r * r % P5 = s * s % P5) (hp : r % 2 = s % 2) : r = s := by
 rcases sq_two r s hr hs h with h1 | h1
 ·exact h1
 rcases Nat.eq_zero_or_pos s with h2 | h2
 ·rw [h2, Nat.sub_zero, Nat.mod_self] at h1; omega
 rw [Nat.mod_eq_of_lt (by omega)] at h1
 have := P5_odd
 omega
theorem sq_zero (r : Nat) (hr : r < P5) (h : r * r % P5 = 0) : r = 0 := by
 rcases sq_two r 0 hr P5_pos (by rw [h]; decide) with h1 | h1
 ·exact h1
 rw [Nat.sub_zero, Nat.mod_self] at h1; exact h1
def iD : Nat := pwr 2 QF 256
def droot (a : Nat) : Nat := if root1 a * root1 a % P5 = a then root1 a else root1 a * iD % P5
theorem droot_lt (a : Nat) : droot a < P5 := by
 unfold droot
 split
 ·exact pwr_lt _ _ _
 exact Nat.mod_lt _ P5_pos
theorem droot_sq (a : Nat) : droot a * droot a % P5 = root2 a * root2 a % P5 := by
 unfold droot root2
 split
 ·rfl
 have hs : iD * iD % P5 = SqM * SqM % P5 := by decide +kernel
 generalize root1 a = r at *
 generalize SqM = s at *
 generalize iD = t at *
 rw [← Nat.mul_mod, ← Nat.mul_mod, show r * t * (r * t) = (r * r) * (t * t) by ac_rfl, show r * s * (r * s) = (r * r) * (s * s) by ac_rfl, Nat.mul_mod, hs, ← Nat.mul_mod]
def turnD (x : Nat) (odd : Bool) : Nat := if decide (x % 2 = 1) = odd then x else (P5 - x) % P5
def turnP (x : Nat) (odd : Bool) : Nat := if odd = true then (P5 - x) % P5 else x
theorem turnP_false (x : Nat) : turnP x false = x := if_neg (by decide)
theorem turnP_true (x : Nat) : turnP x true = (P5 - x) % P5 := if_pos rfl
theorem turnD_odd (x : Nat) (h : x % 2 = 1) : turnD x true = x ∧ turnD x false = (P5 - x) % P5 := ⟨if_pos (decide_eq_true h), if_neg (by rw [decide_eq_true h]; decide)⟩
theorem turnD_even (x : Nat) (h : ¬ x % 2 = 1) : turnD x true = (P5 - x) % P5 ∧ turnD x false = x := ⟨if_neg (by rw [decide_eq_false h]; decide), if_pos (decide_eq_false h)⟩
theorem neg_sq (x : Nat) (hx : x < P5) : (P5 - x) % P5 * ((P5 - x) % P5) % P5 = x * x % P5 := by
 have h := evenR_ok x hx
 have h1 := neg_mul P5 x ((P5 - x) % P5) P5_pos (by omega)
 have h2 := neg_mul P5 x x P5_pos (by omega)
 rw [h1, Nat.mul_comm x, h2]
 generalize x * x = t
 have ht := Nat.mod_lt t P5_pos
 have hP := P5_pos
 generalize t % P5 = v at *
 rcases Nat.eq_zero_or_pos v with rfl | hv
 ·decide +kernel
 have e1 : (P5 - v) % P5 = P5 - v := Nat.mod_eq_of_lt (by omega)
 rw [e1, show P5 - (P5 - v) = v by omega, Nat.mod_eq_of_lt ht]
theorem turn_same (a : Nat) (ha : a < P5) (odd : Bool) (hok : root2 a * root2 a % P5 = a) (h0 : ¬ (odd = true ∧ a = 0)) : turnD (droot a) odd = turnP (evenR (root2 a)) odd := by
 obtain ⟨e1, e2, e3⟩ := evenR_ok (root2 a) (root2_lt a)
 have d1 := droot_lt a
 have d2 := droot_sq a
 rw [hok] at e3 d2
 generalize evenR (root2 a) = e at *
 generalize droot a = x at *
 have hp := P5_odd
 have hx0 : x = 0 → a = 0 := fun h => by rw [h] at d2; rw [← d2]; decide
 have he0 : e = 0 → a = 0 := fun h => by rw [h] at e3; rw [← e3]; decide
 have ln := Nat.mod_lt (P5 - x) P5_pos
 have lm := Nat.mod_lt (P5 - e) P5_pos
 have sx := neg_sq x d1
 have se := neg_sq e e1
 have hx2 : x % 2 = 1 → x ≠ 0 := fun h e => by rw [e] at h; omega
 have ex : x ≠ 0 → (P5 - x) % P5 = P5 - x := fun h => Nat.mod_eq_of_lt (by omega)
 have ee : e ≠ 0 → (P5 - e) % P5 = P5 - e := fun h => Nat.mod_eq_of_lt (by omega)
 cases odd with
 | false =>
  rw [turnP_false]
  by_cases hb : x % 2 = 1
  ·rw [(turnD_odd x hb).2]
   refine same_parity _ _ ln e1 (by rw [sx, d2, e3]) ?_
   have := ex (hx2 hb)
   omega
  rw [(turnD_even x hb).2]
  exact same_parity _ _ d1 e1 (by rw [d2, e3]) (by omega)
 | true =>
  have ha0 : a ≠ 0 := fun h => h0 ⟨rfl, h⟩
  have hxn : x ≠ 0 := fun h => ha0 (hx0 h)
  have hen : e ≠ 0 := fun h => ha0 (he0 h)
  rw [turnP_true]
  by_cases hb : x % 2 = 1
  ·rw [(turnD_odd x hb).1]
   refine same_parity _ _ d1 lm (by rw [se, d2, e3]) ?_
   have := ee hen
   omega
  rw [(turnD_even x hb).1]
  refine same_parity _ _ ln lm (by rw [sx, se, d2, e3]) ?_
  have := ee hen
  have := ex hxn
  omega
section
variable {F : Type} [Lean.Grind.CommRing F]
theorem x_on (d x y u a : F) (h1 : (d * (y * y) + 1) * u = 1) (h2 : a = (y * y - 1) * u) (h3 : x * x = a) : y * y - x * x = 1 + d * x * x * y * y := by grind
theorem m1_sq (i d y : F) (hi : i * i = -1) (h : d * (y * y) + 1 = 0) : i * i = d * (y * y) := by grind
end
theorem below_ne (y : F5) : d5 * (y * y) + 1 ≠ 0 := by
 intro h
 have hy : y ≠ 0 := fun e => one_ne (by
  have h2 : d5 * (y * y) + 1 = 1 := by
   rw [e]
   exact Fin.ext (by rw [val_add, val_mul, val_mul, zero_val, one_val]; decide)
  rw [← h2]; exact h)
 exact no_square i5 y hy (m1_sq i5 d5 y i5_sq h)
def uF (y : F5) : F5 := (y * y - 1) * inv (d5 * (y * y) + 1)
theorem On.of_root (y x : F5) (h : x * x = uF y) : On x y := x_on d5 x y _ _ (mul_inv _ (below_ne y)) rfl h
def aF (y : Nat) : Nat := (uF (el y)).val
theorem aF_lt (y : Nat) : aF y < P5 := (uF (el y)).isLt
theorem turn_ok (a : Nat) (ha : a < P5) (odd : Bool) (hok : root2 a * root2 a % P5 = a) (h0 : ¬ (odd = true ∧ a = 0)) :
  turnP (evenR (root2 a)) odd < P5 ∧ turnP (evenR (root2 a)) odd * turnP (evenR (root2 a)) odd % P5 = a ∧ (turnP (evenR (root2 a)) odd % 2 = 1 ↔ odd = true) := by
 obtain ⟨l1, e1, s1⟩ := evenR_ok (root2 a) (root2_lt a)
 rw [hok] at s1
 have hp := P5_odd
 generalize evenR (root2 a) = r at *
 cases odd with
 | false => rw [turnP_false]; exact ⟨l1, s1, by constructor <;> intro h; omega; cases h⟩
 | true =>
  rw [turnP_true]
  have hr : r ≠ 0 := fun e => h0 ⟨rfl, by rw [← s1, e]; rfl⟩
  have e2 : (P5 - r) % P5 = P5 - r := Nat.mod_eq_of_lt (by omega)
  refine ⟨Nat.mod_lt _ P5_pos, by rw [neg_sq r l1, s1], ?_⟩
  rw [e2]
  exact ⟨fun _ => rfl, fun _ => by omega⟩
def oddB (l : List UInt8) : Bool := decide (2 ^ 255 ≤ leN l)
def yB (l : List UInt8) : Nat := leN l % 2 ^ 255
def isPt (l : List UInt8) : Bool := decide (yB l < P5) && (decide (root2 (aF (yB l)) * root2 (aF (yB l)) % P5 = aF (yB l)) && !(oddB l && decide (aF (yB l) = 0)))
def xB (l : List UInt8) : Nat := turnP (evenR (root2 (aF (yB l)))) (oddB l)
theorem isPt_iff (l : List UInt8) : isPt l = true ↔ yB l < P5 ∧ root2 (aF (yB l)) * root2 (aF (yB l)) % P5 = aF (yB l) ∧ ¬ (oddB l = true ∧ aF (yB l) = 0) := by
 unfold isPt
 rw [Bool.and_eq_true, Bool.and_eq_true, decide_eq_true_iff, decide_eq_true_iff]
 refine and_congr Iff.rfl (and_congr Iff.rfl ?_)
 cases oddB l <;> simp
theorem xB_ok (l : List UInt8) (h : isPt l = true) : xB l < P5 ∧ xB l * xB l % P5 = aF (yB l) ∧ (xB l % 2 = 1 ↔ oddB l = true) := by
 obtain ⟨h1, h2, h3⟩ := (isPt_iff l).1 h
 exact turn_ok _ (aF_lt _) _ h2 h3
theorem dec_on (l : List UInt8) (h : isPt l = true) : On (el (xB l)) (el (yB l)) := by
 obtain ⟨h1, h2, h3⟩ := xB_ok l h
 refine On.of_root _ _ (Fin.ext ?_)
 rw [val_mul, el_val _ h1, h2]; rfl
def decPt (l : List UInt8) : Option Pt := if h : isPt l = true then some ⟨el (xB l), el (yB l), dec_on l h⟩ else Option.none
theorem decPt_some (l : List UInt8) (h : isPt l = true) : decPt l = some ⟨el (xB l), el (yB l), dec_on l h⟩ := dif_pos h
theorem decPt_none (l : List UInt8) (h : ¬ isPt l = true) : decPt l = Option.none := dif_neg h
def encN (x y : Nat) : Nat := if x % 2 = 1 then y + 2 ^ 255 else y
def enc (p : Pt) : List UInt8 := bl (encN p.x.val p.y.val)
theorem P5_255 : P5 < 2 ^ 255 := by decide +kernel
theorem encN_lt (x y : Nat) (h : y < P5) : encN x y < 256 ^ 32 := by
 have h1 := P5_255
 have h2 : 256 ^ 32 = 2 * 2 ^ 255 := by decide +kernel
 unfold encN
 split <;> omega
section
variable {F : Type} [Lean.Grind.CommRing F]
theorem x_root (d x y u : F) (h1 : (d * (y * y) + 1) * u = 1) (h : y * y - x * x = 1 + d * x * x * y * y) : x * x = (y * y - 1) * u := by grind
end
theorem On.root {x y : F5} (h : On x y) : x * x = uF y := x_root d5 x y _ (mul_inv _ (below_ne y)) h
theorem dec_enc (p : Pt) : decPt (enc p) = some p := by
 have hx := p.x.isLt
 have hy := p.y.isLt
 have hP := P5_255
 have hn : leN (enc p) = encN p.x.val p.y.val := leN_bl _ (encN_lt _ _ hy)
 have e1 : yB (enc p) = p.y.val := by
  unfold yB; rw [hn]; unfold encN
  split
  ·rw [Nat.add_mod_right, Nat.mod_eq_of_lt (by omega)]
  rw [Nat.mod_eq_of_lt (by omega)]
 have e2 : oddB (enc p) = decide (p.x.val % 2 = 1) := by
  unfold oddB; rw [hn]; unfold encN
  by_cases hb : p.x.val % 2 = 1
  ·rw [if_pos hb, decide_eq_true hb]; exact decide_eq_true (by omega)
  rw [if_neg hb, decide_eq_false hb]; exact decide_eq_false (by omega)
 have ea : aF (yB (enc p)) = p.x.val * p.x.val % P5 := by
  rw [e1]; unfold aF; rw [val_el, ← On.root p.on]; rfl
 have hsq : root2 (aF (yB (enc p))) * root2 (aF (yB (enc p))) % P5 = aF (yB (enc p)) := by
  by_cases h0 : aF (yB (enc p)) = 0
  ·rw [h0]; exact root2_zero
  exact root2_of _ (aF_lt _) (sq_pow p.x.val _ ea.symm h0 hx)
 have h3 : ¬ (oddB (enc p) = true ∧ aF (yB (enc p)) = 0) := by
  rintro ⟨ho, h0⟩
  rw [ea] at h0
  have := sq_zero _ hx h0
  rw [e2, this] at ho
  cases ho
 have hp : isPt (enc p) = true := (isPt_iff _).2 ⟨by rw [e1]; exact hy, hsq, h3⟩
 rw [decPt_some _ hp]
 obtain ⟨l1, l2, l3⟩ := xB_ok _ hp
 have ex : xB (enc p) = p.x.val := same_parity _ _ l1 hx (by rw [l2, ea]) (by
  rw [e2] at l3
  by_cases hb : p.x.val % 2 = 1
  ·have := l3.2 (decide_eq_true hb); omega
  have h9 : ¬ xB (enc p) % 2 = 1 := fun h => hb (of_decide_eq_true (l3.1 h))
  omega)
 refine congrArg some (Pt.same ?_ ?_)
 ·show el (xB (enc p)) = p.x
  rw [ex, val_el]
 show el (yB (enc p)) = p.y
 rw [e1, val_el]
instance : DecidableEq Pt := fun p q => if h : p.x = q.x ∧ p.y = q.y then isTrue (Pt.same h.1 h.2) else isFalse (fun e => h ⟨by rw [e], by rw [e]⟩)
def holds (a r : Pt) (s k : Nat) : Bool := decide (Pt.base.mul s = r.sum (a.mul k))
def verify (key r sb : List UInt8) (k : Nat) : Bool :=
 match decPt key, decPt r with
 | some a, some p => decide (leN sb < O6) && holds a p (leN sb) k
 | _, _ => false
end Ed
end Go.Proofs.YtjdebgbiockafaaGreatDoor
