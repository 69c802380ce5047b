/- The law SettingsActs: one act. -/
import Derived.Test.YtjmgnfpcieofkaaGRSet
import Derived.Test.YtjmgnfpcieofkaaGTorn
import Derived.Test.YtjmgnfpcieofkaaGBase2
namespace Go.Proofs.Ytjmgnfpcieofkaa
open Go.ChangeShapes Go.WideShapes Go.ChangeAt Go.RowKit
set_option linter.unusedVariables false
set_option linter.unusedSimpArgs false

theorem FlS.write_wornlenA (s : FlS) (to : Nat) (b : List UInt8) : (s.write to b).1.worn.length = s.worn.length := by
  unfold FlS.write
  split
  · rw [FlS.prog_worn]
  · split
    · rw [FlS.era_wornlen, FlS.prog_worn]
    · rw [FlS.prog_worn, FlS.era_wornlen, FlS.prog_worn]
theorem FlS.save_wornlenA (s : FlS) (r : RecS) : (s.save r).1.worn.length = s.worn.length := by
  unfold FlS.save
  split
  · rfl
  · split
    · rfl
    · split
      · rfl
      · split
        · exact FlS.write_wornlenA _ _ _
        · exact FlS.write_wornlenA _ _ _
theorem um200 (t : Int) : ∃ k : Nat, k < 200 ∧ (IntKind.u64.wrap t).tmod 200 = (k : Int) := by
  have h0 : 0 ≤ IntKind.u64.wrap t := by rw [IntKind.wrap_u64]; omega
  refine ⟨((IntKind.u64.wrap t) % 200).toNat, by omega, ?_⟩
  rw [Int.tmod_eq_emod_of_nonneg h0]
  omega
abbrev tearC (t : Nat) : Array Value := #[.int .u8 ((t : Int) % 256), .int .u8 ((t : Int) / 256 % 256), .int .u8 ((t : Int) / 65536 % 256), .int .u8 ((t : Int) / 16777216)]
theorem tear_blk {w : World} {g : Nat} {F : SP} (t : Nat) (ht : t < 4294967296) (h : (blk g (.cells (tearC t) 5 (0, 0)) * F).on w) : IsBytes w (.slice (some ⟨g, 0, Option.none⟩) 4 4) (wordB t) := by
  have e0 : (((b4 t 0).toNat : Nat) : Int) = (t : Int) % 256 := by rw [b4_toNat]; show ((t / 1 % 256 : Nat) : Int) = _; omega
  have e1 : (((b4 t 1).toNat : Nat) : Int) = (t : Int) / 256 % 256 := by rw [b4_toNat]; show ((t / 256 % 256 : Nat) : Int) = _; omega
  have e2 : (((b4 t 2).toNat : Nat) : Int) = (t : Int) / 65536 % 256 := by rw [b4_toNat]; show ((t / 65536 % 256 : Nat) : Int) = _; omega
  have e3 : (((b4 t 3).toNat : Nat) : Int) = (t : Int) / 16777216 := by rw [b4_toNat]; show ((t / 16777216 % 256 : Nat) : Int) = _; omega
  have hv : vbs (wordB t) = (tearC t).toList := by
    show [Value.int .u8 (((b4 t 0).toNat : Nat) : Int), Value.int .u8 (((b4 t 1).toNat : Nat) : Int), Value.int .u8 (((b4 t 2).toNat : Nat) : Int), Value.int .u8 (((b4 t 3).toNat : Nat) : Int)] = _
    rw [e0, e1, e2, e3]
  refine ⟨_, _, rfl, Nat.le_refl _, by decide, fun i v hi => ⟨_, _, rfl, ?_⟩, fun h => (nomatch h)⟩
  rw [Nat.zero_add, cell_of_row _ _ _ _ _ _ (on_blk_mul h)]
  rw [hv] at hi
  simpa using hi
theorem act_part (y : ActS) (W : World) (g : Nat) (t : TypeId) (hX : W.heap[g]? = some (.cells (actC y) t (0, 0))) : ∀ j v, (recCells y.r y.iv)[j]? = some v → W.cell? ⟨g, 3 + j, Option.none⟩ = some v := by
  intro j v hv
  rw [cell_of_row _ _ _ _ _ _ hX]
  unfold recCells at hv
  unfold actC
  match j, hv with
  | 0, hv => exact hv
  | 1, hv => exact hv
  | 2, hv => exact hv
  | 3, hv => exact hv
  | 4, hv => exact hv
  | 5, hv => exact hv
  | 6, hv => exact hv
  | n + 7, hv => simp at hv
theorem era_anyZ (p : Nat) (s : FlS) (F : SP) (w : World) (h : (Flash p s * F).on w) (n : Nat) (fit : s.Fit n) (hn : n ≤ 1099511000000) (page : Nat) (hp : page ≤ 1000000) (z : Int) (hz : z = ((page : Nat) : Int)) :
    Calls Try.prog 47 #[fptr p, .int .i64 z] w fun e w' => e = .returned (.int .i64 ((s.era page).2 : Int)) ∧ (Flash p (s.era page).1 * F).on w' ∧ Str w w' := by
  subst hz
  exact era_any p s F w h n fit hn page hp
theorem prog_anyZ (p : Nat) (s : FlS) (F : SP) (w : World) (h : (Flash p s * F).on w) (n : Nat) (fit : s.Fit n) (hn : n ≤ 1099511000000) (a : Nat) (v : Value) (lb : List UInt8) (ha4 : a % 4 = 0) (hlb : lb.length % 4 = 0) (ha : a ≤ 1000000) (hl : lb.length ≤ 1000000) (hrd : ∀ w, F.on w → IsBytes w v lb) (z : Int) (hz : z = ((a : Nat) : Int)) :
    Calls Try.prog 49 #[fptr p, .int .i64 z, v] w fun e w' => e = .returned (.int .i64 ((s.prog a lb).2 : Int)) ∧ (Flash p (s.prog a lb).1 * F).on w' ∧ Str w w' := by
  subst hz
  exact prog_any p s F w h n fit hn a v lb ha4 hlb ha hl hrd
theorem sp_a2 (A Z B C : SP) : A * (Z * (B * C)) = B * (A * (Z * C)) := by ac_rfl
theorem sp_a3 (A B C D E F : SP) : A * (B * (C * (D * (E * F)))) = D * (A * (B * (C * (E * F)))) := by ac_rfl
theorem sp_a4 (R A B C E F : SP) : R * (A * (B * (C * (E * F)))) = (C * (R * F)) * (A * (B * E)) := by ac_rfl
theorem sp_a1 (A B C D E : SP) : A * (B * (C * (D * E))) = D * (A * (B * (C * E))) := by ac_rfl
/-- what lies there while both memories are armed, one behind the other -/
def FailI (p q : Nat) (s s1 : FlS) (G : SP) (w : World) (f4 f9 : Bool) (X : World) : Prop :=
  ((if f4 = true then Flash p s1 else Flash p s) * ((if f9 = true then RFlash q s1 else RFlash q s) * G)).on X ∧ Str w X
theorem FailI.stay {p q : Nat} {s s1 : FlS} {G : SP} {w : World} {f4 f9 : Bool} {X Y : World} (h : FailI p q s s1 G w f4 f9 X) (k : Stay X Y) : FailI p q s s1 G w f4 f9 Y := ⟨h.1.below k, h.2.trans (Str.below k)⟩
theorem FailI.one {p q : Nat} {s s1 : FlS} {G : SP} {w : World} {f9 : Bool} {X : World} (h : FailI p q s s1 G w false f9 X) :
    (Flash p s * ((if f9 = true then RFlash q s1 else RFlash q s) * G)).on X ∧ ∀ Y, (Flash p s1 * ((if f9 = true then RFlash q s1 else RFlash q s) * G)).on Y → Str X Y → FailI p q s s1 G w true f9 Y :=
  ⟨by have h1 := h.1; rw [if_neg (by decide)] at h1; exact h1, fun Y hY hs => ⟨by rw [if_pos rfl]; exact hY, h.2.trans hs⟩⟩
theorem FailI.two {p q : Nat} {s s1 : FlS} {G : SP} {w : World} {f4 : Bool} {X : World} (h : FailI p q s s1 G w f4 false X) :
    (RFlash q s * ((if f4 = true then Flash p s1 else Flash p s) * G)).on X ∧ ∀ Y, (RFlash q s1 * ((if f4 = true then Flash p s1 else Flash p s) * G)).on Y → Str X Y → FailI p q s s1 G w f4 true Y :=
  ⟨by have h1 := h.1; rw [if_neg (c := false = true) (by decide), SP.mul_left_comm] at h1; exact h1, fun Y hY hs => ⟨by rw [if_pos (c := true = true) rfl, SP.mul_left_comm]; exact hY, h.2.trans hs⟩⟩
/-- how an act ends -/
def ActEnd (p q : Nat) (s : FlS) (n : Nat) (F : SP) (w : World) (e : Ending) (w' : World) : Prop := e = .returned (.bool true) ∧ ∃ s' : FlS, s'.Fit (n + 400) ∧ s'.worn.length = s.worn.length ∧ (Flash p s' * (RFlash q s' * F)).on w' ∧ Str w w'

set_option maxRecDepth 100000 in
set_option maxHeartbeats 32000000 in
theorem step14_any (p q : Nat) (s : FlS) (F : SP) (n : Nat) (fit : s.Fit n) (hn : n ≤ 1099400000000) (y : ActS) (hn1 : -9223372036854775808 ≤ y.n) (hn2 : y.n ≤ 9223372036854775807) (ht : y.tear < 4294967296) (hok : y.r.Ok) (hrd : ∀ W, F.on W → IsBytes W y.iv y.r.init)
    (w : World) (h : (Flash p s * (RFlash q s * F)).on w) :
    Calls Try.prog 11 #[fptr p, fptr q, .agg (actC y)] w (ActEnd p q s n F w) := by
  have hur := Try.underlying35
  have hurr := Try.underlying60
  have hua := Try.underlying37
  have hui := Try.underlying3
  have huu := Try.underlying24
  have hz := rc_hz
  have hzr := rr_hz
  obtain ⟨kind, num, tear, r, iv⟩ := y
  simp only at hn1 hn2 ht hok hrd
  obtain ⟨ai, ci, rfl, _, _, _, _⟩ := hrd w h.right.right
  obtain ⟨k, hk, hq⟩ := um200 num
  have hkw : wrap64 (k : Int) = (k : Int) := IntWalk.wrap64_in _ (by omega)
  have h1 := h.alloc (.cells (actC ⟨kind, num, tear, r, .slice ai r.init.length ci⟩) 37)
  have gA := on_blk_mul h1
  have x0 : (w.alloc (.cells (actC ⟨kind, num, tear, r, .slice ai r.init.length ci⟩) 37)).cell? ⟨w.heap.size, 0, Option.none⟩ = some (vb kind) := cell_of_row _ _ 0 _ _ _ gA
  have x1 : (w.alloc (.cells (actC ⟨kind, num, tear, r, .slice ai r.init.length ci⟩) 37)).cell? ⟨w.heap.size, 1, Option.none⟩ = some (.int .i64 num) := cell_of_row _ _ 1 _ _ _ gA
  have x2 : (w.alloc (.cells (actC ⟨kind, num, tear, r, .slice ai r.init.length ci⟩) 37)).cell? ⟨w.heap.size, 2, Option.none⟩ = some (u32v tear) := cell_of_row _ _ 2 _ _ _ gA
  have HA := hide gA
  have hS1 := hide ((Str.refl w).alloc (.cells (actC ⟨kind, num, tear, r, .slice ai r.init.length ci⟩) 37))
  rw [SP.mul_left_comm, SP.mul_left_comm (blk _ _)] at h1
  have H1 := hide h1
  have Hfit := hide fit
  have Hrd := hide hrd
  have Hok := hide hok
  clear h h1 fit hrd hok gA
  have hk8 := UInt8.toNat_lt kind
  obtain ⟨kd, hkd, hk6⟩ : ∃ kd : Nat, kd < 6 ∧ ((kind.toNat : Nat) : Int).tmod 6 = (kd : Int) := ⟨kind.toNat % 6, Nat.mod_lt _ (by decide), by rw [Int.tmod_eq_emod_of_nonneg (by omega)]; omega⟩
  have hqq : wrap64 ((IntKind.u64.wrap num).tmod 200) = (k : Int) := by rw [hq, hkw]
  clear hq hkw
  go_enter Try.func11, Try.ntmps11
  rcases (show kd = 0 ∨ kd = 1 ∨ kd = 2 ∨ kd = 3 ∨ kd = 4 ∨ kd = 5 by omega) with rfl | rfl | rfl | rfl | rfl | rfl
  · rw [show ((0 : Nat) : Int) = 0 from rfl] at hk6
    have hS := hide (save_any p s _ n Hfit.out (by omega) r (.slice ai r.init.length ci) Hok.out (fun W hW => Hrd.out W hW.right.right) _ H1.out)
    have hpart := act_part ⟨kind, num, tear, r, .slice ai r.init.length ci⟩ _ w.heap.size _ HA.out
    have HsR := hide (rc_info r (.slice ai r.init.length ci))
    have Hf1 := hide ((Hfit.out.save r).mono (show n + 252 ≤ n + 400 by omega))
    have Hwl := hide (FlS.save_wornlenA s r)
    simp only at hpart
    go_wp2_with (first | (refine wpList_load_part rfl _ _ rfl w.heap.size 3 rfl (recCells r (.slice ai r.init.length ci)) _ hpart hur rfl HsR.out ?_))
    refine hS.out.mono ?_
    clear hS hpart x0 x1 x2
    rintro e W3 ⟨iva, rfl, ho, hs⟩
    have HoA := hide (rc_one (s := (s.save r).2.1) (iv := iva) (own_slice ho))
    have HsA0 := hide (rc_info (s.save r).2.1 iva)
    have h1 := ho.alloc (.cells (recCells zeroS nilV) 35)
    have gB := hide (on_blk_mul h1)
    have H4 := hide (h1.setRow (recCells (s.save r).2.1 iva))
    have S4 := hide (((hS1.out.trans hs).alloc (.cells (recCells zeroS nilV) 35)).setRow W3.heap.size (recCells (s.save r).2.1 iva))
    have hstop : ∀ p : Prop, Hid p → p := fun _ h => h.out
    clear ho hs h1 H1 hS1
    go_wp2_with (first | (refine wpList_store_row rfl _ _ _ rfl W3.heap.size (recCells (s.save r).2.1 iva) rfl rfl _ _ gB.out HsA0.out rfl HoA.out ?_; refine hstop _ ?_))
    refine hide ?_
    clear hstop gB
    generalize (W3.alloc (.cells (recCells zeroS nilV) 35)).setRow W3.heap.size (recCells (s.save r).2.1 iva) = W4 at *
    generalize W3.heap.size = g13 at *
    have hpart := act_part ⟨kind, num, tear, r, .slice ai r.init.length ci⟩ W4 w.heap.size _ (on_blk_mul H4.out.right.right.right.right)
    simp only at hpart
    have hO := hide (of14_any r ai r.init.length ci W4)
    go_wp2_with (first | (refine wpList_load_part rfl _ _ rfl w.heap.size 3 rfl (recCells r (.slice ai r.init.length ci)) _ hpart hur rfl HsR.out ?_))
    refine hO.out.mono ?_
    clear hO hpart
    rintro e W4b ⟨rfl, hbb⟩
    have H4b := H4.out.below hbb
    rw [sp_a3] at H4b
    have S4b := hide (S4.out.trans (Str.below hbb))
    have hS := hide (rsave_any q s _ n Hfit.out (by omega) r (.slice ai r.init.length ci) Hok.out (fun W hW => Hrd.out W hW.right.right.right.right) _ H4b)
    clear hbb H4 S4
    go_wp2_with fail
    refine hS.out.mono ?_
    clear hS H4b
    rintro e W5 ⟨ivb, rfl, hbi, ho, hs⟩
    have hbi2 := hbi
    obtain ⟨ba, bc, hbe, _, _, _, _⟩ := hbi2
    have HoB := hide (rr_one (s := (s.save r).2.1) (iv := ivb) ⟨_, _, _, hbe⟩)
    have HsB0 := hide (rr_info (s.save r).2.1 ivb)
    have Hbe := hide hbe
    clear hbe
    have h1 := ho.alloc (.cells (refCells zeroS nilV) 60)
    have gB := hide (on_blk_mul h1)
    have H6 := hide (h1.setRow (refCells (s.save r).2.1 ivb))
    have S6 := hide (((S4b.out.trans hs).alloc (.cells (refCells zeroS nilV) 60)).setRow W5.heap.size (refCells (s.save r).2.1 ivb))
    have hbw : Below W5.heap.size W5 ((W5.alloc (.cells (refCells zeroS nilV) 60)).setRow W5.heap.size (refCells (s.save r).2.1 ivb)) := below_setRow alloc1 (Nat.le_refl _) _
    have HIB := hide (hbi.below hbw)
    have hstop : ∀ p : Prop, Hid p → p := fun _ h => h.out
    clear ho hs h1 hbw hbi S4b
    go_wp2_with (first | (refine wpList_store_row rfl _ _ _ rfl W5.heap.size (refCells (s.save r).2.1 ivb) rfl rfl _ _ gB.out HsB0.out rfl HoB.out ?_; refine hstop _ ?_))
    refine hide ?_
    clear hstop gB
    generalize (W5.alloc (.cells (refCells zeroS nilV) 60)).setRow W5.heap.size (refCells (s.save r).2.1 ivb) = W6 at *
    generalize W5.heap.size = g16 at *
    obtain rfl := Hbe.out
    clear Hbe
    have GB := hide (on_blk_mul H6.out)
    have GA := hide (on_blk_mul H6.out.right.right)
    have HIA := hide (own_bytes H6.out.right.right.right)
    have H7 := hide (show (Flash p (s.save r).1 * (RFlash q (s.save r).1 * F)).on W6 from by
      have h9 := H6.out.right
      rw [sp_a4] at h9
      exact h9.left)
    obtain ⟨aa, ac, rfl, _, _, _, _⟩ := HIA.out
    have Hle := hide (show (s.save r).2.2 ≤ 1000000 ∨ True from .inr trivial)
    clear H6
    generalize s.save r = X at *
    obtain ⟨s1, R, er⟩ := X
    simp only at *
    have HsA := hide (rc_info R (.slice aa R.init.length ac))
    have HsB := hide (rr_info R (.slice ba R.init.length bc))
    go_wp2_with fail
    refine wp_region_vs [isV (.int .i64 (er : Nat)), isV (.int .i64 (er : Nat)), isV (.bool true), isV (.bool true), isV (.agg (recCells R (.slice aa R.init.length ac))), isV (.agg (refCells R (.slice aa R.init.length ac))), isV (.agg (refCells R (.slice ba R.init.length bc))), isV (.bool true), isV (.bool true), isV (.bool true)]
      (by kernel_rfl) (by kernel_rfl) rfl ?keep ?todo ?rest
    case keep => exact ⟨Keep.isV _, Keep.isV _, Keep.isV _, Keep.isV _, Keep.isV _, Keep.isV _, Keep.isV _, Keep.isV _, Keep.isV _, Keep.isV _, trivial⟩
    case todo =>
      refine ⟨?_, ?_, ?_, ?_, ?_, ?_, ?_, ?_, ?_, ?_, trivial⟩
      · intro ev X hT hb hk hf
        have e0 : ev (.tmp 9) = .int .i64 (er : Nat) := hk.1
        exact OpOk.move rfl e0 ⟨rfl, Stay.refl _⟩
      · intro ev X hT hb hk hf
        have e0 : ev (.tmp 11) = .int .i64 (er : Nat) := hk.1
        exact OpOk.move rfl e0 ⟨rfl, Stay.refl _⟩
      · intro ev X hT hb hk hf
        have e0 : ev (.tmp 44) = .int .i64 (er : Nat) := hf.1
        have e1 : ev (.tmp 45) = .int .i64 (er : Nat) := hf.2.1
        exact OpOk.run (v := .bool true) (W' := X) (by simp [execOp, e0, e1, hb.1, go_sem]) ⟨rfl, Stay.refl _⟩
      · intro ev X hT hb hk hf
        have e0 : ev (.tmp 46) = .bool true := hf.1
        exact OpOk.move rfl e0 ⟨rfl, Stay.refl _⟩
      · intro ev X hT hb hk hf
        refine ⟨true, hf.1, fun _ => ?_, fun h => (h rfl).elim⟩
        have e0 : ev (.tmp 8) = .pointer (some ⟨g13, 0, Option.none⟩) := hk.1
        exact OpOk.load_row _ _ rfl _ e0 _ (recCells R (.slice aa R.init.length ac)) (0, 0) _ ((hT.block _ (Array.getElem?_eq_some_iff.1 GA.out).1).trans GA.out) hur rfl HsA.out ⟨rfl, Stay.refl _⟩
      · intro ev X hT hb hk hf
        refine ⟨true, hf.2.1, fun _ => ?_, fun h => (h rfl).elim⟩
        have e0 : ev (.tmp 48) = .agg (recCells R (.slice aa R.init.length ac)) := hf.1
        refine OpOk.enters (f := 46) (args := #[.agg (recCells R (.slice aa R.init.length ac))]) (W' := X) (by simp [execOp, resolve, invoke, e0, hb.1, hb.2.1, go_sem]) ((of14_any R aa R.init.length ac X).mono ?_)
        rintro e X2 ⟨rfl, h2⟩
        exact ⟨_, rfl, rfl, h2⟩
      · intro ev X hT hb hk hf
        refine ⟨true, hf.1, fun _ => ?_, fun h => (h rfl).elim⟩
        have e0 : ev (.tmp 10) = .pointer (some ⟨g16, 0, Option.none⟩) := hk.1
        exact OpOk.load_row _ _ rfl _ e0 _ (refCells R (.slice ba R.init.length bc)) (0, 0) _ ((hT.block _ (Array.getElem?_eq_some_iff.1 GB.out).1).trans GB.out) hurr rfl HsB.out ⟨rfl, Stay.refl _⟩
      · intro ev X hT hb hk hf
        refine ⟨true, hf.2.2.2.1, fun _ => ?_, fun h => (h rfl).elim⟩
        have e0 : ev (.tmp 49) = .agg (refCells R (.slice aa R.init.length ac)) := hf.1
        have e1 : ev (.tmp 50) = .agg (refCells R (.slice ba R.init.length bc)) := hf.2.1
        refine OpOk.enters (f := 31) (args := #[.agg (refCells R (.slice aa R.init.length ac)), .agg (refCells R (.slice ba R.init.length bc))]) (W' := X) (by simp [execOp, resolve, invoke, e0, e1, hb.1, hb.2.1, go_sem]) ((rsame_any R _ _ X (HIA.out.below hT) (HIB.out.below hT)).mono ?_)
        rintro e X2 ⟨rfl, h2⟩
        exact ⟨_, rfl, rfl, h2⟩
      · intro ev X hT hb hk hf
        have e0 : ev (.tmp 47) = .bool true := hf.1
        have e1 : ev (.tmp 51) = .bool true := hf.2.1
        exact OpOk.run (v := .bool true) (W' := X) (by simp [execOp, e0, e1, hb, hb.1, hb.2.1, hb.2.2, go_sem]) ⟨rfl, Stay.refl _⟩
      · intro ev X hT hb hk hf
        have e0 : ev (.tmp 52) = .bool true := hf.1
        exact OpOk.assign rfl e0 ⟨rfl, Stay.refl _⟩
    case rest =>
      intro X hT
      rintro _ rfl _ rfl _ rfl _ rfl _ rfl _ rfl _ rfl _ rfl _ rfl _ rfl
      have H8 := hide (H7.out.below hT)
      have S8 := hide (S6.out.trans (Str.below hT))
      clear hT
      go_wp2
      refine Rest.done ?_
      go_wp2_with fail
      go_ret
      exact ⟨rfl, s1, Hf1.out, Hwl.out, H8.out, S8.out⟩
  · rw [show ((1 : Nat) : Int) = 1 from rfl] at hk6
    go_wp2_with fail
    obtain ⟨s1, hs1⟩ : ∃ x, x = s.fail k tear := ⟨_, rfl⟩
    have hfa := fun F' X hX => fail_any p s F' X hX k tear
    have hfb := fun F' X hX => rfail_any q s F' X hX k tear
    have Hfa : Hid (∀ F' X, (Flash p s * F').on X → Calls Try.prog 16 #[fptr p, .int .i64 (k : Int), .int .u32 (tear : Int)] X fun e w' => e = .returned (.int .i64 0) ∧ (Flash p s1 * F').on w' ∧ Str X w') := hide (by rw [hs1]; exact hfa)
    have Hfb : Hid (∀ F' X, (RFlash q s * F').on X → Calls Try.prog 27 #[fptr q, .int .i64 (k : Int), .int .u32 (tear : Int)] X fun e w' => e = .returned (.int .i64 0) ∧ (RFlash q s1 * F').on w' ∧ Str X w') := hide (by rw [hs1]; exact hfb)
    have Hf1 : Hid (s1.Fit (n + 400)) := hide (by rw [hs1]; exact (Hfit.out.mono (show n ≤ n + 400 by omega)).fail k tear (by omega) ht)
    have Hwl : Hid (s1.worn.length = s.worn.length) := hide (by rw [hs1])
    clear hfa hfb hs1 x0 x1 x2 Hfit
    refine Multi2.wp_region_multi [4, 9] [] [] [isV (fptr p), isV (.int .i64 (k : Int)), isV (.pointer (some ⟨w.heap.size, 2, Option.none⟩)), isV (u32v tear), isV (.int .i64 0), isV (fptr q), isV (.int .i64 (k : Int)), isV (.pointer (some ⟨w.heap.size, 2, Option.none⟩)), isV (u32v tear), isV (.int .i64 0), isV (.bool true), isV (.bool true)]
      (by kernel_rfl) (by kernel_rfl) (by kernel_rfl) trivial (fun f sv X => FailI p q s s1 (blk w.heap.size (.cells (actC ⟨kind, num, tear, r, .slice ai r.init.length ci⟩) 37 (0, 0)) * F) w (f 4) (f 9) X) (fun _ => ⟨SP.on.drew H1.out, Str.drew hS1.out⟩) (fun f s a b h st => FailI.stay h st) (fun f g s2 t X h h9 hI => by
        have e4 := h 4 rfl
        have e9 := h 9 rfl
        show FailI _ _ _ _ _ _ (g 4) (g 9) X
        rw [← e4, ← e9]
        exact hI) ?keep ?todo ?rest (by decide) (by decide)
    case keep => exact ⟨Keep.isV _, Keep.isV _, Keep.isV _, Keep.isV _, Keep.isV _, Keep.isV _, Keep.isV _, Keep.isV _, Keep.isV _, Keep.isV _, Keep.isV _, Keep.isV _, trivial⟩
    case todo =>
      refine ⟨?_, ?_, ?_, ?_, ?_, ?_, ?_, ?_, ?_, ?_, ?_, ?_, trivial⟩
      · intro f hf0 hw hn ev X hT hb hk hf
        have e0 : ev (.tmp 0) = fptr p := by have h9 := hk.1; rw [if_pos (by kernel_rfl)] at h9; exact h9
        exact OpOk.move rfl e0 (Multi2.ended_stay rfl rfl (Stay.refl _))
      · intro f hf0 hw hn ev X hT hb hk hf
        have e0 : ev (.tmp 7) = .int .i64 (k : Int) := by have h9 := hk.1; rw [if_pos (by kernel_rfl)] at h9; rw [← hqq]; exact h9
        exact OpOk.move rfl e0 (Multi2.ended_stay rfl rfl (Stay.refl _))
      · intro f hf0 hw hn ev X hT hb hk hf
        have e0 : ev (.tmp 5) = .pointer (some ⟨w.heap.size, 0, Option.none⟩) := by have h9 := hk.1; rw [if_pos (by kernel_rfl)] at h9; exact h9
        exact OpOk.run (v := .pointer (some ⟨w.heap.size, 2, Option.none⟩)) (W' := X) (by simp [execOp, e0, hua, go_sem]) (Multi2.ended_stay rfl rfl (Stay.refl _))
      · intro f hf0 hw hn ev X hT hb hk hf
        have e0 : ev (.tmp 57) = .pointer (some ⟨w.heap.size, 2, Option.none⟩) := hf.1
        have hI : FailI p q s s1 (blk w.heap.size (.cells (actC ⟨kind, num, tear, r, .slice ai r.init.length ci⟩) 37 (0, 0)) * F) w (f 4) (f 9) X := hT
        have cW : X.cell? ⟨w.heap.size, 2, Option.none⟩ = some (u32v tear) := cell_of_row X w.heap.size 2 _ _ _ (on_blk_mul hI.1.right.right)
        exact OpOk.run (v := u32v tear) (W' := X) (by simp [execOp, e0, cW, go_sem]) (Multi2.ended_stay rfl rfl (Stay.refl _))
      · intro f hf0 hw hn ev X hT hb hk hf
        have e0 : ev (.tmp 55) = fptr p := hf.1
        have e1 : ev (.tmp 56) = .int .i64 (k : Int) := hf.2.1
        have e2 : ev (.tmp 58) = u32v tear := hf.2.2.1
        have hI : FailI p q s s1 (blk w.heap.size (.cells (actC ⟨kind, num, tear, r, .slice ai r.init.length ci⟩) 37 (0, 0)) * F) w (f 4) (f 9) X := hT
        rw [hf0] at hI
        obtain ⟨hX, hput⟩ := hI.one
        refine OpOk.enters (f := 16) (args := #[fptr p, .int .i64 (k : Int), .int .u32 (tear : Int)]) (W' := X) (by simp [execOp, resolve, invoke, e0, e1, e2, hb.1, hb.2.1, go_sem]) ((Hfa.out _ X hX).mono ?_)
        rintro e Y ⟨rfl, h1, h2⟩
        exact ⟨_, rfl, Multi2.ended_turn rfl rfl (by
          show FailI _ _ _ _ _ _ true (f 9) _
          exact hput _ h1 h2) (Multi2.free_keep (by
          intro P hP
          simp only [List.mem_cons, List.not_mem_nil, or_false] at hP
          rcases hP with rfl | rfl | rfl | rfl | rfl | rfl | rfl | rfl | rfl | rfl | rfl | rfl <;> exact fun _ _ _ h => h) _ _)⟩
      · intro f hf0 hw hn ev X hT hb hk hf
        have e0 : ev (.tmp 1) = fptr q := by have h9 := hk.1; rw [if_pos (by kernel_rfl)] at h9; exact h9
        exact OpOk.move rfl e0 (Multi2.ended_stay rfl rfl (Stay.refl _))
      · intro f hf0 hw hn ev X hT hb hk hf
        have e0 : ev (.tmp 7) = .int .i64 (k : Int) := by have h9 := hk.1; rw [if_pos (by kernel_rfl)] at h9; rw [← hqq]; exact h9
        exact OpOk.move rfl e0 (Multi2.ended_stay rfl rfl (Stay.refl _))
      · intro f hf0 hw hn ev X hT hb hk hf
        have e0 : ev (.tmp 5) = .pointer (some ⟨w.heap.size, 0, Option.none⟩) := by have h9 := hk.1; rw [if_pos (by kernel_rfl)] at h9; exact h9
        exact OpOk.run (v := .pointer (some ⟨w.heap.size, 2, Option.none⟩)) (W' := X) (by simp [execOp, e0, hua, go_sem]) (Multi2.ended_stay rfl rfl (Stay.refl _))
      · intro f hf0 hw hn ev X hT hb hk hf
        have e0 : ev (.tmp 62) = .pointer (some ⟨w.heap.size, 2, Option.none⟩) := hf.1
        have hI : FailI p q s s1 (blk w.heap.size (.cells (actC ⟨kind, num, tear, r, .slice ai r.init.length ci⟩) 37 (0, 0)) * F) w (f 4) (f 9) X := hT
        have cW : X.cell? ⟨w.heap.size, 2, Option.none⟩ = some (u32v tear) := cell_of_row X w.heap.size 2 _ _ _ (on_blk_mul hI.1.right.right)
        exact OpOk.run (v := u32v tear) (W' := X) (by simp [execOp, e0, cW, go_sem]) (Multi2.ended_stay rfl rfl (Stay.refl _))
      · intro f hf0 hw hn ev X hT hb hk hf
        have e0 : ev (.tmp 60) = fptr q := hf.1
        have e1 : ev (.tmp 61) = .int .i64 (k : Int) := hf.2.1
        have e2 : ev (.tmp 63) = u32v tear := hf.2.2.1
        have hI : FailI p q s s1 (blk w.heap.size (.cells (actC ⟨kind, num, tear, r, .slice ai r.init.length ci⟩) 37 (0, 0)) * F) w (f 4) (f 9) X := hT
        rw [hf0] at hI
        obtain ⟨hX, hput⟩ := hI.two
        refine OpOk.enters (f := 27) (args := #[fptr q, .int .i64 (k : Int), .int .u32 (tear : Int)]) (W' := X) (by simp [execOp, resolve, invoke, e0, e1, e2, hb.1, hb.2.1, go_sem]) ((Hfb.out _ X hX).mono ?_)
        rintro e Y ⟨rfl, h1, h2⟩
        exact ⟨_, rfl, Multi2.ended_turn rfl rfl (by
          show FailI _ _ _ _ _ _ (f 4) true _
          exact hput _ h1 h2) (Multi2.free_keep (by
          intro P hP
          simp only [List.mem_cons, List.not_mem_nil, or_false] at hP
          rcases hP with rfl | rfl | rfl | rfl | rfl | rfl | rfl | rfl | rfl | rfl | rfl | rfl <;> exact fun _ _ _ h => h) _ _)⟩
      · intro f hf0 hw hn ev X hT hb hk hf
        have e0 : ev (.tmp 59) = .int .i64 0 := hf.1
        have e1 : ev (.tmp 64) = .int .i64 0 := hf.2.1
        exact OpOk.run (v := .bool true) (W' := X) (by simp [execOp, e0, e1, hb.1, go_sem]) (Multi2.ended_stay rfl rfl (Stay.refl _))
      · intro f hf0 hw hn ev X hT hb hk hf
        have e0 : ev (.tmp 65) = .bool true := hf.1
        exact OpOk.assign rfl e0 (Multi2.ended_stay rfl rfl (Stay.refl _))
    case rest =>
      intro X sv hI
      rintro _ ⟨-, rfl⟩ _ ⟨-, rfl⟩ _ ⟨-, rfl⟩ _ ⟨-, rfl⟩ _ ⟨-, rfl⟩ _ ⟨-, rfl⟩ _ ⟨-, rfl⟩ _ ⟨-, rfl⟩ _ ⟨-, rfl⟩ _ ⟨-, rfl⟩ _ ⟨-, rfl⟩ _ ⟨-, rfl⟩ 
      have hF : FailI p q s s1 (blk w.heap.size (.cells (actC ⟨kind, num, tear, r, .slice ai r.init.length ci⟩) 37 (0, 0)) * F) w true true X := hI
      have H8 := hide hF.1
      have S8 := hide hF.2
      rw [if_pos rfl, if_pos rfl] at H8
      clear hI hF
      try clear sv
      go_wp2
      refine Rest.done ?_
      go_wp2_with fail
      go_ret
      refine ⟨rfl, s1, Hf1.out, Hwl.out, ?_, S8.out⟩
      exact SP.le.on (SP.le.mul (SP.le.refl _) (SP.le.mul (SP.le.refl _) (SP.le_right _ _))) H8.out
  · rw [show ((2 : Nat) : Int) = 2 from rfl] at hk6
    have hP := hide (power_any p s _ _ H1.out)
    go_wp2_with fail
    refine hP.out.mono ?_
    clear hP H1
    rintro e Wb ⟨⟨_, rfl⟩, h3, hs3⟩
    have h3 : (Flash p s.power * (RFlash q s * (blk w.heap.size (.cells (actC ⟨kind, num, tear, r, .slice ai r.init.length ci⟩) 37 (0, 0)) * F))).on Wb := h3
    rw [SP.mul_left_comm] at h3
    have Sb := hide (hS1.out.trans hs3)
    have hP := hide (rpower_any q s _ _ h3)
    clear h3 hs3 hS1 x0 x1 x2
    go_wp2_with fail
    refine hP.out.mono ?_
    clear hP
    rintro e Wc ⟨⟨_, rfl⟩, h3, hs3⟩
    have h4 : (RFlash q s.power * (Flash p s.power * (blk w.heap.size (.cells (actC ⟨kind, num, tear, r, .slice ai r.init.length ci⟩) 37 (0, 0)) * F))).on Wc := h3
    rw [SP.mul_left_comm] at h4
    have H2 := hide h4
    have S2 := hide (Sb.out.trans hs3)
    have Hf1 := hide (Hfit.out.power.mono (show n ≤ n + 400 by omega))
    have Hwl := hide (show s.power.worn.length = s.worn.length from rfl)
    clear h3 h4 hs3 Sb Hfit
    generalize s.power = s1 at *
    have hL := hide (load_any p s1 _ _ H2.out Hf1.out.ok)
    go_wp2_with fail
    refine hL.out.mono ?_
    clear hL
    rintro e W3 ⟨iva, rfl, ho, hs⟩
    have HoA := hide (rc_one (s := s1.load.1) (iv := iva) (own_slice ho))
    have HsA0 := hide (rc_info s1.load.1 iva)
    have h1 := (on_all_to ho H2.out).alloc (.cells (recCells zeroS nilV) 35)
    have gB := hide (on_blk_mul h1)
    have H4 := hide (h1.setRow (recCells s1.load.1 iva))
    have S4 := hide (((S2.out.trans hs).alloc (.cells (recCells zeroS nilV) 35)).setRow W3.heap.size (recCells s1.load.1 iva))
    have hstop : ∀ p : Prop, Hid p → p := fun _ h => h.out
    clear ho hs h1 H2 S2
    go_wp2_with (first | (refine wpList_store_row rfl _ _ _ rfl W3.heap.size (recCells s1.load.1 iva) rfl rfl _ _ gB.out HsA0.out rfl HoA.out ?_; refine hstop _ ?_))
    refine hide ?_
    clear hstop gB
    generalize (W3.alloc (.cells (recCells zeroS nilV) 35)).setRow W3.heap.size (recCells s1.load.1 iva) = W4 at *
    generalize W3.heap.size = g13 at *
    have h5 := H4.out
    rw [sp_a1] at h5
    have hL := hide (rload_any q s1 _ _ h5 Hf1.out.ok)
    clear h5
    go_wp2_with fail
    refine hL.out.mono ?_
    clear hL
    rintro e W5 ⟨ivb, rfl, ho, hs⟩
    have HoB := hide (rr_one (s := s1.load.1) (iv := ivb) (own_slice ho))
    have HsB0 := hide (rr_info s1.load.1 ivb)
    have h1 := (on_all_to ho H4.out).alloc (.cells (refCells zeroS nilV) 60)
    have gB := hide (on_blk_mul h1)
    have H6 := hide (h1.setRow (refCells s1.load.1 ivb))
    have S6 := hide (((S4.out.trans hs).alloc (.cells (refCells zeroS nilV) 60)).setRow W5.heap.size (refCells s1.load.1 ivb))
    have hstop : ∀ p : Prop, Hid p → p := fun _ h => h.out
    clear ho hs h1 H4 S4
    go_wp2_with (first | (refine wpList_store_row rfl _ _ _ rfl W5.heap.size (refCells s1.load.1 ivb) rfl rfl _ _ gB.out HsB0.out rfl HoB.out ?_; refine hstop _ ?_))
    refine hide ?_
    clear hstop gB
    generalize (W5.alloc (.cells (refCells zeroS nilV) 60)).setRow W5.heap.size (refCells s1.load.1 ivb) = W6 at *
    generalize W5.heap.size = g16 at *
    have GB := hide (on_blk_mul H6.out)
    have HIB := hide (own_bytes H6.out.right)
    have GA := hide (on_blk_mul H6.out.right.right)
    have HIA := hide (own_bytes H6.out.right.right.right)
    have H7 := hide H6.out.right.right.right.right
    have HE := hide (show s1.load = (s1.load.1, s1.load.2.1, s1.load.2.2) from rfl)
    have Hpe := hide (show s1.load.2.1 ≤ 1 ∧ s1.load.2.2 ≤ 15 from ⟨load_page s1, load_err s1⟩)
    obtain ⟨ba, bc, rfl, _, _, _, _⟩ := HIB.out
    obtain ⟨aa, ac, rfl, _, _, _, _⟩ := HIA.out
    clear H6
    generalize s1.load.1 = R at *
    generalize s1.load.2.1 = pg at *
    generalize s1.load.2.2 = er at *
    have HsA := hide (rc_info R (.slice aa R.init.length ac))
    have HsB := hide (rr_info R (.slice ba R.init.length bc))
    go_wp2_with fail
    refine wp_region_vs [isV (.int .i64 (er : Nat)), isV (.int .i64 (er : Nat)), isV (.bool true), isV (.bool true), isV (.int .i64 (pg : Nat)), isV (.int .i64 (pg : Nat)), isV (.bool true), isV (.bool true), isV (.bool true), isV (.agg (recCells R (.slice aa R.init.length ac))), isV (.agg (refCells R (.slice aa R.init.length ac))), isV (.agg (refCells R (.slice ba R.init.length bc))), isV (.bool true), isV (.bool true), isV (.bool true)]
      (by kernel_rfl) (by kernel_rfl) rfl ?keep ?todo ?rest
    case keep => exact ⟨Keep.isV _, Keep.isV _, Keep.isV _, Keep.isV _, Keep.isV _, Keep.isV _, Keep.isV _, Keep.isV _, Keep.isV _, Keep.isV _, Keep.isV _, Keep.isV _, Keep.isV _, Keep.isV _, Keep.isV _, trivial⟩
    case todo =>
      refine ⟨?_, ?_, ?_, ?_, ?_, ?_, ?_, ?_, ?_, ?_, ?_, ?_, ?_, ?_, ?_, trivial⟩
      · intro ev X hT hb hk hf
        have e0 : ev (.tmp 15) = .int .i64 (er : Nat) := hk.1
        exact OpOk.move rfl e0 ⟨rfl, Stay.refl _⟩
      · intro ev X hT hb hk hf
        have e0 : ev (.tmp 18) = .int .i64 (er : Nat) := hk.1
        exact OpOk.move rfl e0 ⟨rfl, Stay.refl _⟩
      · intro ev X hT hb hk hf
        have e0 : ev (.tmp 124) = .int .i64 (er : Nat) := hf.1
        have e1 : ev (.tmp 125) = .int .i64 (er : Nat) := hf.2.1
        exact OpOk.run (v := .bool true) (W' := X) (by simp [execOp, e0, e1, hb.1, go_sem]) ⟨rfl, Stay.refl _⟩
      · intro ev X hT hb hk hf
        have e0 : ev (.tmp 126) = .bool true := hf.1
        exact OpOk.move rfl e0 ⟨rfl, Stay.refl _⟩
      · intro ev X hT hb hk hf
        refine ⟨true, hf.1, fun _ => ?_, fun h => (h rfl).elim⟩
        have e0 : ev (.tmp 14) = .int .i64 (pg : Nat) := hk.1
        exact OpOk.move rfl e0 ⟨rfl, Stay.refl _⟩
      · intro ev X hT hb hk hf
        refine ⟨true, hf.1, fun _ => ?_, fun h => (h rfl).elim⟩
        have e0 : ev (.tmp 17) = .int .i64 (pg : Nat) := hk.1
        exact OpOk.move rfl e0 ⟨rfl, Stay.refl _⟩
      · intro ev X hT hb hk hf
        refine ⟨true, hf.2.2.1, fun _ => ?_, fun h => (h rfl).elim⟩
        have e0 : ev (.tmp 128) = .int .i64 (pg : Nat) := hf.1
        have e1 : ev (.tmp 129) = .int .i64 (pg : Nat) := hf.2.1
        exact OpOk.run (v := .bool true) (W' := X) (by simp [execOp, e0, e1, hb.1, go_sem]) ⟨rfl, Stay.refl _⟩
      · intro ev X hT hb hk hf
        have e0 : ev (.tmp 127) = .bool true := hf.1
        have e1 : ev (.tmp 130) = .bool true := hf.2.1
        exact OpOk.run (v := .bool true) (W' := X) (by simp [execOp, e0, e1, hb, hb.1, hb.2.1, hb.2.2, go_sem]) ⟨rfl, Stay.refl _⟩
      · intro ev X hT hb hk hf
        have e0 : ev (.tmp 131) = .bool true := hf.1
        exact OpOk.move rfl e0 ⟨rfl, Stay.refl _⟩
      · intro ev X hT hb hk hf
        refine ⟨true, hf.1, fun _ => ?_, fun h => (h rfl).elim⟩
        have e0 : ev (.tmp 13) = .pointer (some ⟨g13, 0, Option.none⟩) := hk.1
        exact OpOk.load_row _ _ rfl _ e0 _ (recCells R (.slice aa R.init.length ac)) (0, 0) _ ((hT.block _ (Array.getElem?_eq_some_iff.1 GA.out).1).trans GA.out) hur rfl HsA.out ⟨rfl, Stay.refl _⟩
      · intro ev X hT hb hk hf
        refine ⟨true, hf.2.1, fun _ => ?_, fun h => (h rfl).elim⟩
        have e0 : ev (.tmp 133) = .agg (recCells R (.slice aa R.init.length ac)) := hf.1
        refine OpOk.enters (f := 46) (args := #[.agg (recCells R (.slice aa R.init.length ac))]) (W' := X) (by simp [execOp, resolve, invoke, e0, hb.1, hb.2.1, go_sem]) ((of14_any R aa R.init.length ac X).mono ?_)
        rintro e X2 ⟨rfl, h2⟩
        exact ⟨_, rfl, rfl, h2⟩
      · intro ev X hT hb hk hf
        refine ⟨true, hf.1, fun _ => ?_, fun h => (h rfl).elim⟩
        have e0 : ev (.tmp 16) = .pointer (some ⟨g16, 0, Option.none⟩) := hk.1
        exact OpOk.load_row _ _ rfl _ e0 _ (refCells R (.slice ba R.init.length bc)) (0, 0) _ ((hT.block _ (Array.getElem?_eq_some_iff.1 GB.out).1).trans GB.out) hurr rfl HsB.out ⟨rfl, Stay.refl _⟩
      · intro ev X hT hb hk hf
        refine ⟨true, hf.2.2.2.1, fun _ => ?_, fun h => (h rfl).elim⟩
        have e0 : ev (.tmp 134) = .agg (refCells R (.slice aa R.init.length ac)) := hf.1
        have e1 : ev (.tmp 135) = .agg (refCells R (.slice ba R.init.length bc)) := hf.2.1
        refine OpOk.enters (f := 31) (args := #[.agg (refCells R (.slice aa R.init.length ac)), .agg (refCells R (.slice ba R.init.length bc))]) (W' := X) (by simp [execOp, resolve, invoke, e0, e1, hb.1, hb.2.1, go_sem]) ((rsame_any R _ _ X (HIA.out.below hT) (HIB.out.below hT)).mono ?_)
        rintro e X2 ⟨rfl, h2⟩
        exact ⟨_, rfl, rfl, h2⟩
      · intro ev X hT hb hk hf
        have e0 : ev (.tmp 132) = .bool true := hf.1
        have e1 : ev (.tmp 136) = .bool true := hf.2.1
        exact OpOk.run (v := .bool true) (W' := X) (by simp [execOp, e0, e1, hb, hb.1, hb.2.1, hb.2.2, go_sem]) ⟨rfl, Stay.refl _⟩
      · intro ev X hT hb hk hf
        have e0 : ev (.tmp 137) = .bool true := hf.1
        exact OpOk.assign rfl e0 ⟨rfl, Stay.refl _⟩
    case rest =>
      intro X hT
      rintro _ rfl _ rfl _ rfl _ rfl _ rfl _ rfl _ rfl _ rfl _ rfl _ rfl _ rfl _ rfl _ rfl _ rfl _ rfl
      have H8 := hide (H7.out.below hT)
      have S8 := hide (S6.out.trans (Str.below hT))
      clear hT
      go_wp2
      refine Rest.done ?_
      go_wp2_with fail
      go_ret
      refine ⟨rfl, s1, Hf1.out, Hwl.out, ?_, S8.out⟩
      exact by
        have h9 := H8.out
        exact SP.le.on (SP.le.mul (SP.le.refl _) (SP.le.mul (SP.le.refl _) (SP.le_right _ _))) h9
  · rw [show ((3 : Nat) : Int) = 3 from rfl] at hk6
    have Hf1 := hide (Hfit.out.mono (show n ≤ n + 400 by omega))
    have Hwl := hide (show s.worn.length = s.worn.length from rfl)
    have H2 := H1
    have S2 := hS1
    clear hS1 H1 Hfit
    obtain ⟨s1, hs1⟩ : ∃ x, x = s := ⟨_, rfl⟩
    rw [← hs1] at H2 Hf1
    replace Hwl : Hid (s1.worn.length = s.worn.length) := hide (by rw [hs1])
    clear hs1
    have hL := hide (load_any p s1 _ _ H2.out Hf1.out.ok)
    go_wp2_with fail
    refine hL.out.mono ?_
    clear hL
    rintro e W3 ⟨iva, rfl, ho, hs⟩
    have HoA := hide (rc_one (s := s1.load.1) (iv := iva) (own_slice ho))
    have HsA0 := hide (rc_info s1.load.1 iva)
    have h1 := (on_all_to ho H2.out).alloc (.cells (recCells zeroS nilV) 35)
    have gB := hide (on_blk_mul h1)
    have H4 := hide (h1.setRow (recCells s1.load.1 iva))
    have S4 := hide (((S2.out.trans hs).alloc (.cells (recCells zeroS nilV) 35)).setRow W3.heap.size (recCells s1.load.1 iva))
    have hstop : ∀ p : Prop, Hid p → p := fun _ h => h.out
    clear ho hs h1 H2 S2
    go_wp2_with (first | (refine wpList_store_row rfl _ _ _ rfl W3.heap.size (recCells s1.load.1 iva) rfl rfl _ _ gB.out HsA0.out rfl HoA.out ?_; refine hstop _ ?_))
    refine hide ?_
    clear hstop gB
    generalize (W3.alloc (.cells (recCells zeroS nilV) 35)).setRow W3.heap.size (recCells s1.load.1 iva) = W4 at *
    generalize W3.heap.size = g13 at *
    have h5 := H4.out
    rw [sp_a1] at h5
    have hL := hide (rload_any q s1 _ _ h5 Hf1.out.ok)
    clear h5
    go_wp2_with fail
    refine hL.out.mono ?_
    clear hL
    rintro e W5 ⟨ivb, rfl, ho, hs⟩
    have HoB := hide (rr_one (s := s1.load.1) (iv := ivb) (own_slice ho))
    have HsB0 := hide (rr_info s1.load.1 ivb)
    have h1 := (on_all_to ho H4.out).alloc (.cells (refCells zeroS nilV) 60)
    have gB := hide (on_blk_mul h1)
    have H6 := hide (h1.setRow (refCells s1.load.1 ivb))
    have S6 := hide (((S4.out.trans hs).alloc (.cells (refCells zeroS nilV) 60)).setRow W5.heap.size (refCells s1.load.1 ivb))
    have hstop : ∀ p : Prop, Hid p → p := fun _ h => h.out
    clear ho hs h1 H4 S4
    go_wp2_with (first | (refine wpList_store_row rfl _ _ _ rfl W5.heap.size (refCells s1.load.1 ivb) rfl rfl _ _ gB.out HsB0.out rfl HoB.out ?_; refine hstop _ ?_))
    refine hide ?_
    clear hstop gB
    generalize (W5.alloc (.cells (refCells zeroS nilV) 60)).setRow W5.heap.size (refCells s1.load.1 ivb) = W6 at *
    generalize W5.heap.size = g16 at *
    have GB := hide (on_blk_mul H6.out)
    have HIB := hide (own_bytes H6.out.right)
    have GA := hide (on_blk_mul H6.out.right.right)
    have HIA := hide (own_bytes H6.out.right.right.right)
    have H7 := hide H6.out.right.right.right.right
    have HE := hide (show s1.load = (s1.load.1, s1.load.2.1, s1.load.2.2) from rfl)
    have Hpe := hide (show s1.load.2.1 ≤ 1 ∧ s1.load.2.2 ≤ 15 from ⟨load_page s1, load_err s1⟩)
    obtain ⟨ba, bc, rfl, _, _, _, _⟩ := HIB.out
    obtain ⟨aa, ac, rfl, _, _, _, _⟩ := HIA.out
    clear H6
    generalize s1.load.1 = R at *
    generalize s1.load.2.1 = pg at *
    generalize s1.load.2.2 = er at *
    have HsA := hide (rc_info R (.slice aa R.init.length ac))
    have HsB := hide (rr_info R (.slice ba R.init.length bc))
    go_wp2_with fail
    refine wp_region_vs [isV (.int .i64 (er : Nat)), isV (.int .i64 (er : Nat)), isV (.bool true), isV (.bool true), isV (.int .i64 (pg : Nat)), isV (.int .i64 (pg : Nat)), isV (.bool true), isV (.bool true), isV (.bool true), isV (.agg (recCells R (.slice aa R.init.length ac))), isV (.agg (refCells R (.slice aa R.init.length ac))), isV (.agg (refCells R (.slice ba R.init.length bc))), isV (.bool true), isV (.bool true), isV (.bool true)]
      (by kernel_rfl) (by kernel_rfl) rfl ?keep ?todo ?rest
    case keep => exact ⟨Keep.isV _, Keep.isV _, Keep.isV _, Keep.isV _, Keep.isV _, Keep.isV _, Keep.isV _, Keep.isV _, Keep.isV _, Keep.isV _, Keep.isV _, Keep.isV _, Keep.isV _, Keep.isV _, Keep.isV _, trivial⟩
    case todo =>
      refine ⟨?_, ?_, ?_, ?_, ?_, ?_, ?_, ?_, ?_, ?_, ?_, ?_, ?_, ?_, ?_, trivial⟩
      · intro ev X hT hb hk hf
        have e0 : ev (.tmp 15) = .int .i64 (er : Nat) := hk.1
        exact OpOk.move rfl e0 ⟨rfl, Stay.refl _⟩
      · intro ev X hT hb hk hf
        have e0 : ev (.tmp 18) = .int .i64 (er : Nat) := hk.1
        exact OpOk.move rfl e0 ⟨rfl, Stay.refl _⟩
      · intro ev X hT hb hk hf
        have e0 : ev (.tmp 124) = .int .i64 (er : Nat) := hf.1
        have e1 : ev (.tmp 125) = .int .i64 (er : Nat) := hf.2.1
        exact OpOk.run (v := .bool true) (W' := X) (by simp [execOp, e0, e1, hb.1, go_sem]) ⟨rfl, Stay.refl _⟩
      · intro ev X hT hb hk hf
        have e0 : ev (.tmp 126) = .bool true := hf.1
        exact OpOk.move rfl e0 ⟨rfl, Stay.refl _⟩
      · intro ev X hT hb hk hf
        refine ⟨true, hf.1, fun _ => ?_, fun h => (h rfl).elim⟩
        have e0 : ev (.tmp 14) = .int .i64 (pg : Nat) := hk.1
        exact OpOk.move rfl e0 ⟨rfl, Stay.refl _⟩
      · intro ev X hT hb hk hf
        refine ⟨true, hf.1, fun _ => ?_, fun h => (h rfl).elim⟩
        have e0 : ev (.tmp 17) = .int .i64 (pg : Nat) := hk.1
        exact OpOk.move rfl e0 ⟨rfl, Stay.refl _⟩
      · intro ev X hT hb hk hf
        refine ⟨true, hf.2.2.1, fun _ => ?_, fun h => (h rfl).elim⟩
        have e0 : ev (.tmp 128) = .int .i64 (pg : Nat) := hf.1
        have e1 : ev (.tmp 129) = .int .i64 (pg : Nat) := hf.2.1
        exact OpOk.run (v := .bool true) (W' := X) (by simp [execOp, e0, e1, hb.1, go_sem]) ⟨rfl, Stay.refl _⟩
      · intro ev X hT hb hk hf
        have e0 : ev (.tmp 127) = .bool true := hf.1
        have e1 : ev (.tmp 130) = .bool true := hf.2.1
        exact OpOk.run (v := .bool true) (W' := X) (by simp [execOp, e0, e1, hb, hb.1, hb.2.1, hb.2.2, go_sem]) ⟨rfl, Stay.refl _⟩
      · intro ev X hT hb hk hf
        have e0 : ev (.tmp 131) = .bool true := hf.1
        exact OpOk.move rfl e0 ⟨rfl, Stay.refl _⟩
      · intro ev X hT hb hk hf
        refine ⟨true, hf.1, fun _ => ?_, fun h => (h rfl).elim⟩
        have e0 : ev (.tmp 13) = .pointer (some ⟨g13, 0, Option.none⟩) := hk.1
        exact OpOk.load_row _ _ rfl _ e0 _ (recCells R (.slice aa R.init.length ac)) (0, 0) _ ((hT.block _ (Array.getElem?_eq_some_iff.1 GA.out).1).trans GA.out) hur rfl HsA.out ⟨rfl, Stay.refl _⟩
      · intro ev X hT hb hk hf
        refine ⟨true, hf.2.1, fun _ => ?_, fun h => (h rfl).elim⟩
        have e0 : ev (.tmp 133) = .agg (recCells R (.slice aa R.init.length ac)) := hf.1
        refine OpOk.enters (f := 46) (args := #[.agg (recCells R (.slice aa R.init.length ac))]) (W' := X) (by simp [execOp, resolve, invoke, e0, hb.1, hb.2.1, go_sem]) ((of14_any R aa R.init.length ac X).mono ?_)
        rintro e X2 ⟨rfl, h2⟩
        exact ⟨_, rfl, rfl, h2⟩
      · intro ev X hT hb hk hf
        refine ⟨true, hf.1, fun _ => ?_, fun h => (h rfl).elim⟩
        have e0 : ev (.tmp 16) = .pointer (some ⟨g16, 0, Option.none⟩) := hk.1
        exact OpOk.load_row _ _ rfl _ e0 _ (refCells R (.slice ba R.init.length bc)) (0, 0) _ ((hT.block _ (Array.getElem?_eq_some_iff.1 GB.out).1).trans GB.out) hurr rfl HsB.out ⟨rfl, Stay.refl _⟩
      · intro ev X hT hb hk hf
        refine ⟨true, hf.2.2.2.1, fun _ => ?_, fun h => (h rfl).elim⟩
        have e0 : ev (.tmp 134) = .agg (refCells R (.slice aa R.init.length ac)) := hf.1
        have e1 : ev (.tmp 135) = .agg (refCells R (.slice ba R.init.length bc)) := hf.2.1
        refine OpOk.enters (f := 31) (args := #[.agg (refCells R (.slice aa R.init.length ac)), .agg (refCells R (.slice ba R.init.length bc))]) (W' := X) (by simp [execOp, resolve, invoke, e0, e1, hb.1, hb.2.1, go_sem]) ((rsame_any R _ _ X (HIA.out.below hT) (HIB.out.below hT)).mono ?_)
        rintro e X2 ⟨rfl, h2⟩
        exact ⟨_, rfl, rfl, h2⟩
      · intro ev X hT hb hk hf
        have e0 : ev (.tmp 132) = .bool true := hf.1
        have e1 : ev (.tmp 136) = .bool true := hf.2.1
        exact OpOk.run (v := .bool true) (W' := X) (by simp [execOp, e0, e1, hb, hb.1, hb.2.1, hb.2.2, go_sem]) ⟨rfl, Stay.refl _⟩
      · intro ev X hT hb hk hf
        have e0 : ev (.tmp 137) = .bool true := hf.1
        exact OpOk.assign rfl e0 ⟨rfl, Stay.refl _⟩
    case rest =>
      intro X hT
      rintro _ rfl _ rfl _ rfl _ rfl _ rfl _ rfl _ rfl _ rfl _ rfl _ rfl _ rfl _ rfl _ rfl _ rfl _ rfl
      have H8 := hide (H7.out.below hT)
      have S8 := hide (S6.out.trans (Str.below hT))
      clear hT
      go_wp2
      refine Rest.done ?_
      go_wp2_with fail
      go_ret
      refine ⟨rfl, s1, Hf1.out, Hwl.out, ?_, S8.out⟩
      exact by
        have h9 := H8.out
        exact SP.le.on (SP.le.mul (SP.le.refl _) (SP.le.mul (SP.le.refl _) (SP.le_right _ _))) h9
  · rw [show ((4 : Nat) : Int) = 4 from rfl] at hk6
    have ht3 : (k : Int).tmod 3 = ((k % 3 : Nat) : Int) := by rw [Int.tmod_eq_emod_of_nonneg (by omega)]; omega
    go_wp2_with fail
    refine (era_anyZ p s _ _ H1.out n Hfit.out (by omega) (k % 3) (by omega) _ (by omega)).mono ?_
    rintro e Wb ⟨rfl, h3, hs3⟩
    rw [SP.mul_left_comm] at h3
    have H2 := hide h3
    have Sb := hide (hS1.out.trans hs3)
    clear h3 hs3 hS1 x0 x1 x2 H1
    go_wp2_with fail
    refine (rera_anyZ q s _ _ H2.out n Hfit.out (by omega) (k % 3) (by omega) _ (by omega)).mono ?_
    rintro e Wc ⟨rfl, h3, hs3⟩
    rw [SP.mul_left_comm] at h3
    have H3 := hide h3
    have Sc := hide (Sb.out.trans hs3)
    have Hf1 := hide ((Hfit.out.era (k % 3)).mono (show n + 1 ≤ n + 400 by omega))
    have Hwl := hide (FlS.era_wornlen s (k % 3))
    clear h3 hs3 H2 Sb Hfit
    generalize s.era (k % 3) = X at *
    obtain ⟨s1, x1⟩ := X
    simp only at H3 Hf1 Hwl
    go_wp2_with fail
    go_ret
    refine ⟨by first | rfl | simp, s1, Hf1.out, Hwl.out, ?_, Sc.out⟩
    exact SP.le.on (SP.le.mul (SP.le.refl _) (SP.le.mul (SP.le.refl _) (SP.le_right _ _))) H3.out
  · rw [show ((5 : Nat) : Int) = 5 from rfl] at hk6
    have hg := hide (H1.out.alloc (.cells (tearC tear) 5))
    have S1b := hide (hS1.out.alloc (.cells (tearC tear) 5))
    unfold tearC at hg S1b
    go_wp2_with fail
    have h2 : (blk (w.alloc (.cells (actC ⟨kind, num, tear, r, .slice ai r.init.length ci⟩) 37)).heap.size (.cells (tearC tear) 5 (0, 0)) * _).on _ := hg.out
    rw [World.size_alloc, SP.mul_left_comm] at h2
    refine (prog_anyZ p s _ _ h2 n Hfit.out (by omega) (4 * k) _ (wordB tear) (by omega) (by rw [wordB_len]) (by omega) (by rw [wordB_len]; decide) (fun W hW => tear_blk tear ht hW) _ (by omega)).mono ?_
    rintro e Wb ⟨rfl, h3, hs3⟩
    rw [sp_a2] at h3
    have H2 := hide h3
    have Sb := hide (S1b.out.trans hs3)
    clear h3 hs3 hS1 S1b x0 x1 x2 H1 hg h2
    go_wp2_with fail
    refine (rprog_anyZ q s _ _ H2.out n Hfit.out (by omega) (4 * k) _ (wordB tear) (by omega) (by rw [wordB_len]) (by omega) (by rw [wordB_len]; decide) (fun W hW => tear_blk tear ht hW.right) _ (by omega)).mono ?_
    rintro e Wc ⟨rfl, h3, hs3⟩
    rw [SP.mul_left_comm] at h3
    have H3 := hide h3
    have Sc := hide (Sb.out.trans hs3)
    have Hf1 := hide ((Hfit.out.prog (4 * k) (wordB tear)).mono (show n + (wordB tear).length / 4 ≤ n + 400 by rw [wordB_len]; omega))
    have Hwl := hide (congrArg List.length (FlS.prog_worn s (4 * k) (wordB tear)))
    clear h3 hs3 H2 Sb Hfit
    generalize s.prog (4 * k) (wordB tear) = X at *
    obtain ⟨s1, x1⟩ := X
    simp only at H3 Hf1 Hwl
    go_wp2_with fail
    go_ret
    refine ⟨by first | rfl | simp, s1, Hf1.out, Hwl.out, ?_, Sc.out⟩
    exact SP.le.on (SP.le.mul (SP.le.refl _) (SP.le.mul (SP.le.refl _) ((SP.le_right _ _).trans (SP.le_right _ _)))) H3.out
end Go.Proofs.Ytjmgnfpcieofkaa
