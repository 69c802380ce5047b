/-
  No cell of these rows narrows 'for every input' (looked for: loops, veiled, ifaces, maps, wideKeys, modest, calm, conditions, laid).
  DERIVED. THE GIVEN ROWS OF THIS SEAT. 5 by the template 'for every input the law returns true; each argument reads behind the call as it read before'; 0 by the template 'total and deterministic' (their statements: YtjmgnfpcieofkaaTotals.lean).
  GIVEN WITH THE SEED: the statements are not yours to turn. If you find one false, say at which input.
  Laid BY PROGRAM, IN A SANDBOX (cutbox-rows.mjs): the forced cells as the released guide's own fill.sh prints them over the translation e5d138719274214f… (all of the seat's roots in one cut). By AI agents, Wed Nov 11 2026. No macro, syntax, notation, axiom, sorry.
-/
import Derived.Test.YtjmgnfpcieofkaaChecked
import GoSem.Claim
import GoSem.ClaimJoined
import GoSem.ClaimMapViews
import Derived.JoinedTies
import Derived.KernelRfl
namespace Go.Proofs.Ytjmgnfpcieofkaa
/- THE CELL 'sum', in the pinned program and in every row, IS THE sha256 OF THE DUMP (.gsa) THAT YtjmgnfpcieofkaaProg.lean LOADS. Nothing in Lean hashes anything: it is a label: what it is worth is what the hold of that sum in a sandbox is worth. -/
noncomputable def Try.pinned : Pinned := { name := "ytjmgnfpcieofkaa", sum := "e5d138719274214fd1dace39cd617e14352ceb0396983171d55a8d525599a546", checked := Try.checked }
namespace Rows
def none {H : Type} : Left H := { results := [], args := [] }

/-- 'bosunlaw14.SettingsActs': WHATEVER THE INPUT: true; the input reads as it did. -/
def settingsActsSpec : ChangeSpec := { name := "settingsActs", fn := fun _ => fun
  | [d1, d2] => { results := [.lit (.bool true)], args := [d1, d2] }
  | _ => none }
def settingsActsRow : OpenClaim := { program := "ytjmgnfpcieofkaa", sum := "e5d138719274214fd1dace39cd617e14352ceb0396983171d55a8d525599a546", func := "bosun/bosunlaw14.SettingsActs", spec := "settingsActs", unfollowed := true, recurses := true, apart := false }
def SettingsActsSaid : Prop := settingsActsRow.holds Try.pinned (OpenSpec.ofChange settingsActsSpec)

/-- ITS FALSE NEIGHBOUR: 'it returns false'. Refute it at one input. -/
def settingsActsWrong : ChangeSpec := { name := "settingsActs", fn := fun _ => fun
  | [d1, d2] => { results := [.lit (.bool false)], args := [d1, d2] }
  | _ => none }
def SettingsActsWrongFalsely : Prop := settingsActsRow.holds Try.pinned (OpenSpec.ofChange settingsActsWrong)

/-- 'bosunlaw14.SettingsTorn': WHATEVER THE INPUT: true; the input reads as it did. -/
def settingsTornSpec : ChangeSpec := { name := "settingsTorn", fn := fun _ => fun
  | [d1, d2, d3] => { results := [.lit (.bool true)], args := [d1, d2, d3] }
  | _ => none }
def settingsTornRow : OpenClaim := { program := "ytjmgnfpcieofkaa", sum := "e5d138719274214fd1dace39cd617e14352ceb0396983171d55a8d525599a546", func := "bosun/bosunlaw14.SettingsTorn", spec := "settingsTorn", unfollowed := true, recurses := true, apart := false }
def SettingsTornSaid : Prop := settingsTornRow.holds Try.pinned (OpenSpec.ofChange settingsTornSpec)

/-- ITS FALSE NEIGHBOUR: 'it returns false'. Refute it at one input. -/
def settingsTornWrong : ChangeSpec := { name := "settingsTorn", fn := fun _ => fun
  | [d1, d2, d3] => { results := [.lit (.bool false)], args := [d1, d2, d3] }
  | _ => none }
def SettingsTornWrongFalsely : Prop := settingsTornRow.holds Try.pinned (OpenSpec.ofChange settingsTornWrong)

/-- 'bosunlaw18.TransferActs': WHATEVER THE INPUT: true; the input reads as it did. -/
def transferActsSpec : ChangeSpec := { name := "transferActs", fn := fun _ => fun
  | [d] => { results := [.lit (.bool true)], args := [d] }
  | _ => none }
def transferActsRow : OpenClaim := { program := "ytjmgnfpcieofkaa", sum := "e5d138719274214fd1dace39cd617e14352ceb0396983171d55a8d525599a546", func := "bosun/bosunlaw18.TransferActs", spec := "transferActs", unfollowed := true, recurses := true, apart := false }
def TransferActsSaid : Prop := transferActsRow.holds Try.pinned (OpenSpec.ofChange transferActsSpec)

/-- ITS FALSE NEIGHBOUR: 'it returns false'. Refute it at one input. -/
def transferActsWrong : ChangeSpec := { name := "transferActs", fn := fun _ => fun
  | [d] => { results := [.lit (.bool false)], args := [d] }
  | _ => none }
def TransferActsWrongFalsely : Prop := transferActsRow.holds Try.pinned (OpenSpec.ofChange transferActsWrong)

/-- 'bosunlaw18.TransferKeeps': WHATEVER THE INPUT: true; the input reads as it did. -/
def transferKeepsSpec : ChangeSpec := { name := "transferKeeps", fn := fun _ => fun
  | [d1, d2, d3] => { results := [.lit (.bool true)], args := [d1, d2, d3] }
  | _ => none }
def transferKeepsRow : OpenClaim := { program := "ytjmgnfpcieofkaa", sum := "e5d138719274214fd1dace39cd617e14352ceb0396983171d55a8d525599a546", func := "bosun/bosunlaw18.TransferKeeps", spec := "transferKeeps", unfollowed := true, recurses := true, apart := false }
def TransferKeepsSaid : Prop := transferKeepsRow.holds Try.pinned (OpenSpec.ofChange transferKeepsSpec)

/-- ITS FALSE NEIGHBOUR: 'it returns false'. Refute it at one input. -/
def transferKeepsWrong : ChangeSpec := { name := "transferKeeps", fn := fun _ => fun
  | [d1, d2, d3] => { results := [.lit (.bool false)], args := [d1, d2, d3] }
  | _ => none }
def TransferKeepsWrongFalsely : Prop := transferKeepsRow.holds Try.pinned (OpenSpec.ofChange transferKeepsWrong)

/-- 'bosunlaw22.UploaderActs': WHATEVER THE INPUT: true; the input reads as it did. -/
def uploaderActsSpec : ChangeSpec := { name := "uploaderActs", fn := fun _ => fun
  | [d1, d2, d3] => { results := [.lit (.bool true)], args := [d1, d2, d3] }
  | _ => none }
def uploaderActsRow : OpenClaim := { program := "ytjmgnfpcieofkaa", sum := "e5d138719274214fd1dace39cd617e14352ceb0396983171d55a8d525599a546", func := "bosun/bosunlaw22.UploaderActs", spec := "uploaderActs", unfollowed := true, recurses := true, apart := false }
def UploaderActsSaid : Prop := uploaderActsRow.holds Try.pinned (OpenSpec.ofChange uploaderActsSpec)

/-- ITS FALSE NEIGHBOUR: 'it returns false'. Refute it at one input. -/
def uploaderActsWrong : ChangeSpec := { name := "uploaderActs", fn := fun _ => fun
  | [d1, d2, d3] => { results := [.lit (.bool false)], args := [d1, d2, d3] }
  | _ => none }
def UploaderActsWrongFalsely : Prop := uploaderActsRow.holds Try.pinned (OpenSpec.ofChange uploaderActsWrong)

/- THE SECOND FORM. 'bulk': how many values and letters a reading holds, each counted each time it is reached (what is shared counts as often as it is met; a slice's spare places count too). A statement '..UptoSaid' is the law's where the arguments, and the package variables that the reading takes, are together of bulk at most 1048576: NARROWER than '..Said'. Prove '..Said' where nothing that the law and all that it calls make is longer than what came in: it says more and counts as full. Else prove '..UptoSaid'. A law counts once. -/
mutual
def uptoBulk {H : Type} : DataW H → Nat
  | .lit (.string bytes) => bytes.length + 1
  | .lit _ => 1
  | .nil => 1
  | .ptr d => uptoBulk d + 1
  | .slice elems spare => uptoBulkAll elems + uptoBulkAll spare + 1
  | .agg parts => uptoBulkAll parts + 1
  | .iface _ d => uptoBulk d + 1
  | .map entries => uptoBulkEntries entries + 1
  | .held _ => 1
def uptoBulkAll {H : Type} : List (DataW H) → Nat
  | [] => 0
  | d :: r => uptoBulk d + uptoBulkAll r
def uptoBulkEntries {H : Type} : List (Lit × DataW H) → Nat
  | [] => 0
  | x :: r => uptoBulkEntry x + uptoBulkEntries r
def uptoBulkEntry {H : Type} : Lit × DataW H → Nat
  | (.string bytes, d) => bytes.length + uptoBulk d + 1
  | (_, d) => uptoBulk d + 1
 end
def uptoSmall : (H : Type) → List (DataW H) → Bool := fun _ ds => decide (uptoBulkAll ds ≤ 1048576)
def OpenSpec.upto (s : _root_.Go.ChangeSpec) : _root_.Go.OpenSpec := { _root_.Go.OpenSpec.ofChange s with cond := some uptoSmall }

/-- 'bosunlaw14.SettingsActs', WHERE WHAT IT READS IS OF BULK AT MOST 1048576: true; the input reads as it did. -/
def settingsActsUptoRow : OpenClaim := { program := "ytjmgnfpcieofkaa", sum := "e5d138719274214fd1dace39cd617e14352ceb0396983171d55a8d525599a546", func := "bosun/bosunlaw14.SettingsActs", spec := "settingsActs", unfollowed := true, recurses := true, apart := false, narrowed := true }
def SettingsActsUptoSaid : Prop := settingsActsUptoRow.holds Try.pinned (OpenSpec.upto settingsActsSpec)

/-- 'bosunlaw14.SettingsTorn', WHERE WHAT IT READS IS OF BULK AT MOST 1048576: true; the input reads as it did. -/
def settingsTornUptoRow : OpenClaim := { program := "ytjmgnfpcieofkaa", sum := "e5d138719274214fd1dace39cd617e14352ceb0396983171d55a8d525599a546", func := "bosun/bosunlaw14.SettingsTorn", spec := "settingsTorn", unfollowed := true, recurses := true, apart := false, narrowed := true }
def SettingsTornUptoSaid : Prop := settingsTornUptoRow.holds Try.pinned (OpenSpec.upto settingsTornSpec)

/-- 'bosunlaw18.TransferActs', WHERE WHAT IT READS IS OF BULK AT MOST 1048576: true; the input reads as it did. -/
def transferActsUptoRow : OpenClaim := { program := "ytjmgnfpcieofkaa", sum := "e5d138719274214fd1dace39cd617e14352ceb0396983171d55a8d525599a546", func := "bosun/bosunlaw18.TransferActs", spec := "transferActs", unfollowed := true, recurses := true, apart := false, narrowed := true }
def TransferActsUptoSaid : Prop := transferActsUptoRow.holds Try.pinned (OpenSpec.upto transferActsSpec)

/-- 'bosunlaw18.TransferKeeps', WHERE WHAT IT READS IS OF BULK AT MOST 1048576: true; the input reads as it did. -/
def transferKeepsUptoRow : OpenClaim := { program := "ytjmgnfpcieofkaa", sum := "e5d138719274214fd1dace39cd617e14352ceb0396983171d55a8d525599a546", func := "bosun/bosunlaw18.TransferKeeps", spec := "transferKeeps", unfollowed := true, recurses := true, apart := false, narrowed := true }
def TransferKeepsUptoSaid : Prop := transferKeepsUptoRow.holds Try.pinned (OpenSpec.upto transferKeepsSpec)

/-- 'bosunlaw22.UploaderActs', WHERE WHAT IT READS IS OF BULK AT MOST 1048576: true; the input reads as it did. -/
def uploaderActsUptoRow : OpenClaim := { program := "ytjmgnfpcieofkaa", sum := "e5d138719274214fd1dace39cd617e14352ceb0396983171d55a8d525599a546", func := "bosun/bosunlaw22.UploaderActs", spec := "uploaderActs", unfollowed := true, recurses := true, apart := false, narrowed := true }
def UploaderActsUptoSaid : Prop := uploaderActsUptoRow.holds Try.pinned (OpenSpec.upto uploaderActsSpec)

end Rows
end Go.Proofs.Ytjmgnfpcieofkaa
