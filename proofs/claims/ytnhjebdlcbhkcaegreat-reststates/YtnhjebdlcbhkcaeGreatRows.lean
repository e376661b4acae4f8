/-
  No cell of these rows narrows 'for every input' (looked for: loops, veiled, ifaces, maps, wideKeys, modest, calm, conditions, laid).
  DERIVED. THE GIVEN ROWS OF THIS SEAT. 3 by the template 'for every input the law returns true; each argument reads behind the call as it read before'; 0 by the template 'total and deterministic' (their statements: YtnhjebdlcbhkcaeGreatTotals.lean).
  GIVEN WITH THE SEED: the statements are not yours to turn. If you find one false, say at which input.
  Laid BY PROGRAM, IN A SANDBOX (cutbox-rows.mjs): the forced cells as the released guide's own fill.sh prints them over the translation 95340320af919325… (all of the seat's roots in one cut). By AI agents, Wed Nov 11 2026. No macro, syntax, notation, axiom, sorry.
-/
import Derived.Test.YtnhjebdlcbhkcaeGreatChecked
import GoSem.Claim
import GoSem.ClaimJoined
import GoSem.ClaimMapViews
import Derived.JoinedTies
import Derived.KernelRfl
namespace Go.Proofs.YtnhjebdlcbhkcaeGreat
/- THE CELL 'sum', in the pinned program and in every row, IS THE sha256 OF THE DUMP (.gsa) THAT YtnhjebdlcbhkcaeGreatProg.lean LOADS. Nothing in Lean hashes anything: it is a label: what it is worth is what the hold of that sum in a sandbox is worth. -/
noncomputable def Tryz.pinned : Pinned := { name := "ytnhjebdlcbhkcaegreat", sum := "95340320af919325a2a6c1a2e97c3c56c444b75151b6d833dbfa2d783e7623b4", checked := Tryz.checked }
namespace Rows
def none {H : Type} : Left H := { results := [], args := [] }

/-- 'commonplacelaw.RestStates': WHATEVER THE INPUT: true; the input reads as it did. -/
def restStatesSpec : ChangeSpec := { name := "restStates", fn := fun _ => fun
  | [d1, d2, d3, d4] => { results := [.lit (.bool true)], args := [d1, d2, d3, d4] }
  | _ => none }
def restStatesRow : OpenClaim := { program := "ytnhjebdlcbhkcaegreat", sum := "95340320af919325a2a6c1a2e97c3c56c444b75151b6d833dbfa2d783e7623b4", func := "commonplace/commonplacelaw.RestStates", spec := "restStates", inPlace := ["slices.overlaps[commonplace/api.Atom]", "slices.overlaps[commonplace/api.Mark]"], unfollowed := true, recurses := true, apart := false }
def RestStatesSaid : Prop := restStatesRow.holds Tryz.pinned (OpenSpec.ofChange restStatesSpec)

/-- ITS FALSE NEIGHBOUR: 'it returns false'. Refute it at one input. -/
def restStatesWrong : ChangeSpec := { name := "restStates", fn := fun _ => fun
  | [d1, d2, d3, d4] => { results := [.lit (.bool false)], args := [d1, d2, d3, d4] }
  | _ => none }
def RestStatesWrongFalsely : Prop := restStatesRow.holds Tryz.pinned (OpenSpec.ofChange restStatesWrong)

/-- 'commonplacelaw.DeskTypes': WHATEVER THE INPUT: true; the input reads as it did. -/
def deskTypesSpec : ChangeSpec := { name := "deskTypes", fn := fun _ => fun
  | [d1, d2, d3] => { results := [.lit (.bool true)], args := [d1, d2, d3] }
  | _ => none }
def deskTypesRow : OpenClaim := { program := "ytnhjebdlcbhkcaegreat", sum := "95340320af919325a2a6c1a2e97c3c56c444b75151b6d833dbfa2d783e7623b4", func := "commonplace/commonplacelaw.DeskTypes", spec := "deskTypes", inPlace := ["slices.overlaps[commonplace/api.Atom]", "slices.overlaps[commonplace/api.Mark]", "slices.overlaps[commonplace/api.Note]"], unfollowed := true, recurses := true, apart := false }
def DeskTypesSaid : Prop := deskTypesRow.holds Tryz.pinned (OpenSpec.ofChange deskTypesSpec)

/-- ITS FALSE NEIGHBOUR: 'it returns false'. Refute it at one input. -/
def deskTypesWrong : ChangeSpec := { name := "deskTypes", fn := fun _ => fun
  | [d1, d2, d3] => { results := [.lit (.bool false)], args := [d1, d2, d3] }
  | _ => none }
def DeskTypesWrongFalsely : Prop := deskTypesRow.holds Tryz.pinned (OpenSpec.ofChange deskTypesWrong)

/-- 'commonplacelaw.DeskCuts': WHATEVER THE INPUT: true; the input reads as it did. -/
def deskCutsSpec : ChangeSpec := { name := "deskCuts", fn := fun _ => fun
  | [d1, d2, d3] => { results := [.lit (.bool true)], args := [d1, d2, d3] }
  | _ => none }
def deskCutsRow : OpenClaim := { program := "ytnhjebdlcbhkcaegreat", sum := "95340320af919325a2a6c1a2e97c3c56c444b75151b6d833dbfa2d783e7623b4", func := "commonplace/commonplacelaw.DeskCuts", spec := "deskCuts", inPlace := ["slices.overlaps[commonplace/api.Atom]", "slices.overlaps[commonplace/api.Mark]", "slices.overlaps[commonplace/api.Note]"], unfollowed := true, recurses := true, apart := false }
def DeskCutsSaid : Prop := deskCutsRow.holds Tryz.pinned (OpenSpec.ofChange deskCutsSpec)

/-- ITS FALSE NEIGHBOUR: 'it returns false'. Refute it at one input. -/
def deskCutsWrong : ChangeSpec := { name := "deskCuts", fn := fun _ => fun
  | [d1, d2, d3] => { results := [.lit (.bool false)], args := [d1, d2, d3] }
  | _ => none }
def DeskCutsWrongFalsely : Prop := deskCutsRow.holds Tryz.pinned (OpenSpec.ofChange deskCutsWrong)

/- THE SECOND FORM. 'bulk': how many values and letters a reading holds, each counted each time it is reached (what is shared counts as often as it is met; a slice's spare places count too). A statement '..UptoSaid' is the law's where the arguments, and the package variables that the reading takes, are together of bulk at most 1048576: NARROWER than '..Said'. Prove '..Said' where nothing that the law and all that it calls make is longer than what came in: it says more and counts as full. Else prove '..UptoSaid'. A law counts once. -/
mutual
def uptoBulk {H : Type} : DataW H → Nat
  | .lit (.string bytes) => bytes.length + 1
  | .lit _ => 1
  | .nil => 1
  | .ptr d => uptoBulk d + 1
  | .slice elems spare => uptoBulkAll elems + uptoBulkAll spare + 1
  | .agg parts => uptoBulkAll parts + 1
  | .iface _ d => uptoBulk d + 1
  | .map entries => uptoBulkEntries entries + 1
  | .held _ => 1
def uptoBulkAll {H : Type} : List (DataW H) → Nat
  | [] => 0
  | d :: r => uptoBulk d + uptoBulkAll r
def uptoBulkEntries {H : Type} : List (Lit × DataW H) → Nat
  | [] => 0
  | x :: r => uptoBulkEntry x + uptoBulkEntries r
def uptoBulkEntry {H : Type} : Lit × DataW H → Nat
  | (.string bytes, d) => bytes.length + uptoBulk d + 1
  | (_, d) => uptoBulk d + 1
 end
def uptoSmall : (H : Type) → List (DataW H) → Bool := fun _ ds => decide (uptoBulkAll ds ≤ 1048576)
def OpenSpec.upto (s : _root_.Go.ChangeSpec) : _root_.Go.OpenSpec := { _root_.Go.OpenSpec.ofChange s with cond := some uptoSmall }

/-- 'commonplacelaw.RestStates', WHERE WHAT IT READS IS OF BULK AT MOST 1048576: true; the input reads as it did. -/
def restStatesUptoRow : OpenClaim := { program := "ytnhjebdlcbhkcaegreat", sum := "95340320af919325a2a6c1a2e97c3c56c444b75151b6d833dbfa2d783e7623b4", func := "commonplace/commonplacelaw.RestStates", spec := "restStates", inPlace := ["slices.overlaps[commonplace/api.Atom]", "slices.overlaps[commonplace/api.Mark]"], unfollowed := true, recurses := true, apart := false, narrowed := true }
def RestStatesUptoSaid : Prop := restStatesUptoRow.holds Tryz.pinned (OpenSpec.upto restStatesSpec)

/-- 'commonplacelaw.DeskTypes', WHERE WHAT IT READS IS OF BULK AT MOST 1048576: true; the input reads as it did. -/
def deskTypesUptoRow : OpenClaim := { program := "ytnhjebdlcbhkcaegreat", sum := "95340320af919325a2a6c1a2e97c3c56c444b75151b6d833dbfa2d783e7623b4", func := "commonplace/commonplacelaw.DeskTypes", spec := "deskTypes", inPlace := ["slices.overlaps[commonplace/api.Atom]", "slices.overlaps[commonplace/api.Mark]", "slices.overlaps[commonplace/api.Note]"], unfollowed := true, recurses := true, apart := false, narrowed := true }
def DeskTypesUptoSaid : Prop := deskTypesUptoRow.holds Tryz.pinned (OpenSpec.upto deskTypesSpec)

/-- 'commonplacelaw.DeskCuts', WHERE WHAT IT READS IS OF BULK AT MOST 1048576: true; the input reads as it did. -/
def deskCutsUptoRow : OpenClaim := { program := "ytnhjebdlcbhkcaegreat", sum := "95340320af919325a2a6c1a2e97c3c56c444b75151b6d833dbfa2d783e7623b4", func := "commonplace/commonplacelaw.DeskCuts", spec := "deskCuts", inPlace := ["slices.overlaps[commonplace/api.Atom]", "slices.overlaps[commonplace/api.Mark]", "slices.overlaps[commonplace/api.Note]"], unfollowed := true, recurses := true, apart := false, narrowed := true }
def DeskCutsUptoSaid : Prop := deskCutsUptoRow.holds Tryz.pinned (OpenSpec.upto deskCutsSpec)

end Rows
end Go.Proofs.YtnhjebdlcbhkcaeGreat
