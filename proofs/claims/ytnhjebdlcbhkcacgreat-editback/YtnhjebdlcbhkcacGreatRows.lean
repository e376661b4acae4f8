/-
  No cell of these rows narrows 'for every input' (looked for: loops, veiled, ifaces, maps, wideKeys, modest, calm, conditions, laid).
  DERIVED. THE GIVEN ROWS OF THIS SEAT. 2 by the template 'for every input the law returns true; each argument reads behind the call as it read before'; 0 by the template 'total and deterministic' (their statements: YtnhjebdlcbhkcacGreatTotals.lean).
  GIVEN WITH THE SEED: the statements are not yours to turn. If you find one false, say at which input.
  Laid BY PROGRAM, IN A SANDBOX (cutbox-rows.mjs): the forced cells as the released guide's own fill.sh prints them over the translation ee0432c54a11f8a4… (all of the seat's roots in one cut). By AI agents, Wed Nov 11 2026. No macro, syntax, notation, axiom, sorry.
-/
import Derived.Test.YtnhjebdlcbhkcacGreatChecked
import GoSem.Claim
import GoSem.ClaimJoined
import GoSem.ClaimMapViews
import Derived.JoinedTies
import Derived.KernelRfl
namespace Go.Proofs.YtnhjebdlcbhkcacGreat
/- THE CELL 'sum', in the pinned program and in every row, IS THE sha256 OF THE DUMP (.gsa) THAT YtnhjebdlcbhkcacGreatProg.lean LOADS. Nothing in Lean hashes anything: it is a label: what it is worth is what the hold of that sum in a sandbox is worth. -/
noncomputable def Tryz.pinned : Pinned := { name := "ytnhjebdlcbhkcacgreat", sum := "ee0432c54a11f8a4087b17f11a2974c7c5a8c017d26d56fefa29588c7512e445", checked := Tryz.checked }
namespace Rows
def none {H : Type} : Left H := { results := [], args := [] }

/-- 'commonplacelaw.EditTakes': WHATEVER THE INPUT: true; the input reads as it did. -/
def editTakesSpec : ChangeSpec := { name := "editTakes", fn := fun _ => fun
  | [d1, d2, d3] => { results := [.lit (.bool true)], args := [d1, d2, d3] }
  | _ => none }
def editTakesRow : OpenClaim := { program := "ytnhjebdlcbhkcacgreat", sum := "ee0432c54a11f8a4087b17f11a2974c7c5a8c017d26d56fefa29588c7512e445", func := "commonplace/commonplacelaw.EditTakes", spec := "editTakes", unfollowed := true, recurses := true, apart := false }
def EditTakesSaid : Prop := editTakesRow.holds Tryz.pinned (OpenSpec.ofChange editTakesSpec)

/-- ITS FALSE NEIGHBOUR: 'it returns false'. Refute it at one input. -/
def editTakesWrong : ChangeSpec := { name := "editTakes", fn := fun _ => fun
  | [d1, d2, d3] => { results := [.lit (.bool false)], args := [d1, d2, d3] }
  | _ => none }
def EditTakesWrongFalsely : Prop := editTakesRow.holds Tryz.pinned (OpenSpec.ofChange editTakesWrong)

/-- 'commonplacelaw.EditBack': WHATEVER THE INPUT: true; the input reads as it did. -/
def editBackSpec : ChangeSpec := { name := "editBack", fn := fun _ => fun
  | [d1, d2, d3, d4, d5] => { results := [.lit (.bool true)], args := [d1, d2, d3, d4, d5] }
  | _ => none }
def editBackRow : OpenClaim := { program := "ytnhjebdlcbhkcacgreat", sum := "ee0432c54a11f8a4087b17f11a2974c7c5a8c017d26d56fefa29588c7512e445", func := "commonplace/commonplacelaw.EditBack", spec := "editBack", inPlace := ["slices.overlaps[commonplace/api.Atom]", "slices.overlaps[commonplace/api.Mark]"], unfollowed := true, recurses := true, apart := false }
def EditBackSaid : Prop := editBackRow.holds Tryz.pinned (OpenSpec.ofChange editBackSpec)

/-- ITS FALSE NEIGHBOUR: 'it returns false'. Refute it at one input. -/
def editBackWrong : ChangeSpec := { name := "editBack", fn := fun _ => fun
  | [d1, d2, d3, d4, d5] => { results := [.lit (.bool false)], args := [d1, d2, d3, d4, d5] }
  | _ => none }
def EditBackWrongFalsely : Prop := editBackRow.holds Tryz.pinned (OpenSpec.ofChange editBackWrong)

/- THE SECOND FORM. 'bulk': how many values and letters a reading holds, each counted each time it is reached (what is shared counts as often as it is met; a slice's spare places count too). A statement '..UptoSaid' is the law's where the arguments, and the package variables that the reading takes, are together of bulk at most 1048576: NARROWER than '..Said'. Prove '..Said' where nothing that the law and all that it calls make is longer than what came in: it says more and counts as full. Else prove '..UptoSaid'. A law counts once. -/
mutual
def uptoBulk {H : Type} : DataW H → Nat
  | .lit (.string bytes) => bytes.length + 1
  | .lit _ => 1
  | .nil => 1
  | .ptr d => uptoBulk d + 1
  | .slice elems spare => uptoBulkAll elems + uptoBulkAll spare + 1
  | .agg parts => uptoBulkAll parts + 1
  | .iface _ d => uptoBulk d + 1
  | .map entries => uptoBulkEntries entries + 1
  | .held _ => 1
def uptoBulkAll {H : Type} : List (DataW H) → Nat
  | [] => 0
  | d :: r => uptoBulk d + uptoBulkAll r
def uptoBulkEntries {H : Type} : List (Lit × DataW H) → Nat
  | [] => 0
  | x :: r => uptoBulkEntry x + uptoBulkEntries r
def uptoBulkEntry {H : Type} : Lit × DataW H → Nat
  | (.string bytes, d) => bytes.length + uptoBulk d + 1
  | (_, d) => uptoBulk d + 1
 end
def uptoSmall : (H : Type) → List (DataW H) → Bool := fun _ ds => decide (uptoBulkAll ds ≤ 1048576)
def OpenSpec.upto (s : _root_.Go.ChangeSpec) : _root_.Go.OpenSpec := { _root_.Go.OpenSpec.ofChange s with cond := some uptoSmall }

/-- 'commonplacelaw.EditTakes', WHERE WHAT IT READS IS OF BULK AT MOST 1048576: true; the input reads as it did. -/
def editTakesUptoRow : OpenClaim := { program := "ytnhjebdlcbhkcacgreat", sum := "ee0432c54a11f8a4087b17f11a2974c7c5a8c017d26d56fefa29588c7512e445", func := "commonplace/commonplacelaw.EditTakes", spec := "editTakes", unfollowed := true, recurses := true, apart := false, narrowed := true }
def EditTakesUptoSaid : Prop := editTakesUptoRow.holds Tryz.pinned (OpenSpec.upto editTakesSpec)

/-- 'commonplacelaw.EditBack', WHERE WHAT IT READS IS OF BULK AT MOST 1048576: true; the input reads as it did. -/
def editBackUptoRow : OpenClaim := { program := "ytnhjebdlcbhkcacgreat", sum := "ee0432c54a11f8a4087b17f11a2974c7c5a8c017d26d56fefa29588c7512e445", func := "commonplace/commonplacelaw.EditBack", spec := "editBack", inPlace := ["slices.overlaps[commonplace/api.Atom]", "slices.overlaps[commonplace/api.Mark]"], unfollowed := true, recurses := true, apart := false, narrowed := true }
def EditBackUptoSaid : Prop := editBackUptoRow.holds Tryz.pinned (OpenSpec.upto editBackSpec)

end Rows
end Go.Proofs.YtnhjebdlcbhkcacGreat
