/-
  No cell of these rows narrows 'for every input' (looked for: loops, veiled, ifaces, maps, wideKeys, modest, calm, conditions, laid).
  DERIVED. THE GIVEN ROWS OF THIS SEAT. 3 by the template 'for every input the law returns true; each argument reads behind the call as it read before'; 0 by the template 'total and deterministic' (their statements: YtlpfnpkmgkbngaeTotals.lean).
  GIVEN WITH THE SEED: the statements are not yours to turn. If you find one false, say at which input.
  Laid BY PROGRAM, IN A SANDBOX (cutbox-rows.mjs): the forced cells as the released guide's own fill.sh prints them over the translation 8c4fdb23696c2eb9… (all of the seat's roots in one cut). By AI agents, Wed Nov 11 2026. No macro, syntax, notation, axiom, sorry.
-/
import Derived.Test.YtlpfnpkmgkbngaeChecked
import GoSem.Claim
import GoSem.ClaimJoined
import GoSem.ClaimMapViews
import Derived.JoinedTies
import Derived.KernelRfl
namespace Go.Proofs.Ytlpfnpkmgkbngae
/- THE CELL 'sum', in the pinned program and in every row, IS THE sha256 OF THE DUMP (.gsa) THAT YtlpfnpkmgkbngaeProg.lean LOADS. Nothing in Lean hashes anything: it is a label: what it is worth is what the hold of that sum in a sandbox is worth. -/
noncomputable def Try.pinned : Pinned := { name := "ytlpfnpkmgkbngae", sum := "8c4fdb23696c2eb9741bdb5303ba5dc6b3ca35227f0e9aabad7ec32a9bda7f1c", checked := Try.checked }
namespace Rows
def none {H : Type} : Left H := { results := [], args := [] }

/-- 'commonplacelaw.SeenTells': WHATEVER THE INPUT: true; the input reads as it did. -/
def seenTellsSpec : ChangeSpec := { name := "seenTells", fn := fun _ => fun
  | [d1, d2, d3] => { results := [.lit (.bool true)], args := [d1, d2, d3] }
  | _ => none }
def seenTellsRow : OpenClaim := { program := "ytlpfnpkmgkbngae", sum := "8c4fdb23696c2eb9741bdb5303ba5dc6b3ca35227f0e9aabad7ec32a9bda7f1c", func := "commonplace/commonplacelaw.SeenTells", spec := "seenTells", unfollowed := true, recurses := true, apart := false }
def SeenTellsSaid : Prop := seenTellsRow.holds Try.pinned (OpenSpec.ofChange seenTellsSpec)

/-- ITS FALSE NEIGHBOUR: 'it returns false'. Refute it at one input. -/
def seenTellsWrong : ChangeSpec := { name := "seenTells", fn := fun _ => fun
  | [d1, d2, d3] => { results := [.lit (.bool false)], args := [d1, d2, d3] }
  | _ => none }
def SeenTellsWrongFalsely : Prop := seenTellsRow.holds Try.pinned (OpenSpec.ofChange seenTellsWrong)

/-- 'commonplacelaw.SeenLeast': WHATEVER THE INPUT: true; the input reads as it did. -/
def seenLeastSpec : ChangeSpec := { name := "seenLeast", fn := fun _ => fun
  | [d1, d2, d3] => { results := [.lit (.bool true)], args := [d1, d2, d3] }
  | _ => none }
def seenLeastRow : OpenClaim := { program := "ytlpfnpkmgkbngae", sum := "8c4fdb23696c2eb9741bdb5303ba5dc6b3ca35227f0e9aabad7ec32a9bda7f1c", func := "commonplace/commonplacelaw.SeenLeast", spec := "seenLeast", unfollowed := true, recurses := true, apart := false }
def SeenLeastSaid : Prop := seenLeastRow.holds Try.pinned (OpenSpec.ofChange seenLeastSpec)

/-- ITS FALSE NEIGHBOUR: 'it returns false'. Refute it at one input. -/
def seenLeastWrong : ChangeSpec := { name := "seenLeast", fn := fun _ => fun
  | [d1, d2, d3] => { results := [.lit (.bool false)], args := [d1, d2, d3] }
  | _ => none }
def SeenLeastWrongFalsely : Prop := seenLeastRow.holds Try.pinned (OpenSpec.ofChange seenLeastWrong)

/-- 'commonplacelaw.SeenJoins': WHATEVER THE INPUT: true; the input reads as it did. -/
def seenJoinsSpec : ChangeSpec := { name := "seenJoins", fn := fun _ => fun
  | [d1, d2, d3] => { results := [.lit (.bool true)], args := [d1, d2, d3] }
  | _ => none }
def seenJoinsRow : OpenClaim := { program := "ytlpfnpkmgkbngae", sum := "8c4fdb23696c2eb9741bdb5303ba5dc6b3ca35227f0e9aabad7ec32a9bda7f1c", func := "commonplace/commonplacelaw.SeenJoins", spec := "seenJoins", unfollowed := true, recurses := true, apart := false }
def SeenJoinsSaid : Prop := seenJoinsRow.holds Try.pinned (OpenSpec.ofChange seenJoinsSpec)

/-- ITS FALSE NEIGHBOUR: 'it returns false'. Refute it at one input. -/
def seenJoinsWrong : ChangeSpec := { name := "seenJoins", fn := fun _ => fun
  | [d1, d2, d3] => { results := [.lit (.bool false)], args := [d1, d2, d3] }
  | _ => none }
def SeenJoinsWrongFalsely : Prop := seenJoinsRow.holds Try.pinned (OpenSpec.ofChange seenJoinsWrong)

/- THE SECOND FORM. 'bulk': how many values and letters a reading holds, each counted each time it is reached (what is shared counts as often as it is met; a slice's spare places count too). A statement '..UptoSaid' is the law's where the arguments, and the package variables that the reading takes, are together of bulk at most 1048576: NARROWER than '..Said'. Prove '..Said' where nothing that the law and all that it calls make is longer than what came in: it says more and counts as full. Else prove '..UptoSaid'. A law counts once. -/
mutual
def uptoBulk {H : Type} : DataW H → Nat
  | .lit (.string bytes) => bytes.length + 1
  | .lit _ => 1
  | .nil => 1
  | .ptr d => uptoBulk d + 1
  | .slice elems spare => uptoBulkAll elems + uptoBulkAll spare + 1
  | .agg parts => uptoBulkAll parts + 1
  | .iface _ d => uptoBulk d + 1
  | .map entries => uptoBulkEntries entries + 1
  | .held _ => 1
def uptoBulkAll {H : Type} : List (DataW H) → Nat
  | [] => 0
  | d :: r => uptoBulk d + uptoBulkAll r
def uptoBulkEntries {H : Type} : List (Lit × DataW H) → Nat
  | [] => 0
  | x :: r => uptoBulkEntry x + uptoBulkEntries r
def uptoBulkEntry {H : Type} : Lit × DataW H → Nat
  | (.string bytes, d) => bytes.length + uptoBulk d + 1
  | (_, d) => uptoBulk d + 1
 end
def uptoSmall : (H : Type) → List (DataW H) → Bool := fun _ ds => decide (uptoBulkAll ds ≤ 1048576)
def OpenSpec.upto (s : _root_.Go.ChangeSpec) : _root_.Go.OpenSpec := { _root_.Go.OpenSpec.ofChange s with cond := some uptoSmall }

/-- 'commonplacelaw.SeenTells', WHERE WHAT IT READS IS OF BULK AT MOST 1048576: true; the input reads as it did. -/
def seenTellsUptoRow : OpenClaim := { program := "ytlpfnpkmgkbngae", sum := "8c4fdb23696c2eb9741bdb5303ba5dc6b3ca35227f0e9aabad7ec32a9bda7f1c", func := "commonplace/commonplacelaw.SeenTells", spec := "seenTells", unfollowed := true, recurses := true, apart := false, narrowed := true }
def SeenTellsUptoSaid : Prop := seenTellsUptoRow.holds Try.pinned (OpenSpec.upto seenTellsSpec)

/-- 'commonplacelaw.SeenLeast', WHERE WHAT IT READS IS OF BULK AT MOST 1048576: true; the input reads as it did. -/
def seenLeastUptoRow : OpenClaim := { program := "ytlpfnpkmgkbngae", sum := "8c4fdb23696c2eb9741bdb5303ba5dc6b3ca35227f0e9aabad7ec32a9bda7f1c", func := "commonplace/commonplacelaw.SeenLeast", spec := "seenLeast", unfollowed := true, recurses := true, apart := false, narrowed := true }
def SeenLeastUptoSaid : Prop := seenLeastUptoRow.holds Try.pinned (OpenSpec.upto seenLeastSpec)

/-- 'commonplacelaw.SeenJoins', WHERE WHAT IT READS IS OF BULK AT MOST 1048576: true; the input reads as it did. -/
def seenJoinsUptoRow : OpenClaim := { program := "ytlpfnpkmgkbngae", sum := "8c4fdb23696c2eb9741bdb5303ba5dc6b3ca35227f0e9aabad7ec32a9bda7f1c", func := "commonplace/commonplacelaw.SeenJoins", spec := "seenJoins", unfollowed := true, recurses := true, apart := false, narrowed := true }
def SeenJoinsUptoSaid : Prop := seenJoinsUptoRow.holds Try.pinned (OpenSpec.upto seenJoinsSpec)

end Rows
end Go.Proofs.Ytlpfnpkmgkbngae
