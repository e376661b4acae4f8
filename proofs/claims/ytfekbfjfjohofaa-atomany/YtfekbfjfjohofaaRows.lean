/-
  No cell of these rows narrows 'for every input' (looked for: loops, veiled, ifaces, maps, wideKeys, modest, calm, conditions, laid).
  DERIVED. THE GIVEN ROWS OF THIS SEAT. 6 by the template 'for every input the law returns true; each argument reads behind the call as it read before'; 0 by the template 'total and deterministic' (their statements: YtfekbfjfjohofaaTotals.lean).
  GIVEN WITH THE SEED: the statements are not yours to turn. If you find one false, say at which input.
  Laid BY PROGRAM, IN A SANDBOX (cutbox-rows.mjs): the forced cells as the released guide's own fill.sh prints them over the translation aafb2138ac8831fb… (all of the seat's roots in one cut). By AI agents, Wed Nov 11 2026. No macro, syntax, notation, axiom, sorry.
-/
import Derived.Test.YtfekbfjfjohofaaChecked
import GoSem.Claim
import GoSem.ClaimJoined
import GoSem.ClaimMapViews
import Derived.JoinedTies
import Derived.KernelRfl
namespace Go.Proofs.Ytfekbfjfjohofaa
/- THE CELL 'sum', in the pinned program and in every row, IS THE sha256 OF THE DUMP (.gsa) THAT YtfekbfjfjohofaaProg.lean LOADS. Nothing in Lean hashes anything: it is a label: what it is worth is what the hold of that sum in a sandbox is worth. -/
noncomputable def Try.pinned : Pinned := { name := "ytfekbfjfjohofaa", sum := "aafb2138ac8831fbbc9d07cc58ed0a6b08adb597b30bc5e07ef3a77d9c36de1f", checked := Try.checked }
namespace Rows
def none {H : Type} : Left H := { results := [], args := [] }

/-- 'commonplacelaw.MarkTells': WHATEVER THE INPUT: true; the input reads as it did. -/
def markTellsSpec : ChangeSpec := { name := "markTells", fn := fun _ => fun
  | [d1, d2, d3] => { results := [.lit (.bool true)], args := [d1, d2, d3] }
  | _ => none }
def markTellsRow : OpenClaim := { program := "ytfekbfjfjohofaa", sum := "aafb2138ac8831fbbc9d07cc58ed0a6b08adb597b30bc5e07ef3a77d9c36de1f", func := "commonplace/commonplacelaw.MarkTells", spec := "markTells", unfollowed := true, recurses := true, apart := false }
def MarkTellsSaid : Prop := markTellsRow.holds Try.pinned (OpenSpec.ofChange markTellsSpec)

/-- ITS FALSE NEIGHBOUR: 'it returns false'. Refute it at one input. -/
def markTellsWrong : ChangeSpec := { name := "markTells", fn := fun _ => fun
  | [d1, d2, d3] => { results := [.lit (.bool false)], args := [d1, d2, d3] }
  | _ => none }
def MarkTellsWrongFalsely : Prop := markTellsRow.holds Try.pinned (OpenSpec.ofChange markTellsWrong)

/-- 'commonplacelaw.MarkBetween': WHATEVER THE INPUT: true; the input reads as it did. -/
def markBetweenSpec : ChangeSpec := { name := "markBetween", fn := fun _ => fun
  | [d1, d2, d3, d4, d5] => { results := [.lit (.bool true)], args := [d1, d2, d3, d4, d5] }
  | _ => none }
def markBetweenRow : OpenClaim := { program := "ytfekbfjfjohofaa", sum := "aafb2138ac8831fbbc9d07cc58ed0a6b08adb597b30bc5e07ef3a77d9c36de1f", func := "commonplace/commonplacelaw.MarkBetween", spec := "markBetween", unfollowed := true, recurses := true, apart := false }
def MarkBetweenSaid : Prop := markBetweenRow.holds Try.pinned (OpenSpec.ofChange markBetweenSpec)

/-- ITS FALSE NEIGHBOUR: 'it returns false'. Refute it at one input. -/
def markBetweenWrong : ChangeSpec := { name := "markBetween", fn := fun _ => fun
  | [d1, d2, d3, d4, d5] => { results := [.lit (.bool false)], args := [d1, d2, d3, d4, d5] }
  | _ => none }
def MarkBetweenWrongFalsely : Prop := markBetweenRow.holds Try.pinned (OpenSpec.ofChange markBetweenWrong)

/-- 'commonplacelaw.MarkOrders': WHATEVER THE INPUT: true; the input reads as it did. -/
def markOrdersSpec : ChangeSpec := { name := "markOrders", fn := fun _ => fun
  | [d1, d2, d3, d4, d5, d6, d7] => { results := [.lit (.bool true)], args := [d1, d2, d3, d4, d5, d6, d7] }
  | _ => none }
def markOrdersRow : OpenClaim := { program := "ytfekbfjfjohofaa", sum := "aafb2138ac8831fbbc9d07cc58ed0a6b08adb597b30bc5e07ef3a77d9c36de1f", func := "commonplace/commonplacelaw.MarkOrders", spec := "markOrders", unfollowed := true, recurses := true, apart := false }
def MarkOrdersSaid : Prop := markOrdersRow.holds Try.pinned (OpenSpec.ofChange markOrdersSpec)

/-- ITS FALSE NEIGHBOUR: 'it returns false'. Refute it at one input. -/
def markOrdersWrong : ChangeSpec := { name := "markOrders", fn := fun _ => fun
  | [d1, d2, d3, d4, d5, d6, d7] => { results := [.lit (.bool false)], args := [d1, d2, d3, d4, d5, d6, d7] }
  | _ => none }
def MarkOrdersWrongFalsely : Prop := markOrdersRow.holds Try.pinned (OpenSpec.ofChange markOrdersWrong)

/-- 'commonplacelaw.MarkNext': WHATEVER THE INPUT: true; the input reads as it did. -/
def markNextSpec : ChangeSpec := { name := "markNext", fn := fun _ => fun
  | [d1, d2, d3] => { results := [.lit (.bool true)], args := [d1, d2, d3] }
  | _ => none }
def markNextRow : OpenClaim := { program := "ytfekbfjfjohofaa", sum := "aafb2138ac8831fbbc9d07cc58ed0a6b08adb597b30bc5e07ef3a77d9c36de1f", func := "commonplace/commonplacelaw.MarkNext", spec := "markNext", unfollowed := true, recurses := true, apart := false }
def MarkNextSaid : Prop := markNextRow.holds Try.pinned (OpenSpec.ofChange markNextSpec)

/-- ITS FALSE NEIGHBOUR: 'it returns false'. Refute it at one input. -/
def markNextWrong : ChangeSpec := { name := "markNext", fn := fun _ => fun
  | [d1, d2, d3] => { results := [.lit (.bool false)], args := [d1, d2, d3] }
  | _ => none }
def MarkNextWrongFalsely : Prop := markNextRow.holds Try.pinned (OpenSpec.ofChange markNextWrong)

/-- 'commonplacelaw.AtomTells': WHATEVER THE INPUT: true; the input reads as it did. -/
def atomTellsSpec : ChangeSpec := { name := "atomTells", fn := fun _ => fun
  | [d1, d2, d3] => { results := [.lit (.bool true)], args := [d1, d2, d3] }
  | _ => none }
def atomTellsRow : OpenClaim := { program := "ytfekbfjfjohofaa", sum := "aafb2138ac8831fbbc9d07cc58ed0a6b08adb597b30bc5e07ef3a77d9c36de1f", func := "commonplace/commonplacelaw.AtomTells", spec := "atomTells", inPlace := ["slices.overlaps[commonplace/api.Atom]"], unfollowed := true, recurses := true, apart := false }
def AtomTellsSaid : Prop := atomTellsRow.holds Try.pinned (OpenSpec.ofChange atomTellsSpec)

/-- ITS FALSE NEIGHBOUR: 'it returns false'. Refute it at one input. -/
def atomTellsWrong : ChangeSpec := { name := "atomTells", fn := fun _ => fun
  | [d1, d2, d3] => { results := [.lit (.bool false)], args := [d1, d2, d3] }
  | _ => none }
def AtomTellsWrongFalsely : Prop := atomTellsRow.holds Try.pinned (OpenSpec.ofChange atomTellsWrong)

/-- 'commonplacelaw.AtomAny': WHATEVER THE INPUT: true; the input reads as it did. -/
def atomAnySpec : ChangeSpec := { name := "atomAny", fn := fun _ => fun
  | [d1, d2, d3, d4] => { results := [.lit (.bool true)], args := [d1, d2, d3, d4] }
  | _ => none }
def atomAnyRow : OpenClaim := { program := "ytfekbfjfjohofaa", sum := "aafb2138ac8831fbbc9d07cc58ed0a6b08adb597b30bc5e07ef3a77d9c36de1f", func := "commonplace/commonplacelaw.AtomAny", spec := "atomAny", inPlace := ["slices.overlaps[commonplace/api.Atom]"], unfollowed := true, recurses := true, apart := false }
def AtomAnySaid : Prop := atomAnyRow.holds Try.pinned (OpenSpec.ofChange atomAnySpec)

/-- ITS FALSE NEIGHBOUR: 'it returns false'. Refute it at one input. -/
def atomAnyWrong : ChangeSpec := { name := "atomAny", fn := fun _ => fun
  | [d1, d2, d3, d4] => { results := [.lit (.bool false)], args := [d1, d2, d3, d4] }
  | _ => none }
def AtomAnyWrongFalsely : Prop := atomAnyRow.holds Try.pinned (OpenSpec.ofChange atomAnyWrong)

/- THE SECOND FORM. 'bulk': how many values and letters a reading holds, each counted each time it is reached (what is shared counts as often as it is met; a slice's spare places count too). A statement '..UptoSaid' is the law's where the arguments, and the package variables that the reading takes, are together of bulk at most 1048576: NARROWER than '..Said'. Prove '..Said' where nothing that the law and all that it calls make is longer than what came in: it says more and counts as full. Else prove '..UptoSaid'. A law counts once. -/
mutual
def uptoBulk {H : Type} : DataW H → Nat
  | .lit (.string bytes) => bytes.length + 1
  | .lit _ => 1
  | .nil => 1
  | .ptr d => uptoBulk d + 1
  | .slice elems spare => uptoBulkAll elems + uptoBulkAll spare + 1
  | .agg parts => uptoBulkAll parts + 1
  | .iface _ d => uptoBulk d + 1
  | .map entries => uptoBulkEntries entries + 1
  | .held _ => 1
def uptoBulkAll {H : Type} : List (DataW H) → Nat
  | [] => 0
  | d :: r => uptoBulk d + uptoBulkAll r
def uptoBulkEntries {H : Type} : List (Lit × DataW H) → Nat
  | [] => 0
  | x :: r => uptoBulkEntry x + uptoBulkEntries r
def uptoBulkEntry {H : Type} : Lit × DataW H → Nat
  | (.string bytes, d) => bytes.length + uptoBulk d + 1
  | (_, d) => uptoBulk d + 1
 end
def uptoSmall : (H : Type) → List (DataW H) → Bool := fun _ ds => decide (uptoBulkAll ds ≤ 1048576)
def OpenSpec.upto (s : _root_.Go.ChangeSpec) : _root_.Go.OpenSpec := { _root_.Go.OpenSpec.ofChange s with cond := some uptoSmall }

/-- 'commonplacelaw.MarkTells', WHERE WHAT IT READS IS OF BULK AT MOST 1048576: true; the input reads as it did. -/
def markTellsUptoRow : OpenClaim := { program := "ytfekbfjfjohofaa", sum := "aafb2138ac8831fbbc9d07cc58ed0a6b08adb597b30bc5e07ef3a77d9c36de1f", func := "commonplace/commonplacelaw.MarkTells", spec := "markTells", unfollowed := true, recurses := true, apart := false, narrowed := true }
def MarkTellsUptoSaid : Prop := markTellsUptoRow.holds Try.pinned (OpenSpec.upto markTellsSpec)

/-- 'commonplacelaw.MarkBetween', WHERE WHAT IT READS IS OF BULK AT MOST 1048576: true; the input reads as it did. -/
def markBetweenUptoRow : OpenClaim := { program := "ytfekbfjfjohofaa", sum := "aafb2138ac8831fbbc9d07cc58ed0a6b08adb597b30bc5e07ef3a77d9c36de1f", func := "commonplace/commonplacelaw.MarkBetween", spec := "markBetween", unfollowed := true, recurses := true, apart := false, narrowed := true }
def MarkBetweenUptoSaid : Prop := markBetweenUptoRow.holds Try.pinned (OpenSpec.upto markBetweenSpec)

/-- 'commonplacelaw.MarkOrders', WHERE WHAT IT READS IS OF BULK AT MOST 1048576: true; the input reads as it did. -/
def markOrdersUptoRow : OpenClaim := { program := "ytfekbfjfjohofaa", sum := "aafb2138ac8831fbbc9d07cc58ed0a6b08adb597b30bc5e07ef3a77d9c36de1f", func := "commonplace/commonplacelaw.MarkOrders", spec := "markOrders", unfollowed := true, recurses := true, apart := false, narrowed := true }
def MarkOrdersUptoSaid : Prop := markOrdersUptoRow.holds Try.pinned (OpenSpec.upto markOrdersSpec)

/-- 'commonplacelaw.MarkNext', WHERE WHAT IT READS IS OF BULK AT MOST 1048576: true; the input reads as it did. -/
def markNextUptoRow : OpenClaim := { program := "ytfekbfjfjohofaa", sum := "aafb2138ac8831fbbc9d07cc58ed0a6b08adb597b30bc5e07ef3a77d9c36de1f", func := "commonplace/commonplacelaw.MarkNext", spec := "markNext", unfollowed := true, recurses := true, apart := false, narrowed := true }
def MarkNextUptoSaid : Prop := markNextUptoRow.holds Try.pinned (OpenSpec.upto markNextSpec)

/-- 'commonplacelaw.AtomTells', WHERE WHAT IT READS IS OF BULK AT MOST 1048576: true; the input reads as it did. -/
def atomTellsUptoRow : OpenClaim := { program := "ytfekbfjfjohofaa", sum := "aafb2138ac8831fbbc9d07cc58ed0a6b08adb597b30bc5e07ef3a77d9c36de1f", func := "commonplace/commonplacelaw.AtomTells", spec := "atomTells", inPlace := ["slices.overlaps[commonplace/api.Atom]"], unfollowed := true, recurses := true, apart := false, narrowed := true }
def AtomTellsUptoSaid : Prop := atomTellsUptoRow.holds Try.pinned (OpenSpec.upto atomTellsSpec)

/-- 'commonplacelaw.AtomAny', WHERE WHAT IT READS IS OF BULK AT MOST 1048576: true; the input reads as it did. -/
def atomAnyUptoRow : OpenClaim := { program := "ytfekbfjfjohofaa", sum := "aafb2138ac8831fbbc9d07cc58ed0a6b08adb597b30bc5e07ef3a77d9c36de1f", func := "commonplace/commonplacelaw.AtomAny", spec := "atomAny", inPlace := ["slices.overlaps[commonplace/api.Atom]"], unfollowed := true, recurses := true, apart := false, narrowed := true }
def AtomAnyUptoSaid : Prop := atomAnyUptoRow.holds Try.pinned (OpenSpec.upto atomAnySpec)

end Rows
end Go.Proofs.Ytfekbfjfjohofaa
