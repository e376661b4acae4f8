/-
  No cell of these rows narrows 'for every input' (looked for: loops, veiled, ifaces, maps, wideKeys, modest, calm, conditions, laid).
  DERIVED. THE GIVEN ROWS OF THIS SEAT. 6 by the template 'for every input the law returns true; each argument reads behind the call as it read before'; 0 by the template 'total and deterministic' (their statements: YtnhjebdlcbhkcadTotals.lean).
  GIVEN WITH THE SEED: the statements are not yours to turn. If you find one false, say at which input.
  Laid BY PROGRAM, IN A SANDBOX (cutbox-rows.mjs): the forced cells as the released guide's own fill.sh prints them over the translation 2ebdfbda8764e15c… (all of the seat's roots in one cut). By AI agents, Wed Nov 11 2026. No macro, syntax, notation, axiom, sorry.
-/
import Derived.Test.YtnhjebdlcbhkcadChecked
import GoSem.Claim
import GoSem.ClaimJoined
import GoSem.ClaimMapViews
import Derived.JoinedTies
import Derived.KernelRfl
namespace Go.Proofs.Ytnhjebdlcbhkcad
/- THE CELL 'sum', in the pinned program and in every row, IS THE sha256 OF THE DUMP (.gsa) THAT YtnhjebdlcbhkcadProg.lean LOADS. Nothing in Lean hashes anything: it is a label: what it is worth is what the hold of that sum in a sandbox is worth. -/
noncomputable def Try.pinned : Pinned := { name := "ytnhjebdlcbhkcad", sum := "2ebdfbda8764e15c163b1193c0e07939197920cd211ea4e2a028cd82e801084c", checked := Try.checked }
namespace Rows
def none {H : Type} : Left H := { results := [], args := [] }

/-- 'commonplacelaw.CaretBack': WHATEVER THE INPUT: true; the input reads as it did. -/
def caretBackSpec : ChangeSpec := { name := "caretBack", fn := fun _ => fun
  | [d1, d2, d3] => { results := [.lit (.bool true)], args := [d1, d2, d3] }
  | _ => none }
def caretBackRow : OpenClaim := { program := "ytnhjebdlcbhkcad", sum := "2ebdfbda8764e15c163b1193c0e07939197920cd211ea4e2a028cd82e801084c", func := "commonplace/commonplacelaw.CaretBack", spec := "caretBack", unfollowed := true, recurses := true, apart := false }
def CaretBackSaid : Prop := caretBackRow.holds Try.pinned (OpenSpec.ofChange caretBackSpec)

/-- ITS FALSE NEIGHBOUR: 'it returns false'. Refute it at one input. -/
def caretBackWrong : ChangeSpec := { name := "caretBack", fn := fun _ => fun
  | [d1, d2, d3] => { results := [.lit (.bool false)], args := [d1, d2, d3] }
  | _ => none }
def CaretBackWrongFalsely : Prop := caretBackRow.holds Try.pinned (OpenSpec.ofChange caretBackWrong)

/-- 'commonplacelaw.DiffPlays': WHATEVER THE INPUT: true; the input reads as it did. -/
def diffPlaysSpec : ChangeSpec := { name := "diffPlays", fn := fun _ => fun
  | [d1, d2] => { results := [.lit (.bool true)], args := [d1, d2] }
  | _ => none }
def diffPlaysRow : OpenClaim := { program := "ytnhjebdlcbhkcad", sum := "2ebdfbda8764e15c163b1193c0e07939197920cd211ea4e2a028cd82e801084c", func := "commonplace/commonplacelaw.DiffPlays", spec := "diffPlays", unfollowed := true, recurses := true, apart := false }
def DiffPlaysSaid : Prop := diffPlaysRow.holds Try.pinned (OpenSpec.ofChange diffPlaysSpec)

/-- ITS FALSE NEIGHBOUR: 'it returns false'. Refute it at one input. -/
def diffPlaysWrong : ChangeSpec := { name := "diffPlays", fn := fun _ => fun
  | [d1, d2] => { results := [.lit (.bool false)], args := [d1, d2] }
  | _ => none }
def DiffPlaysWrongFalsely : Prop := diffPlaysRow.holds Try.pinned (OpenSpec.ofChange diffPlaysWrong)

/-- 'commonplacelaw.DiffLeads': WHATEVER THE INPUT: true; the input reads as it did. -/
def diffLeadsSpec : ChangeSpec := { name := "diffLeads", fn := fun _ => fun
  | [d1, d2] => { results := [.lit (.bool true)], args := [d1, d2] }
  | _ => none }
def diffLeadsRow : OpenClaim := { program := "ytnhjebdlcbhkcad", sum := "2ebdfbda8764e15c163b1193c0e07939197920cd211ea4e2a028cd82e801084c", func := "commonplace/commonplacelaw.DiffLeads", spec := "diffLeads", unfollowed := true, recurses := true, apart := false }
def DiffLeadsSaid : Prop := diffLeadsRow.holds Try.pinned (OpenSpec.ofChange diffLeadsSpec)

/-- ITS FALSE NEIGHBOUR: 'it returns false'. Refute it at one input. -/
def diffLeadsWrong : ChangeSpec := { name := "diffLeads", fn := fun _ => fun
  | [d1, d2] => { results := [.lit (.bool false)], args := [d1, d2] }
  | _ => none }
def DiffLeadsWrongFalsely : Prop := diffLeadsRow.holds Try.pinned (OpenSpec.ofChange diffLeadsWrong)

/-- 'commonplacelaw.DiffNear': WHATEVER THE INPUT: true; the input reads as it did. -/
def diffNearSpec : ChangeSpec := { name := "diffNear", fn := fun _ => fun
  | [d1, d2, d3] => { results := [.lit (.bool true)], args := [d1, d2, d3] }
  | _ => none }
def diffNearRow : OpenClaim := { program := "ytnhjebdlcbhkcad", sum := "2ebdfbda8764e15c163b1193c0e07939197920cd211ea4e2a028cd82e801084c", func := "commonplace/commonplacelaw.DiffNear", spec := "diffNear", unfollowed := true, recurses := true, apart := false }
def DiffNearSaid : Prop := diffNearRow.holds Try.pinned (OpenSpec.ofChange diffNearSpec)

/-- ITS FALSE NEIGHBOUR: 'it returns false'. Refute it at one input. -/
def diffNearWrong : ChangeSpec := { name := "diffNear", fn := fun _ => fun
  | [d1, d2, d3] => { results := [.lit (.bool false)], args := [d1, d2, d3] }
  | _ => none }
def DiffNearWrongFalsely : Prop := diffNearRow.holds Try.pinned (OpenSpec.ofChange diffNearWrong)

/-- 'commonplacelaw.WireTells': WHATEVER THE INPUT: true; the input reads as it did. -/
def wireTellsSpec : ChangeSpec := { name := "wireTells", fn := fun _ => fun
  | [d1, d2] => { results := [.lit (.bool true)], args := [d1, d2] }
  | _ => none }
def wireTellsRow : OpenClaim := { program := "ytnhjebdlcbhkcad", sum := "2ebdfbda8764e15c163b1193c0e07939197920cd211ea4e2a028cd82e801084c", func := "commonplace/commonplacelaw.WireTells", spec := "wireTells", unfollowed := true, recurses := true, apart := false }
def WireTellsSaid : Prop := wireTellsRow.holds Try.pinned (OpenSpec.ofChange wireTellsSpec)

/-- ITS FALSE NEIGHBOUR: 'it returns false'. Refute it at one input. -/
def wireTellsWrong : ChangeSpec := { name := "wireTells", fn := fun _ => fun
  | [d1, d2] => { results := [.lit (.bool false)], args := [d1, d2] }
  | _ => none }
def WireTellsWrongFalsely : Prop := wireTellsRow.holds Try.pinned (OpenSpec.ofChange wireTellsWrong)

/-- 'commonplacelaw.WireBack': WHATEVER THE INPUT: true; the input reads as it did. -/
def wireBackSpec : ChangeSpec := { name := "wireBack", fn := fun _ => fun
  | [d1, d2] => { results := [.lit (.bool true)], args := [d1, d2] }
  | _ => none }
def wireBackRow : OpenClaim := { program := "ytnhjebdlcbhkcad", sum := "2ebdfbda8764e15c163b1193c0e07939197920cd211ea4e2a028cd82e801084c", func := "commonplace/commonplacelaw.WireBack", spec := "wireBack", unfollowed := true, recurses := true, apart := false }
def WireBackSaid : Prop := wireBackRow.holds Try.pinned (OpenSpec.ofChange wireBackSpec)

/-- ITS FALSE NEIGHBOUR: 'it returns false'. Refute it at one input. -/
def wireBackWrong : ChangeSpec := { name := "wireBack", fn := fun _ => fun
  | [d1, d2] => { results := [.lit (.bool false)], args := [d1, d2] }
  | _ => none }
def WireBackWrongFalsely : Prop := wireBackRow.holds Try.pinned (OpenSpec.ofChange wireBackWrong)

/- THE SECOND FORM. 'bulk': how many values and letters a reading holds, each counted each time it is reached (what is shared counts as often as it is met; a slice's spare places count too). A statement '..UptoSaid' is the law's where the arguments, and the package variables that the reading takes, are together of bulk at most 1048576: NARROWER than '..Said'. Prove '..Said' where nothing that the law and all that it calls make is longer than what came in: it says more and counts as full. Else prove '..UptoSaid'. A law counts once. -/
mutual
def uptoBulk {H : Type} : DataW H → Nat
  | .lit (.string bytes) => bytes.length + 1
  | .lit _ => 1
  | .nil => 1
  | .ptr d => uptoBulk d + 1
  | .slice elems spare => uptoBulkAll elems + uptoBulkAll spare + 1
  | .agg parts => uptoBulkAll parts + 1
  | .iface _ d => uptoBulk d + 1
  | .map entries => uptoBulkEntries entries + 1
  | .held _ => 1
def uptoBulkAll {H : Type} : List (DataW H) → Nat
  | [] => 0
  | d :: r => uptoBulk d + uptoBulkAll r
def uptoBulkEntries {H : Type} : List (Lit × DataW H) → Nat
  | [] => 0
  | x :: r => uptoBulkEntry x + uptoBulkEntries r
def uptoBulkEntry {H : Type} : Lit × DataW H → Nat
  | (.string bytes, d) => bytes.length + uptoBulk d + 1
  | (_, d) => uptoBulk d + 1
 end
def uptoSmall : (H : Type) → List (DataW H) → Bool := fun _ ds => decide (uptoBulkAll ds ≤ 1048576)
def OpenSpec.upto (s : _root_.Go.ChangeSpec) : _root_.Go.OpenSpec := { _root_.Go.OpenSpec.ofChange s with cond := some uptoSmall }

/-- 'commonplacelaw.CaretBack', WHERE WHAT IT READS IS OF BULK AT MOST 1048576: true; the input reads as it did. -/
def caretBackUptoRow : OpenClaim := { program := "ytnhjebdlcbhkcad", sum := "2ebdfbda8764e15c163b1193c0e07939197920cd211ea4e2a028cd82e801084c", func := "commonplace/commonplacelaw.CaretBack", spec := "caretBack", unfollowed := true, recurses := true, apart := false, narrowed := true }
def CaretBackUptoSaid : Prop := caretBackUptoRow.holds Try.pinned (OpenSpec.upto caretBackSpec)

/-- 'commonplacelaw.DiffPlays', WHERE WHAT IT READS IS OF BULK AT MOST 1048576: true; the input reads as it did. -/
def diffPlaysUptoRow : OpenClaim := { program := "ytnhjebdlcbhkcad", sum := "2ebdfbda8764e15c163b1193c0e07939197920cd211ea4e2a028cd82e801084c", func := "commonplace/commonplacelaw.DiffPlays", spec := "diffPlays", unfollowed := true, recurses := true, apart := false, narrowed := true }
def DiffPlaysUptoSaid : Prop := diffPlaysUptoRow.holds Try.pinned (OpenSpec.upto diffPlaysSpec)

/-- 'commonplacelaw.DiffLeads', WHERE WHAT IT READS IS OF BULK AT MOST 1048576: true; the input reads as it did. -/
def diffLeadsUptoRow : OpenClaim := { program := "ytnhjebdlcbhkcad", sum := "2ebdfbda8764e15c163b1193c0e07939197920cd211ea4e2a028cd82e801084c", func := "commonplace/commonplacelaw.DiffLeads", spec := "diffLeads", unfollowed := true, recurses := true, apart := false, narrowed := true }
def DiffLeadsUptoSaid : Prop := diffLeadsUptoRow.holds Try.pinned (OpenSpec.upto diffLeadsSpec)

/-- 'commonplacelaw.DiffNear', WHERE WHAT IT READS IS OF BULK AT MOST 1048576: true; the input reads as it did. -/
def diffNearUptoRow : OpenClaim := { program := "ytnhjebdlcbhkcad", sum := "2ebdfbda8764e15c163b1193c0e07939197920cd211ea4e2a028cd82e801084c", func := "commonplace/commonplacelaw.DiffNear", spec := "diffNear", unfollowed := true, recurses := true, apart := false, narrowed := true }
def DiffNearUptoSaid : Prop := diffNearUptoRow.holds Try.pinned (OpenSpec.upto diffNearSpec)

/-- 'commonplacelaw.WireTells', WHERE WHAT IT READS IS OF BULK AT MOST 1048576: true; the input reads as it did. -/
def wireTellsUptoRow : OpenClaim := { program := "ytnhjebdlcbhkcad", sum := "2ebdfbda8764e15c163b1193c0e07939197920cd211ea4e2a028cd82e801084c", func := "commonplace/commonplacelaw.WireTells", spec := "wireTells", unfollowed := true, recurses := true, apart := false, narrowed := true }
def WireTellsUptoSaid : Prop := wireTellsUptoRow.holds Try.pinned (OpenSpec.upto wireTellsSpec)

/-- 'commonplacelaw.WireBack', WHERE WHAT IT READS IS OF BULK AT MOST 1048576: true; the input reads as it did. -/
def wireBackUptoRow : OpenClaim := { program := "ytnhjebdlcbhkcad", sum := "2ebdfbda8764e15c163b1193c0e07939197920cd211ea4e2a028cd82e801084c", func := "commonplace/commonplacelaw.WireBack", spec := "wireBack", unfollowed := true, recurses := true, apart := false, narrowed := true }
def WireBackUptoSaid : Prop := wireBackUptoRow.holds Try.pinned (OpenSpec.upto wireBackSpec)

end Rows
end Go.Proofs.Ytnhjebdlcbhkcad
