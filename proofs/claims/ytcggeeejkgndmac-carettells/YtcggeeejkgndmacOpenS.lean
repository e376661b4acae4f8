/- How a state that is handed in is read. -/
import Derived.Test.YtcggeeejkgndmacOpenC
namespace Go.Proofs.Ytcggeeejkgndmac
open Go.ChangeShapes Go.WideShapes Go.ChangeAt Go.RowKit Go.Deep Go.Joins

set_option maxRecDepth 100000 in
theorem open_state {H : Type} {enc : TypeId × Value → H} {W : World} {b0 : Nat} {v : Value} {d : DataW H} {p : List MemPlace} (hv : Value.okWide Try.prog W .any b0 32 v) (h : DataW.Trod enc Try.prog W 0 (fun _ => true) true 32 v d p) :
    ∃ a cap l a' cap' g, v = .agg #[.slice a (List.length l) cap, .slice a' (List.length g) cap'] ∧ AtomsAt W a l ∧ MarksAt W a' g ∧ l.length ≤ cap ∧ l.length ≤ maxLen ∧ cap ≤ maxLen ∧ g.length ≤ cap' ∧ g.length ≤ maxLen ∧ cap' ≤ maxLen := by
  obtain ⟨v0, v1, y0, y1, n, rfl, rfl, rfl, t0, t1⟩ := open_agg2 Try.underlying32 (by kernel_rfl) (by kernel_rfl) hv h
  obtain ⟨a, cap, l, h0, r0, b0, b1⟩ := open_rows (Q := AtomQ W) (K := 3) Try.underlying29 (by kernel_rfl) (by decide) (fun n cs' y h => open_atomC h) t0
  obtain ⟨a', cap', g, h1, r1, b2, b3⟩ := open_rows (Q := MarkQ W) (K := 2) Try.underlying30 (by kernel_rfl) (by decide) (fun n cs' y h => open_markC h) t1
  simp only [List.cons.injEq, and_true] at h0 h1
  subst h0 h1
  exact ⟨a, cap, l, a', cap', g, rfl, atomsAt_rows r0, marksAt_rows r1, b0, by omega, b1, b2, by omega, b3⟩
end Go.Proofs.Ytcggeeejkgndmac
