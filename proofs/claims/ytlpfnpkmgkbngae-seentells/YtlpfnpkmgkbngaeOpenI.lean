/- How a list of numbers that is handed in is read. -/
import Derived.Test.YtlpfnpkmgkbngaeOpenC
import Derived.Test.YtlpfnpkmgkbngaeIntsC
namespace Go.Proofs.Ytlpfnpkmgkbngae
open Go.ChangeShapes Go.WideShapes Go.ChangeAt Go.RowKit Go.Deep Go.Joins

/-- one cell: a number -/
def IntQ (z : Int) (cs : List Value) : Prop := cs = [.int .i64 z]

set_option maxRecDepth 100000 in
theorem open_ints {H : Type} {enc : TypeId × Value → H} {W : World} {b0 : Nat} {v : Value} {d : DataW H} {p : List MemPlace} (hv : Value.okWide Try.prog W .any b0 22 v) (h : DataW.Trod enc Try.prog W 0 (fun _ => true) true 22 v d p) :
    ∃ a cap l, v = .slice a (List.length l) cap ∧ IntsAt W a l ∧ l.length ≤ cap ∧ l.length ≤ maxLen ∧ cap ≤ maxLen := by
  obtain ⟨a, len, cap, rfl⟩ := okWide_slice Try.underlying22 hv
  obtain ⟨fuel, hf⟩ := h
  obtain ⟨a', cap', l, hcs, hr, h1, h2⟩ := open_rows (Q := IntQ) (K := 1) Try.underlying22 (by kernel_rfl) (by decide) (fun n cs' y h => by
    obtain ⟨z, hz, _⟩ := DataW.trod_int Try.underlying3 h
    exact ⟨z, hz⟩) hf
  simp [Value.cells] at hcs
  obtain ⟨rfl, rfl, rfl⟩ := hcs
  refine ⟨a, cap, l, rfl, ?_, h1, by omega, h2⟩
  rcases hr with e | ⟨b, off, rfl, hb, hc⟩
  · exact Or.inl e
  · refine Or.inr ⟨b, off, rfl, hb, fun i hi => ?_⟩
    obtain ⟨cs', rfl, _, hj⟩ := hc i hi
    have := hj 0 (by decide)
    simpa using this
end Go.Proofs.Ytlpfnpkmgkbngae
