/- How a list of numbers that is handed in is read. -/
import Derived.Test.YtlpfnpkmgkbngabAfter
import Derived.Test.YtlpfnpkmgkbngabLawPut
import Derived.Test.YtlpfnpkmgkbngabSortP
namespace Go.Proofs.Ytlpfnpkmgkbngab
open Go.ChangeShapes Go.WideShapes Go.ChangeAt Go.RowKit Go.Deep Go.Joins

/-- one cell: a number -/
def IntQ (z : Int) (cs : List Value) : Prop := cs = [.int .i64 z]

set_option maxRecDepth 100000 in
theorem open_ints {H : Type} {enc : TypeId × Value → H} {W : World} {b0 : Nat} {v : Value} {d : DataW H} {p : List MemPlace} (hv : Value.okWide Try.prog W .any b0 62 v) (h : DataW.Trod enc Try.prog W 0 (fun _ => true) true 62 v d p) :
    ∃ a cap l, v = .slice a (List.length l) cap ∧ IntsAt W a l ∧ l.length ≤ cap ∧ l.length ≤ maxLen ∧ cap ≤ maxLen := by
  obtain ⟨a, len, cap, rfl⟩ := okWide_slice Try.underlying62 hv
  obtain ⟨fuel, hf⟩ := h
  obtain ⟨a', cap', l, hcs, hr, h1, h2⟩ := open_rows (Q := IntQ) (K := 1) Try.underlying62 (by kernel_rfl) (by decide) (fun n cs' y h => by
    obtain ⟨z, hz, _⟩ := DataW.trod_int Try.underlying3 h
    exact ⟨z, hz⟩) hf
  simp [Value.cells] at hcs
  obtain ⟨rfl, rfl, rfl⟩ := hcs
  refine ⟨a, cap, l, rfl, ?_, h1, by omega, h2⟩
  rcases hr with e | ⟨b, off, rfl, hb, hc⟩
  · exact Or.inl e
  · refine Or.inr ⟨b, off, rfl, hb, fun i hi => ?_⟩
    obtain ⟨cs', rfl, _, hj⟩ := hc i hi
    have := hj 0 (by decide)
    simpa using this
end Go.Proofs.Ytlpfnpkmgkbngab

namespace Go.Proofs.Ytlpfnpkmgkbngab
open Go.ChangeShapes Go.WideShapes Go.ChangeAt Go.RowKit Go.Deep Go.Joins

set_option maxRecDepth 100000 in
theorem open_intsB {H : Type} {enc : TypeId × Value → H} {W : World} {b0 : Nat} {v : Value} {d : DataW H} {p : List MemPlace} (hv : Value.okWide Try.prog W .any b0 62 v) (h : DataW.Trod enc Try.prog W 0 (fun _ => true) true 62 v d p) :
    ∃ a cap l, v = .slice a (List.length l) cap ∧ IntsAt W a l ∧ l.length ≤ maxLen ∧ l.length ≤ Rows.uptoBulk d := by
  obtain ⟨a, cap, l, rfl, hI, h1, h2, h3⟩ := open_ints hv h
  refine ⟨a, cap, l, rfl, hI, h2, ?_⟩
  obtain ⟨fuel, hf2⟩ := h
  rcases open_slice Try.underlying62 hf2 with ⟨e, _⟩ | ⟨ad, len, cap2, m, n, D, Pl, e, _, _, _, _, hx, _⟩
  · simp [Value.cells] at e
    rw [e.2.1]
    simp
  · simp [Value.cells] at e
    have hd : d = .slice ((List.range len).map D) ((List.range (m - len)).map fun j => D (len + j)) := (Prod.mk.inj hx).1
    have hb := bulk_len ((List.range len).map D)
    rw [hd]
    simp only [Rows.uptoBulk]
    simp at hb
    have := e.2.1
    omega
end Go.Proofs.Ytlpfnpkmgkbngab
