/- How an edit that is handed in is read. -/
import Derived.Test.YtnhjebdlcbhkcadOpenC
import Derived.SizedLaws
namespace Go.Proofs.Ytnhjebdlcbhkcad
open Go.ChangeShapes Go.WideShapes Go.ChangeAt Go.RowKit Go.Deep Go.Joins

theorem i64_wf {n : Int} (h : (Lit.int .i64 n).wf = true) : -9223372036854775808 ≤ n ∧ n ≤ 9223372036854775807 := by
  have h1 : IntKind.i64.min = -9223372036854775808 := by decide
  have h2 : IntKind.i64.max = 9223372036854775807 := by decide
  simp only [Lit.wf, h1, h2, Bool.and_eq_true, decide_eq_true_eq] at h
  exact h

set_option maxRecDepth 100000 in
theorem open_edit {H : Type} {enc : TypeId × Value → H} {W : World} {b0 : Nat} {v : Value} {d : DataW H} {p : List MemPlace} (hv : Value.okWide Try.prog W .any b0 45 v) (h : DataW.Trod enc Try.prog W 0 (fun _ => true) true 45 v d p) :
    ∃ k n m t, v = .agg #[.int .i64 k, .int .i64 n, .int .i64 m, .string t] ∧ m ≤ 9223372036854775807 ∧ ByteArray.size t ∈ d.weights Try.prog 45 := by
  obtain ⟨v0, v1, v2, v3, y0, y1, y2, y3, n, rfl, rfl, rfl, t0, t1, t2, t3⟩ := open_agg4 Try.underlying45 (by kernel_rfl) (by kernel_rfl) hv h
  obtain ⟨a, ha, _⟩ := DataW.trod_int Try.underlying3 t0
  obtain ⟨b, hb, _⟩ := DataW.trod_int Try.underlying3 t1
  obtain ⟨c, hc, _, hw⟩ := DataW.trod_int Try.underlying3 t2
  obtain ⟨s, hs, hx, _⟩ := DataW.trod_string Try.underlying9 t3
  simp only [List.cons.injEq, and_true] at ha hb hc hs
  subst ha hb hc hs hx
  refine ⟨a, b, c, s, rfl, (i64_wf hw).2, ?_⟩
  simp [DataW.weights, DataW.weightsEach, Try.underlying45]
end Go.Proofs.Ytnhjebdlcbhkcad
