/- How a run that is handed in is read. -/
import Derived.Test.YtcggeeejkgndmabOpenC
namespace Go.Proofs.Ytcggeeejkgndmab
open Go.ChangeShapes Go.WideShapes Go.ChangeAt Go.RowKit Go.Deep Go.Joins

set_option maxRecDepth 100000 in
theorem open_run {H : Type} {enc : TypeId × Value → H} {W : World} {b0 : Nat} {v : Value} {d : DataW H} {p : List MemPlace} (hv : Value.okWide Try.prog W .any b0 26 v) (h : DataW.Trod enc Try.prog W 0 (fun _ => true) true 26 v d p) :
    ∃ a cap l c t, v = .agg #[.slice a (List.length l) cap, .int .i64 c, .string t] ∧ StepsAt W a l ∧ l.length ≤ cap ∧ l.length ≤ maxLen ∧ ByteArray.size t ≤ maxLen := by
  obtain ⟨cs, rfl, hsz⟩ := okWide_struct Try.underlying26 hv
  obtain ⟨fuel, hf⟩ := h
  have hC : Try.prog.cellsOf 26 = 3 := by kernel_rfl
  obtain ⟨c0, c1, c2, rfl⟩ := array3 (hsz.trans hC)
  obtain ⟨y0, y1, m, _, hl, h0, h1⟩ := trod_struct2 Try.underlying26 hf
  have e0 : DataW.trod enc Try.prog W 0 (fun _ => true) true m 24 [c0, c1] = some y0 := h0
  have e1 : DataW.trod enc Try.prog W 0 (fun _ => true) true m 9 [c2] = some y1 := h1
  obtain ⟨z, pp, cap, ha, hs, hle, hc⟩ := open_markC e0
  obtain ⟨t, ht, _, hts⟩ := DataW.trod_string Try.underlying9 e1
  simp only [List.cons.injEq, and_true] at ha ht
  obtain ⟨rfl, rfl⟩ := ha
  subst ht
  exact ⟨pp, cap, z.1, z.2, t, rfl, hs, hle, by omega, hts⟩
end Go.Proofs.Ytcggeeejkgndmab
