/- How deeds that are handed in are read; how many they are where what is read is small. -/
import Derived.Test.YtcggeeejkgndmabSortP
import Derived.Test.YtcggeeejkgndmabAllC
import Derived.Test.YtcggeeejkgndmabRows
namespace Go.Proofs.Ytcggeeejkgndmab
open Go.ChangeShapes Go.WideShapes Go.ChangeAt Go.RowKit Go.Deep Go.Joins

/-- seven cells: a deed -/
def DeedQ (W : World) (z : Dd) (cs : List Value) : Prop := ∃ p cp q cq, cs = [.int .i64 z.kind, .slice p z.rp.length cp, .int .i64 z.rc, .string z.rt, .slice q z.mp.length cq, .int .i64 z.mc, .int .i64 z.many] ∧ DdAt W z p q ∧ -9223372036854775808 ≤ z.many ∧ z.many ≤ 9223372036854775807

theorem i64_wf {n : Int} (h : (Lit.int .i64 n).wf = true) : -9223372036854775808 ≤ n ∧ n ≤ 9223372036854775807 := by
  have h1 : IntKind.i64.min = -9223372036854775808 := by decide
  have h2 : IntKind.i64.max = 9223372036854775807 := by decide
  simp only [Lit.wf, h1, h2, Bool.and_eq_true, decide_eq_true_eq] at h
  exact h

set_option maxRecDepth 100000 in
theorem open_deedC {H : Type} {enc : TypeId × Value → H} {W : World} {n : Nat} {cs : List Value} {y : DataW H × List MemPlace} (h : DataW.trod enc Try.prog W 0 (fun _ => true) true n 54 cs = some y) : ∃ z, DeedQ W z cs := by
  obtain ⟨y0, y1, y2, y3, m, _, hl, h0, h1, h2, h3⟩ := trod_struct4 Try.underlying54 h
  have hl2 : cs.length = 7 := hl.trans (by kernel_rfl)
  match cs, hl2 with
  | [v0, v1, v2, v3, v4, v5, v6], _ =>
    have e0 : DataW.trod enc Try.prog W 0 (fun _ => true) true m 3 [v0] = some y0 := h0
    have e1 : DataW.trod enc Try.prog W 0 (fun _ => true) true m 26 [v1, v2, v3] = some y1 := h1
    have e2 : DataW.trod enc Try.prog W 0 (fun _ => true) true m 24 [v4, v5] = some y2 := h2
    have e3 : DataW.trod enc Try.prog W 0 (fun _ => true) true m 3 [v6] = some y3 := h3
    obtain ⟨kd, hkd, _⟩ := DataW.trod_int Try.underlying3 e0
    obtain ⟨many, hmn, _, hwf⟩ := DataW.trod_int Try.underlying3 e3
    obtain ⟨x0, x1, m', _, _, g0, g1⟩ := trod_struct2 Try.underlying26 e1
    have e4 : DataW.trod enc Try.prog W 0 (fun _ => true) true m' 24 [v1, v2] = some x0 := g0
    have e5 : DataW.trod enc Try.prog W 0 (fun _ => true) true m' 9 [v3] = some x1 := g1
    obtain ⟨z, p, cp, ha, hs, hle, hc⟩ := open_markC e4
    obtain ⟨t, ht, _, hts⟩ := DataW.trod_string Try.underlying9 e5
    obtain ⟨z', q, cq, ha', hs', hle', hc'⟩ := open_markC e2
    simp only [List.cons.injEq, and_true] at hkd hmn ha ht ha'
    have hw := i64_wf hwf
    exact ⟨⟨kd, z.1, z.2, t, z'.1, z'.2, many⟩, p, cp, q, cq, by rw [hkd, hmn, ha.1, ha.2, ht, ha'.1, ha'.2], ⟨hs, hs', by show z.1.length ≤ maxLen; omega, by show z'.1.length ≤ maxLen; omega, hts⟩, hw.1, hw.2⟩

theorem deedsAt_rows {W : World} {a : Option Addr} {l : List Dd} (hr : RowsAt (DeedQ W) 7 W a l) : DeedsAt W a l := by
  rcases hr with e | ⟨b, off, rfl, hb, hc⟩
  · exact Or.inl e
  · refine Or.inr ⟨b, off, rfl, hb, fun i hi => ?_⟩
    obtain ⟨cs', ⟨p, cp, q, cq, rfl, hD, h1, h2⟩, _, hj⟩ := hc i hi
    exact ⟨p, cp, q, cq, hj 0 (by decide), hj 1 (by decide), hj 2 (by decide), hj 3 (by decide), hj 4 (by decide), hj 5 (by decide), hj 6 (by decide), hD, h1, h2⟩

theorem bulk_pos {H : Type} (d : DataW H) : 1 ≤ Rows.uptoBulk d := by
  cases d with
  | lit l => cases l <;> simp [Rows.uptoBulk]
  | _ => simp [Rows.uptoBulk]
theorem bulk_len {H : Type} (l : List (DataW H)) : l.length ≤ Rows.uptoBulkAll l := by
  induction l with
  | nil => simp [Rows.uptoBulkAll]
  | cons x r ih => have := bulk_pos x; simp only [Rows.uptoBulkAll, List.length_cons]; omega

set_option maxRecDepth 100000 in
theorem open_deeds {H : Type} {enc : TypeId × Value → H} {W : World} {b0 : Nat} {v : Value} {d : DataW H} {p : List MemPlace} (hv : Value.okWide Try.prog W .any b0 52 v) (h : DataW.Trod enc Try.prog W 0 (fun _ => true) true 52 v d p) :
    ∃ a cap l, v = .slice a (List.length l) cap ∧ DeedsAt W a l ∧ l.length ≤ maxLen ∧ l.length ≤ Rows.uptoBulk d := by
  obtain ⟨a, len, cap, rfl⟩ := okWide_slice Try.underlying52 hv
  obtain ⟨fuel, hf⟩ := h
  have hf2 := hf
  obtain ⟨a', cap', l, hcs, hr, h1, h2⟩ := open_rows (Q := DeedQ W) (K := 7) Try.underlying52 (by kernel_rfl) (by decide) (fun n cs' y h => open_deedC h) hf
  simp [Value.cells] at hcs
  obtain ⟨rfl, rfl, rfl⟩ := hcs
  refine ⟨a, cap, l, rfl, deedsAt_rows hr, by omega, ?_⟩
  rcases open_slice Try.underlying52 hf2 with ⟨e, _⟩ | ⟨ad, len, cap2, m, n, D, Pl, e, _, _, _, _, hx, _⟩
  · simp [Value.cells] at e
    rw [e.2.1]
    simp
  · simp [Value.cells] at e
    have hd : d = .slice ((List.range len).map D) ((List.range (m - len)).map fun j => D (len + j)) := (Prod.mk.inj hx).1
    have hb := bulk_len ((List.range len).map D)
    rw [hd]
    simp only [Rows.uptoBulk]
    simp at hb
    have := e.2.1
    omega
end Go.Proofs.Ytcggeeejkgndmab
