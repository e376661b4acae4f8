/- How a list of numbers that is handed in is read. -/
import Derived.Test.YtnhjebdlcbhkcafOpenC
import Derived.Test.YtnhjebdlcbhkcafIntsC
import Derived.Test.YtnhjebdlcbhkcafNoteC
import Derived.Test.YtnhjebdlcbhkcafRelPu
namespace Go.Proofs.Ytnhjebdlcbhkcaf
open Go.ChangeShapes Go.WideShapes Go.ChangeAt Go.RowKit Go.Deep Go.Joins

/-- one cell: a number -/
def IntQ (z : Int) (cs : List Value) : Prop := cs = [.int .i64 z]

set_option maxRecDepth 100000 in
theorem open_ints {H : Type} {enc : TypeId × Value → H} {W : World} {b0 : Nat} {v : Value} {d : DataW H} {p : List MemPlace} (hv : Value.okWide Try.prog W .any b0 25 v) (h : DataW.Trod enc Try.prog W 0 (fun _ => true) true 25 v d p) :
    ∃ a cap l, v = .slice a (List.length l) cap ∧ IntsAt W a l ∧ l.length ≤ cap ∧ l.length ≤ maxLen ∧ cap ≤ maxLen := by
  obtain ⟨a, len, cap, rfl⟩ := okWide_slice Try.underlying25 hv
  obtain ⟨fuel, hf⟩ := h
  obtain ⟨a', cap', l, hcs, hr, h1, h2⟩ := open_rows (Q := IntQ) (K := 1) Try.underlying25 (by kernel_rfl) (by decide) (fun n cs' y h => by
    obtain ⟨z, hz, _⟩ := DataW.trod_int Try.underlying3 h
    exact ⟨z, hz⟩) hf
  simp [Value.cells] at hcs
  obtain ⟨rfl, rfl, rfl⟩ := hcs
  refine ⟨a, cap, l, rfl, ?_, h1, by omega, h2⟩
  rcases hr with e | ⟨b, off, rfl, hb, hc⟩
  · exact Or.inl e
  · refine Or.inr ⟨b, off, rfl, hb, fun i hi => ?_⟩
    obtain ⟨cs', rfl, _, hj⟩ := hc i hi
    have := hj 0 (by decide)
    simpa using this
end Go.Proofs.Ytnhjebdlcbhkcaf

namespace Go.Proofs.Ytnhjebdlcbhkcaf
open Go.ChangeShapes Go.WideShapes Go.ChangeAt Go.RowKit Go.Deep Go.Joins

/-- seven cells: a deed -/
def DeedQ (W : World) (z : Dd) (cs : List Value) : Prop := ∃ p cp q cq, cs = [.int .i64 z.kind, .slice p z.rp.length cp, .int .i64 z.rc, .string z.rt, .slice q z.mp.length cq, .int .i64 z.mc, .int .i64 z.many] ∧ DdAt W z p q ∧ -9223372036854775808 ≤ z.many ∧ z.many ≤ 9223372036854775807

theorem i64_wf {n : Int} (h : (Lit.int .i64 n).wf = true) : -9223372036854775808 ≤ n ∧ n ≤ 9223372036854775807 := by
  have h1 : IntKind.i64.min = -9223372036854775808 := by decide
  have h2 : IntKind.i64.max = 9223372036854775807 := by decide
  simp only [Lit.wf, h1, h2, Bool.and_eq_true, decide_eq_true_eq] at h
  exact h

set_option maxRecDepth 100000 in
theorem open_deedC {H : Type} {enc : TypeId × Value → H} {W : World} {n : Nat} {cs : List Value} {y : DataW H × List MemPlace} (h : DataW.trod enc Try.prog W 0 (fun _ => true) true n 54 cs = some y) : ∃ z, DeedQ W z cs := by
  obtain ⟨y0, y1, y2, y3, m, _, hl, h0, h1, h2, h3⟩ := trod_struct4 Try.underlying54 h
  have hl2 : cs.length = 7 := hl.trans (by kernel_rfl)
  match cs, hl2 with
  | [v0, v1, v2, v3, v4, v5, v6], _ =>
    have e0 : DataW.trod enc Try.prog W 0 (fun _ => true) true m 3 [v0] = some y0 := h0
    have e1 : DataW.trod enc Try.prog W 0 (fun _ => true) true m 52 [v1, v2, v3] = some y1 := h1
    have e2 : DataW.trod enc Try.prog W 0 (fun _ => true) true m 50 [v4, v5] = some y2 := h2
    have e3 : DataW.trod enc Try.prog W 0 (fun _ => true) true m 3 [v6] = some y3 := h3
    obtain ⟨kd, hkd, _⟩ := DataW.trod_int Try.underlying3 e0
    obtain ⟨many, hmn, _, hwf⟩ := DataW.trod_int Try.underlying3 e3
    obtain ⟨x0, x1, m', _, _, g0, g1⟩ := trod_struct2 Try.underlying52 e1
    have e4 : DataW.trod enc Try.prog W 0 (fun _ => true) true m' 50 [v1, v2] = some x0 := g0
    have e5 : DataW.trod enc Try.prog W 0 (fun _ => true) true m' 9 [v3] = some x1 := g1
    obtain ⟨z, p, cp, ha, hs, hle, hc⟩ := open_markC e4
    obtain ⟨t, ht, _, hts⟩ := DataW.trod_string Try.underlying9 e5
    obtain ⟨z', q, cq, ha', hs', hle', hc'⟩ := open_markC e2
    simp only [List.cons.injEq, and_true] at hkd hmn ha ht ha'
    have hw := i64_wf hwf
    exact ⟨⟨kd, z.1, z.2, t, z'.1, z'.2, many⟩, p, cp, q, cq, by rw [hkd, hmn, ha.1, ha.2, ht, ha'.1, ha'.2], ⟨hs, hs', by show z.1.length ≤ maxLen; omega, by show z'.1.length ≤ maxLen; omega, hts⟩, hw.1, hw.2⟩

theorem deedsAt_rows {W : World} {a : Option Addr} {l : List Dd} (hr : RowsAt (DeedQ W) 7 W a l) : DeedsAt W a l := by
  rcases hr with e | ⟨b, off, rfl, hb, hc⟩
  · exact Or.inl e
  · refine Or.inr ⟨b, off, rfl, hb, fun i hi => ?_⟩
    obtain ⟨cs', ⟨p, cp, q, cq, rfl, hD, h1, h2⟩, _, hj⟩ := hc i hi
    exact ⟨p, cp, q, cq, hj 0 (by decide), hj 1 (by decide), hj 2 (by decide), hj 3 (by decide), hj 4 (by decide), hj 5 (by decide), hj 6 (by decide), hD, h1, h2⟩

end Go.Proofs.Ytnhjebdlcbhkcaf

namespace Go.Proofs.Ytnhjebdlcbhkcaf
open Go.ChangeShapes Go.WideShapes Go.ChangeAt Go.RowKit Go.Deep Go.Joins

set_option maxRecDepth 100000 in
theorem open_intsC {H : Type} {enc : TypeId × Value → H} {W : World} {n : Nat} {cs : List Value} {y : DataW H × List MemPlace} (h : DataW.trod enc Try.prog W 0 (fun _ => true) true n 25 cs = some y) :
    ∃ a cap l, cs = [.slice a (List.length l) cap] ∧ IntsAt W a l ∧ l.length ≤ cap ∧ cap ≤ maxLen := by
  obtain ⟨a, cap, l, hcs, hr, h1, h2⟩ := open_rows (Q := IntQ) (K := 1) Try.underlying25 (by kernel_rfl) (by decide) (fun n cs' y h => by
    obtain ⟨z, hz, _⟩ := DataW.trod_int Try.underlying3 h
    exact ⟨z, hz⟩) h
  refine ⟨a, cap, l, hcs, ?_, h1, h2⟩
  rcases hr with e | ⟨b, off, rfl, hb, hc⟩
  · exact Or.inl e
  · refine Or.inr ⟨b, off, rfl, hb, fun i hi => ?_⟩
    obtain ⟨cs', rfl, _, hj⟩ := hc i hi
    have := hj 0 (by decide)
    simpa using this

/-- four cells: a note -/
def NoteQ (W : World) (z : Nt) (cs : List Value) : Prop := ∃ p cp q cq, cs = [.int .i64 z.site, .int .i64 z.number, .slice p z.needs.length cp, .slice q z.deeds.length cq] ∧ NtAt W z p q

set_option maxRecDepth 100000 in
theorem open_noteC {H : Type} {enc : TypeId × Value → H} {W : World} {n : Nat} {cs : List Value} {y : DataW H × List MemPlace} (h : DataW.trod enc Try.prog W 0 (fun _ => true) true n 28 cs = some y) : ∃ z, NoteQ W z cs := by
  obtain ⟨y0, y1, y2, y3, m, _, hl, h0, h1, h2, h3⟩ := trod_struct4 Try.underlying28 h
  have hl2 : cs.length = 4 := hl.trans (by kernel_rfl)
  match cs, hl2 with
  | [v0, v1, v2, v3], _ =>
    have e0 : DataW.trod enc Try.prog W 0 (fun _ => true) true m 3 [v0] = some y0 := h0
    have e1 : DataW.trod enc Try.prog W 0 (fun _ => true) true m 3 [v1] = some y1 := h1
    have e2 : DataW.trod enc Try.prog W 0 (fun _ => true) true m 25 [v2] = some y2 := h2
    have e3 : DataW.trod enc Try.prog W 0 (fun _ => true) true m 26 [v3] = some y3 := h3
    obtain ⟨site, hs, _⟩ := DataW.trod_int Try.underlying3 e0
    obtain ⟨number, hn, _⟩ := DataW.trod_int Try.underlying3 e1
    obtain ⟨p, cp, needs, ha, hi, hle, hc⟩ := open_intsC e2
    obtain ⟨q, cq, deeds, hb, hr, hle', hc'⟩ := open_rows (Q := DeedQ W) (K := 7) Try.underlying26 (by kernel_rfl) (by decide) (fun n cs' y h => open_deedC h) e3
    simp only [List.cons.injEq, and_true] at hs hn ha hb
    exact ⟨⟨site, number, needs, deeds⟩, p, cp, q, cq, by rw [hs, hn, ha, hb], ⟨hi, deedsAt_rows hr, by show needs.length ≤ maxLen; omega, by show deeds.length ≤ maxLen; omega⟩⟩

set_option maxRecDepth 100000 in
theorem open_note {H : Type} {enc : TypeId × Value → H} {W : World} {b0 : Nat} {v : Value} {d : DataW H} {p : List MemPlace} (hv : Value.okWide Try.prog W .any b0 28 v) (h : DataW.Trod enc Try.prog W 0 (fun _ => true) true 28 v d p) :
    ∃ z p q cp cq, v = ntV z p q cp cq ∧ NtAt W z p q := by
  obtain ⟨cs, rfl, _⟩ := okWide_struct Try.underlying28 hv
  obtain ⟨fuel, hf⟩ := h
  have hf' : DataW.trod enc Try.prog W 0 (fun _ => true) true fuel 28 cs.toList = some (d, p) := hf
  obtain ⟨z, p, cp, q, cq, hcs, hD⟩ := open_noteC hf'
  refine ⟨z, p, q, cp, cq, ?_, hD⟩
  unfold ntV
  congr 1
  exact Array.toList_inj.1 hcs
end Go.Proofs.Ytnhjebdlcbhkcaf

namespace Go.Proofs.Ytnhjebdlcbhkcaf
open Go.ChangeShapes Go.WideShapes Go.ChangeAt Go.RowKit Go.Deep Go.Joins

theorem notesAt_rows {W : World} {a : Option Addr} {l : List Nt} (hr : RowsAt (NoteQ W) 4 W a l) : NotesAt W a l := by
  rcases hr with e | ⟨b, off, rfl, hb, hc⟩
  · exact Or.inl e
  · refine Or.inr ⟨b, off, rfl, hb, fun i hi => ?_⟩
    obtain ⟨cs', ⟨p, cp, q, cq, rfl, hN⟩, _, hj⟩ := hc i hi
    exact ⟨p, cp, q, cq, hj 0 (by decide), hj 1 (by decide), hj 2 (by decide), hj 3 (by decide), hN⟩

set_option maxRecDepth 100000 in
theorem open_notes {H : Type} {enc : TypeId × Value → H} {W : World} {b0 : Nat} {v : Value} {d : DataW H} {p : List MemPlace} (hv : Value.okWide Try.prog W .any b0 22 v) (h : DataW.Trod enc Try.prog W 0 (fun _ => true) true 22 v d p) :
    ∃ a cap l, v = .slice a (List.length l) cap ∧ NotesAt W a l ∧ l.length ≤ cap ∧ cap ≤ maxLen := by
  obtain ⟨a, len, cap, rfl⟩ := okWide_slice Try.underlying22 hv
  obtain ⟨fuel, hf⟩ := h
  obtain ⟨a', cap', l, hcs, hr, h1, h2⟩ := open_rows (Q := NoteQ W) (K := 4) Try.underlying22 (by kernel_rfl) (by decide) (fun n cs' y h => open_noteC h) hf
  simp [Value.cells] at hcs
  obtain ⟨rfl, rfl, rfl⟩ := hcs
  exact ⟨a, cap, l, rfl, notesAt_rows hr, h1, h2⟩

set_option maxRecDepth 100000 in
theorem open_relay {H : Type} {enc : TypeId × Value → H} {W : World} {b0 : Nat} {v : Value} {d : DataW H} {p : List MemPlace} (hv : Value.okWide Try.prog W .any b0 24 v) (h : DataW.Trod enc Try.prog W 0 (fun _ => true) true 24 v d p) :
    ∃ a cap l, v = .agg #[.slice a (List.length l) cap] ∧ NotesAt W a l ∧ l.length ≤ cap ∧ cap ≤ maxLen := by
  obtain ⟨cs, rfl, hsz⟩ := okWide_struct Try.underlying24 hv
  obtain ⟨fuel, hf⟩ := h
  have hf' : DataW.trod enc Try.prog W 0 (fun _ => true) true fuel 24 cs.toList = some (d, p) := hf
  obtain ⟨y0, m, _, hl, h0⟩ := trod_struct1 Try.underlying24 hf'
  have hl2 : cs.toList.length = 1 := hl.trans (by kernel_rfl)
  obtain ⟨cl⟩ := cs
  match cl, hl2 with
  | [v0], _ =>
    obtain ⟨a, cap, l, hcs, hr, h1, h2⟩ := open_rows (Q := NoteQ W) (K := 4) Try.underlying22 (by kernel_rfl) (by decide) (fun n cs' y h => open_noteC h) (show DataW.trod enc Try.prog W 0 (fun _ => true) true m 22 [v0] = some y0 from h0)
    simp only [List.cons.injEq, and_true] at hcs
    exact ⟨a, cap, l, by rw [hcs], notesAt_rows hr, h1, h2⟩
end Go.Proofs.Ytnhjebdlcbhkcaf
