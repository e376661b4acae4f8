/- How a note that is handed in is read. -/
import Derived.Test.YtnhjebdlcbhkcagOpenDc
import Derived.Test.YtnhjebdlcbhkcagNoteC
import Derived.Test.YtnhjebdlcbhkcagRelPu
namespace Go.Proofs.Ytnhjebdlcbhkcag
open Go.ChangeShapes Go.WideShapes Go.ChangeAt Go.RowKit Go.Deep Go.Joins

set_option maxRecDepth 100000 in
theorem open_intsC {H : Type} {enc : TypeId × Value → H} {W : World} {n : Nat} {cs : List Value} {y : DataW H × List MemPlace} (h : DataW.trod enc Try.prog W 0 (fun _ => true) true n 29 cs = some y) :
    ∃ a cap l, cs = [.slice a (List.length l) cap] ∧ IntsAt W a l ∧ l.length ≤ cap ∧ cap ≤ maxLen := by
  obtain ⟨a, cap, l, hcs, hr, h1, h2⟩ := open_rows (Q := IntQ) (K := 1) Try.underlying29 (by kernel_rfl) (by decide) (fun n cs' y h => by
    obtain ⟨z, hz, _⟩ := DataW.trod_int Try.underlying3 h
    exact ⟨z, hz⟩) h
  refine ⟨a, cap, l, hcs, ?_, h1, h2⟩
  rcases hr with e | ⟨b, off, rfl, hb, hc⟩
  · exact Or.inl e
  · refine Or.inr ⟨b, off, rfl, hb, fun i hi => ?_⟩
    obtain ⟨cs', rfl, _, hj⟩ := hc i hi
    have := hj 0 (by decide)
    simpa using this

/-- four cells: a note -/
def NoteQ (W : World) (z : Nt) (cs : List Value) : Prop := ∃ p cp q cq, cs = [.int .i64 z.site, .int .i64 z.number, .slice p z.needs.length cp, .slice q z.deeds.length cq] ∧ NtAt W z p q

set_option maxRecDepth 100000 in
theorem open_noteC {H : Type} {enc : TypeId × Value → H} {W : World} {n : Nat} {cs : List Value} {y : DataW H × List MemPlace} (h : DataW.trod enc Try.prog W 0 (fun _ => true) true n 32 cs = some y) : ∃ z, NoteQ W z cs := by
  obtain ⟨y0, y1, y2, y3, m, _, hl, h0, h1, h2, h3⟩ := trod_struct4 Try.underlying32 h
  have hl2 : cs.length = 4 := hl.trans (by kernel_rfl)
  match cs, hl2 with
  | [v0, v1, v2, v3], _ =>
    have e0 : DataW.trod enc Try.prog W 0 (fun _ => true) true m 3 [v0] = some y0 := h0
    have e1 : DataW.trod enc Try.prog W 0 (fun _ => true) true m 3 [v1] = some y1 := h1
    have e2 : DataW.trod enc Try.prog W 0 (fun _ => true) true m 29 [v2] = some y2 := h2
    have e3 : DataW.trod enc Try.prog W 0 (fun _ => true) true m 30 [v3] = some y3 := h3
    obtain ⟨site, hs, _⟩ := DataW.trod_int Try.underlying3 e0
    obtain ⟨number, hn, _⟩ := DataW.trod_int Try.underlying3 e1
    obtain ⟨p, cp, needs, ha, hi, hle, hc⟩ := open_intsC e2
    obtain ⟨q, cq, deeds, hb, hr, hle', hc'⟩ := open_rows (Q := DeedQ W) (K := 7) Try.underlying30 (by kernel_rfl) (by decide) (fun n cs' y h => open_deedC h) e3
    simp only [List.cons.injEq, and_true] at hs hn ha hb
    exact ⟨⟨site, number, needs, deeds⟩, p, cp, q, cq, by rw [hs, hn, ha, hb], ⟨hi, deedsAt_rows hr, by show needs.length ≤ maxLen; omega, by show deeds.length ≤ maxLen; omega⟩⟩

set_option maxRecDepth 100000 in
theorem open_note {H : Type} {enc : TypeId × Value → H} {W : World} {b0 : Nat} {v : Value} {d : DataW H} {p : List MemPlace} (hv : Value.okWide Try.prog W .any b0 32 v) (h : DataW.Trod enc Try.prog W 0 (fun _ => true) true 32 v d p) :
    ∃ z p q cp cq, v = ntV z p q cp cq ∧ NtAt W z p q := by
  obtain ⟨cs, rfl, _⟩ := okWide_struct Try.underlying32 hv
  obtain ⟨fuel, hf⟩ := h
  have hf' : DataW.trod enc Try.prog W 0 (fun _ => true) true fuel 32 cs.toList = some (d, p) := hf
  obtain ⟨z, p, cp, q, cq, hcs, hD⟩ := open_noteC hf'
  refine ⟨z, p, q, cp, cq, ?_, hD⟩
  unfold ntV
  congr 1
  exact Array.toList_inj.1 hcs
end Go.Proofs.Ytnhjebdlcbhkcag

namespace Go.Proofs.Ytnhjebdlcbhkcag
open Go.ChangeShapes Go.WideShapes Go.ChangeAt Go.RowKit Go.Deep Go.Joins

theorem notesAt_rows {W : World} {a : Option Addr} {l : List Nt} (hr : RowsAt (NoteQ W) 4 W a l) : NotesAt W a l := by
  rcases hr with e | ⟨b, off, rfl, hb, hc⟩
  · exact Or.inl e
  · refine Or.inr ⟨b, off, rfl, hb, fun i hi => ?_⟩
    obtain ⟨cs', ⟨p, cp, q, cq, rfl, hN⟩, _, hj⟩ := hc i hi
    exact ⟨p, cp, q, cq, hj 0 (by decide), hj 1 (by decide), hj 2 (by decide), hj 3 (by decide), hN⟩

set_option maxRecDepth 100000 in
theorem open_notes {H : Type} {enc : TypeId × Value → H} {W : World} {b0 : Nat} {v : Value} {d : DataW H} {p : List MemPlace} (hv : Value.okWide Try.prog W .any b0 22 v) (h : DataW.Trod enc Try.prog W 0 (fun _ => true) true 22 v d p) :
    ∃ a cap l, v = .slice a (List.length l) cap ∧ NotesAt W a l ∧ l.length ≤ cap ∧ cap ≤ maxLen := by
  obtain ⟨a, len, cap, rfl⟩ := okWide_slice Try.underlying22 hv
  obtain ⟨fuel, hf⟩ := h
  obtain ⟨a', cap', l, hcs, hr, h1, h2⟩ := open_rows (Q := NoteQ W) (K := 4) Try.underlying22 (by kernel_rfl) (by decide) (fun n cs' y h => open_noteC h) hf
  simp [Value.cells] at hcs
  obtain ⟨rfl, rfl, rfl⟩ := hcs
  exact ⟨a, cap, l, rfl, notesAt_rows hr, h1, h2⟩

set_option maxRecDepth 100000 in
theorem open_relay {H : Type} {enc : TypeId × Value → H} {W : World} {b0 : Nat} {v : Value} {d : DataW H} {p : List MemPlace} (hv : Value.okWide Try.prog W .any b0 25 v) (h : DataW.Trod enc Try.prog W 0 (fun _ => true) true 25 v d p) :
    ∃ a cap l, v = .agg #[.slice a (List.length l) cap] ∧ NotesAt W a l ∧ l.length ≤ cap ∧ cap ≤ maxLen := by
  obtain ⟨cs, rfl, hsz⟩ := okWide_struct Try.underlying25 hv
  obtain ⟨fuel, hf⟩ := h
  have hf' : DataW.trod enc Try.prog W 0 (fun _ => true) true fuel 25 cs.toList = some (d, p) := hf
  obtain ⟨y0, m, _, hl, h0⟩ := trod_struct1 Try.underlying25 hf'
  have hl2 : cs.toList.length = 1 := hl.trans (by kernel_rfl)
  obtain ⟨cl⟩ := cs
  match cl, hl2 with
  | [v0], _ =>
    obtain ⟨a, cap, l, hcs, hr, h1, h2⟩ := open_rows (Q := NoteQ W) (K := 4) Try.underlying22 (by kernel_rfl) (by decide) (fun n cs' y h => open_noteC h) (show DataW.trod enc Try.prog W 0 (fun _ => true) true m 22 [v0] = some y0 from h0)
    simp only [List.cons.injEq, and_true] at hcs
    exact ⟨a, cap, l, by rw [hcs], notesAt_rows hr, h1, h2⟩
end Go.Proofs.Ytnhjebdlcbhkcag
