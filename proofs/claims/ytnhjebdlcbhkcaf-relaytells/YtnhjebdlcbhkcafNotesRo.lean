/- Rows of notes whose lists lie elsewhere. -/
import Derived.Test.YtnhjebdlcbhkcafNotesOwn
namespace Go.Proofs.Ytnhjebdlcbhkcaf
open Go.RowKit

/-- the cells of notes that lie there, and where their lists lie -/
theorem notes_rowsN {w : World} {q : Option Addr} {ds : List Nt} (h : NotesAt w q ds) : ∃ xs : List RN, xs.map RN.n = ds ∧ (∀ j u, (xs.flatMap RN.cells)[j]? = some u → ∃ b off, q = some ⟨b, off, none⟩ ∧ w.cell? ⟨b, off + j, none⟩ = some u) ∧ ∀ x ∈ xs, NtAt w x.n x.p x.q := by
  rcases h with rfl | ⟨b, o, rfl, hlt, hc⟩
  · exact ⟨[], rfl, fun j u h => by simp at h, fun x h => by simp at h⟩
  · have k : ∀ (l : List Nt) (o : Nat), (∀ i (h : i < l.length), ∃ p cp q cq, w.cell? ⟨b, o + i * 4, none⟩ = some (.int .i64 l[i].site) ∧ w.cell? ⟨b, o + i * 4 + 1, none⟩ = some (.int .i64 l[i].number) ∧ w.cell? ⟨b, o + i * 4 + 2, none⟩ = some (.slice p l[i].needs.length cp) ∧ w.cell? ⟨b, o + i * 4 + 3, none⟩ = some (.slice q l[i].deeds.length cq) ∧ NtAt w l[i] p q) → ∃ xs : List RN, xs.map RN.n = l ∧ (∀ j u, (xs.flatMap RN.cells)[j]? = some u → w.cell? ⟨b, o + j, none⟩ = some u) ∧ ∀ x ∈ xs, NtAt w x.n x.p x.q := by
      intro l
      induction l with
      | nil => intro o _; exact ⟨[], rfl, fun j u h => by simp at h, fun x h => by simp at h⟩
      | cons d l ih =>
        intro o h
        obtain ⟨xs, e, hx, hN⟩ := ih (o + 4) fun i hi => by
          obtain ⟨p, cp, q, cq, h0, h1, h2, h3, h4⟩ := h (i + 1) (by simpa using hi)
          have ea : o + (i + 1) * 4 = o + 4 + i * 4 := by omega
          rw [ea] at h0 h1 h2 h3
          exact ⟨p, cp, q, cq, h0, h1, h2, h3, h4⟩
        obtain ⟨p, cp, q, cq, h0, h1, h2, h3, h4⟩ := h 0 (by simp)
        refine ⟨⟨d, p, q, cp, cq⟩ :: xs, by rw [List.map_cons, e], fun j u hj => ?_, fun x hx' => ?_⟩
        · rw [List.flatMap_cons] at hj
          have hc : (⟨d, p, q, cp, cq⟩ : RN).cells.length = 4 := rfl
          rcases Nat.lt_or_ge j 4 with hlt | hge
          · rw [List.getElem?_append_left (by omega)] at hj
            rcases (show j = 0 ∨ j = 1 ∨ j = 2 ∨ j = 3 by omega) with rfl | rfl | rfl | rfl
            · exact h0.trans hj
            · exact h1.trans hj
            · exact h2.trans hj
            · exact h3.trans hj
          · rw [List.getElem?_append_right (by omega), hc] at hj
            have := hx _ _ hj
            rwa [show o + 4 + (j - 4) = o + j by omega] at this
        · rcases List.mem_cons.1 hx' with rfl | h
          · exact h4
          · exact hN x h
    obtain ⟨xs, e, hx, hN⟩ := k ds o fun i hi => hc i hi
    exact ⟨xs, e, fun j u hj => ⟨b, o, rfl, hx j u hj⟩, hN⟩

/-- an own row of notes whose lists lie there, wherever -/
theorem notes_ro {w : World} {base n : Nat} {p : Option Addr} {cap : Nat} {rs : List RN} (hown : w.ownsRow base 28 4 (.slice p n cap) n (rs.flatMap RN.cells)) (hn : rs.length = n) (hr : ∀ r ∈ rs, NtAt w r.n r.p r.q) : NotesAt w p (rs.map RN.n) := by
  subst hn
  have hown' := hown
  rcases hown.2 with ⟨e0, h0⟩ | ⟨g, c, cur, e1, _, _, _, _, _⟩
  · exact Or.inl (by rw [List.length_eq_zero_iff.1 h0]; rfl)
  simp only [Value.slice.injEq] at e1
  obtain ⟨rfl, _, _⟩ := e1
  refine Or.inr ⟨g, 0, rfl, (hown'.lt g rfl).2, fun i hi => ?_⟩
  have hi' : i < rs.length := by simpa using hi
  have fl : ∀ (l : List RN) (i : Nat) (hi : i < l.length) (j : Nat), j < 4 → (l.flatMap RN.cells)[i * 4 + j]? = l[i].cells[j]? := by
    intro l
    induction l with
    | nil => intro i h; simp at h
    | cons x l ih =>
      intro i h j hj
      have hc : x.cells.length = 4 := rfl
      cases i with
      | zero => rw [List.flatMap_cons, List.getElem?_append_left (by omega)]; simp
      | succ i =>
        rw [List.flatMap_cons, List.getElem?_append_right (by omega), hc]
        have := ih i (by simpa using h) j hj
        rw [show (i + 1) * 4 + j - 4 = i * 4 + j by omega]
        simpa using this
  have k : ∀ j (hj : j < 4), w.cell? ⟨g, 0 + i * 4 + j, none⟩ = rs[i].cells[j]? := fun j hj => by
    rw [Nat.zero_add]
    exact (hown'.cellAt (i * 4 + j) (by omega)).trans (fl rs i hi' j hj)
  have em : (rs.map RN.n)[i] = rs[i].n := by simp
  rw [em]
  exact ⟨rs[i].p, rs[i].cp, rs[i].q, rs[i].cq, k 0 (by decide), k 1 (by decide), k 2 (by decide), k 3 (by decide), hr _ (List.getElem_mem hi')⟩

end Go.Proofs.Ytnhjebdlcbhkcaf
