/- How edits that are handed in are read. -/
import Derived.Test.YtnhjebdlcbhkcadOpenE
import Derived.Test.YtnhjebdlcbhkcadPlayC
namespace Go.Proofs.Ytnhjebdlcbhkcad
open Go.ChangeShapes Go.WideShapes Go.ChangeAt Go.RowKit Go.Deep Go.Joins

theorem weights_all {H : Type} {P : Program} {e : TypeId} {d : DataW H} {m : Nat} : ∀ {l : List (DataW H)}, d ∈ l → m ∈ d.weights P e → m ∈ DataW.weightsAll P e l
  | x :: r, hd, hm => by
    simp only [DataW.weightsAll, List.mem_append]
    rcases List.mem_cons.1 hd with rfl | h
    · exact Or.inl hm
    · exact Or.inr (weights_all h hm)

/-- as open_rows; what is read of an element weighs no more than the whole -/
theorem open_rowsS {H : Type} {enc : TypeId × Value → H} {W : World} {α : Type} {Q : α → List Value → Prop} {K : Nat} {t e : TypeId} {fuel : Nat} {cs : List Value} {x : DataW H × List MemPlace} (ht : Try.prog.underlying t = some (.slice e)) (hK : Try.prog.cellsOf e = K) (hK0 : 0 < K)
    (hQ : ∀ n cs' y, DataW.trod enc Try.prog W 0 (fun _ => true) true n e cs' = some y → (∀ m ∈ y.1.weights Try.prog e, m ∈ x.1.weights Try.prog t) → ∃ z : α, Q z cs')
    (h : DataW.trod enc Try.prog W 0 (fun _ => true) true fuel t cs = some x) :
    ∃ a cap zs, cs = [.slice a (List.length zs) cap] ∧ RowsAt Q K W a zs ∧ zs.length ≤ cap ∧ cap ≤ maxLen := by
  rcases open_slice ht h with ⟨rfl, _⟩ | ⟨ad, len, cap, m, n, D, Pl, rfl, hb, hl, hm, hmm, hxx, hx⟩
  · exact ⟨none, 0, [], rfl, Or.inl rfl, Nat.le_refl _, Nat.zero_le _⟩
  · have hlm : len ≤ m := by rw [hmm]; split <;> omega
    rw [hK] at hx
    have each : ∀ i, i < len → ∃ z : α, ∃ cs', Q z cs' ∧ cs'.length = K ∧ ∀ j, j < K → W.cell? ((ad.add (i * K)).add j) = cs'[j]? := by
      intro i hi
      obtain ⟨cs', h1, h2⟩ := hx i (by omega)
      obtain ⟨z, hz⟩ := hQ _ _ _ h2 (by
        intro q hq
        rw [hxx]
        simp only [DataW.weights, ht, List.mem_cons, List.mem_append]
        exact Or.inr (Or.inl (weights_all (List.mem_map.2 ⟨i, List.mem_range.2 hi, rfl⟩) hq)))
      obtain ⟨_, h3, h4⟩ := World.cells?_some h1
      exact ⟨z, cs', hz, h3, h4⟩
    obtain ⟨q, hq⟩ : ∃ q : List α, q.length = len ∧ ∀ i (h : i < q.length), ∃ cs', Q q[i] cs' ∧ cs'.length = K ∧ ∀ j, j < K → W.cell? ((ad.add (i * K)).add j) = cs'[j]? := by
      clear hx hl hm hmm hlm h hxx
      induction len with
      | zero => exact ⟨[], rfl, fun i h => by simp at h⟩
      | succ len ih =>
        obtain ⟨q, hq1, hq2⟩ := ih (fun i hi => each i (by omega))
        obtain ⟨z, hz⟩ := each len (by omega)
        refine ⟨q ++ [z], by simp [hq1], fun i hi => ?_⟩
        by_cases e : i < q.length
        · rw [List.getElem_append_left e]; exact hq2 i e
        · have : i = len := by simp at hi; omega
          subst this
          rw [List.getElem_append_right (by omega)]
          simpa [hq1] using hz
    obtain ⟨hq1, hq2⟩ := hq
    subst hq1
    refine ⟨some ad, cap, q, rfl, ?_, hl, hm⟩
    by_cases hlen : q.length = 0
    · exact Or.inl (List.length_eq_zero_iff.1 hlen)
    · obtain ⟨b, off, spot⟩ := ad
      obtain ⟨cs', _, h3, h4⟩ := hq2 0 (by omega)
      have h0 := (h4 0 hK0).trans (List.getElem?_eq_getElem (by omega))
      have hspot : spot = none := by simpa [Addr.add] using World.cell?_spot h0
      subst hspot
      refine Or.inr ⟨b, off, rfl, by have := block_lt_of_cell h0; simpa [Addr.add] using this, fun i hi => ?_⟩
      obtain ⟨cs'', g1, g2, g3⟩ := hq2 i hi
      exact ⟨cs'', g1, g2, fun j hj => by have := g3 j hj; rw [add_plain, add_plain] at this; exact this⟩

/-- four cells: an edit, whose text weighs no more than is read -/
def EdQ (L : List Nat) (z : Ed) (cs : List Value) : Prop := cs = [.int .i64 z.kind, .int .i64 z.at', .int .i64 z.many, .string z.text] ∧ z.many ≤ 9223372036854775807 ∧ ByteArray.size z.text ∈ L

set_option maxRecDepth 100000 in
theorem open_editC {H : Type} {enc : TypeId × Value → H} {W : World} {n : Nat} {cs : List Value} {y : DataW H × List MemPlace} (h : DataW.trod enc Try.prog W 0 (fun _ => true) true n 45 cs = some y) : ∃ z, EdQ (y.1.weights Try.prog 45) z cs := by
  obtain ⟨y0, y1, y2, y3, m, hy, hl, h0, h1, h2, h3⟩ := trod_struct4 Try.underlying45 h
  have hl2 : cs.length = 4 := hl.trans (by kernel_rfl)
  match cs, hl2 with
  | [v0, v1, v2, v3], _ =>
    have e0 : DataW.trod enc Try.prog W 0 (fun _ => true) true m 3 [v0] = some y0 := h0
    have e1 : DataW.trod enc Try.prog W 0 (fun _ => true) true m 3 [v1] = some y1 := h1
    have e2 : DataW.trod enc Try.prog W 0 (fun _ => true) true m 3 [v2] = some y2 := h2
    have e3 : DataW.trod enc Try.prog W 0 (fun _ => true) true m 9 [v3] = some y3 := h3
    obtain ⟨k, hk, _⟩ := DataW.trod_int Try.underlying3 e0
    obtain ⟨p, hp, _⟩ := DataW.trod_int Try.underlying3 e1
    obtain ⟨q, hq, _, hwf⟩ := DataW.trod_int Try.underlying3 e2
    obtain ⟨s, hs, hx, _⟩ := DataW.trod_string Try.underlying9 e3
    simp only [List.cons.injEq, and_true] at hk hp hq hs
    subst hk hp hq hs
    refine ⟨⟨k, p, q, s⟩, rfl, (i64_wf hwf).2, ?_⟩
    subst hx hy
    simp [DataW.weights, DataW.weightsEach, Try.underlying45]

set_option maxRecDepth 100000 in
theorem open_edits {H : Type} {enc : TypeId × Value → H} {W : World} {b0 : Nat} {v : Value} {d : DataW H} {p : List MemPlace} (hv : Value.okWide Try.prog W .any b0 37 v) (h : DataW.Trod enc Try.prog W 0 (fun _ => true) true 37 v d p) :
    ∃ a cap l, v = .slice a (List.length l) cap ∧ RowEd W a l ∧ l.length ≤ maxLen ∧ ∀ x ∈ l, ByteArray.size x.text ∈ d.weights Try.prog 37 ∧ x.many ≤ 9223372036854775807 := by
  obtain ⟨a, len, cap, rfl⟩ := okWide_slice Try.underlying37 hv
  obtain ⟨fuel, hf⟩ := h
  obtain ⟨a', cap', l, hcs, hr, h1, h2⟩ := open_rowsS (Q := EdQ (d.weights Try.prog 37)) (K := 4) Try.underlying37 (by kernel_rfl) (by decide) (fun n cs' y h hw => by
    obtain ⟨z, z1, z2, z3⟩ := open_editC h
    exact ⟨z, z1, z2, hw _ z3⟩) hf
  simp [Value.cells] at hcs
  obtain ⟨rfl, rfl, rfl⟩ := hcs
  refine ⟨a, cap, l, rfl, ?_, by omega, ?_⟩
  · rcases hr with e | ⟨b, off, rfl, hb, hc⟩
    · exact Or.inl e
    · refine Or.inr ⟨b, off, rfl, hb, fun i hi => ?_⟩
      obtain ⟨cs', ⟨rfl, _, _⟩, _, hj⟩ := hc i hi
      exact ⟨hj 0 (by decide), hj 1 (by decide), hj 2 (by decide), hj 3 (by decide)⟩
  · intro x hx
    rcases hr with e | ⟨b, off, rfl, hb, hc⟩
    · subst e; simp at hx
    · obtain ⟨i, hi, rfl⟩ := List.getElem_of_mem hx
      obtain ⟨cs', ⟨_, h3, h4⟩, _⟩ := hc i hi
      exact ⟨h4, h3⟩
end Go.Proofs.Ytnhjebdlcbhkcad
