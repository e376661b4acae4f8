/- Contract of wire's reader: notes. -/
import Derived.Test.YtnhjebdlcbhkcafRdListD
import Derived.Test.YtnhjebdlcbhkcafNoteC
namespace Go.Proofs.Ytnhjebdlcbhkcaf
open Go.RowKit

/-- a note whose lists are the call's own -/
structure NtOwn (w : World) (base : Nat) (n : Nt) (p q : Option Addr) (cp cq : Nat) : Prop where
  nl : n.needs.length ≤ 255
  dl : n.deeds.length ≤ 255
  needs : w.ownsRow base 3 1 (.slice p n.needs.length cp) n.needs.length (n.needs.map (Value.int .i64))
  deeds : ∃ rs : List RD, rs.map RD.d = n.deeds ∧ RowOwn 54 7 RD.cells DdOwn w base (.slice q rs.length cq) rs
theorem NtOwn.far {w w' : World} {base N : Nat} {n : Nt} {p q : Option Addr} {cp cq : Nat} (h : NtOwn w base n p q cp cq) (hN : N < base) (hg : w.grownBy w' (some N)) : NtOwn w' base n p q cp cq := by
  obtain ⟨rs, e, hd⟩ := h.deeds
  exact ⟨h.nl, h.dl, h.needs.kept hg (Or.inr (own_apart h.needs hN)), rs, e, hd.far (DdOwn.stays N) hN hg⟩

theorem steps_own {w : World} {base : Nat} {p : Option Addr} {cap : Nat} {l : List (Int × Int)} (h : w.ownsRow base 77 2 (.slice p l.length cap) l.length (flatS l)) : StepsAt w p l := by
  have h' := h
  rcases h.2 with ⟨_, h0⟩ | ⟨g, c, cur, e1, _⟩
  · exact Or.inl (List.length_eq_zero_iff.1 h0)
  · simp only [Value.slice.injEq] at e1
    obtain ⟨rfl, _, _⟩ := e1
    exact stepsAt_owns h' rfl
theorem deeds_own {w : World} {base : Nat} {p : Option Addr} {cap : Nat} {rs : List RD} (h : RowOwn 54 7 RD.cells DdOwn w base (.slice p rs.length cap) rs) : DeedsAt w p (rs.map RD.d) := by
  obtain ⟨hown, hr⟩ := h
  have hown' := hown
  rcases hown.2 with ⟨e0, h0⟩ | ⟨g, c, cur, e1, _, _, _, _, _⟩
  · exact Or.inl (by rw [List.length_eq_zero_iff.1 h0]; rfl)
  simp only [Value.slice.injEq] at e1
  obtain ⟨rfl, _, _⟩ := e1
  refine Or.inr ⟨g, 0, rfl, (hown'.lt g rfl).2, fun i hi => ?_⟩
  have hi' : i < rs.length := by simpa using hi
  have fl : ∀ (l : List RD) (i : Nat) (hi : i < l.length) (j : Nat), j < 7 → (l.flatMap RD.cells)[i * 7 + j]? = l[i].cells[j]? := by
    intro l
    induction l with
    | nil => intro i h; simp at h
    | cons x l ih =>
      intro i h j hj
      have hc : x.cells.length = 7 := rfl
      cases i with
      | zero => rw [List.flatMap_cons, List.getElem?_append_left (by omega)]; simp
      | succ i =>
        rw [List.flatMap_cons, List.getElem?_append_right (by omega), hc]
        have := ih i (by simpa using h) j hj
        rw [show (i + 1) * 7 + j - 7 = i * 7 + j by omega]
        simpa using this
  have k : ∀ j (hj : j < 7), w.cell? ⟨g, 0 + i * 7 + j, none⟩ = rs[i].cells[j]? := fun j hj => by
    rw [Nat.zero_add]
    exact (hown'.cellAt (i * 7 + j) (by omega)).trans (fl rs i hi' j hj)
  have em : (rs.map RD.d)[i] = rs[i].d := by simp
  have hx := hr _ (List.getElem_mem hi')
  have r1 := hx.rl
  have r2 := hx.ml
  have r3 := hx.tl
  have r4 := hx.n0
  have r5 := hx.n1
  rw [em]
  exact ⟨rs[i].p, rs[i].cp, rs[i].q, rs[i].cq, k 0 (by decide), k 1 (by decide), k 2 (by decide), k 3 (by decide), k 4 (by decide), k 5 (by decide), k 6 (by decide), ⟨steps_own hx.run, steps_own hx.mark, by unfold maxLen; omega, by unfold maxLen; omega, by unfold maxLen; omega⟩, by omega, by omega⟩

theorem ints_own {w : World} {base : Nat} {p : Option Addr} {c : Nat} {xs : List Int} (hown : w.ownsRow base 3 1 (.slice p xs.length c) xs.length (xs.map (Value.int .i64))) : IntsAt w p xs := by
  by_cases he : xs = []
  · exact Or.inl he
  have hpos : 0 < xs.length := List.length_pos_iff.2 he
  obtain ⟨g, cap, e⟩ := owns_form hown hpos
  cases e
  refine Or.inr ⟨g, 0, rfl, (hown.lt g rfl).2, fun i hi => ?_⟩
  have := hown.cellAt i (by omega)
  rw [Nat.zero_add, this]
  simp

theorem NtOwn.at' {w : World} {base : Nat} {n : Nt} {p q : Option Addr} {cp cq : Nat} (h : NtOwn w base n p q cp cq) : NtAt w n p q := by
  obtain ⟨rs, e, hd⟩ := h.deeds
  have h1 := h.nl
  have h2 := h.dl
  exact ⟨ints_own h.needs, by rw [← e]; exact deeds_own hd, by unfold maxLen; omega, by unfold maxLen; omega⟩

theorem flatMap_i64 : ∀ l : List Int, l.flatMap (fun y => [Value.int .i64 y]) = l.map (Value.int .i64)
  | [] => rfl
  | x :: l => by rw [List.flatMap_cons, flatMap_i64 l]; rfl

abbrev zeroN : Array Value := #[.int .i64 0, .int .i64 0, .slice none 0 0, .slice none 0 0]
def put4 (w : World) (N : Nat) (a b c d : Value) : World := (((w.setCell ⟨N, 0, none⟩ a).setCell ⟨N, 1, none⟩ b).setCell ⟨N, 2, none⟩ c).setCell ⟨N, 3, none⟩ d
theorem fill4 {w : World} {N : Nat} {t : TypeId} (h : Blk w N zeroN t) (a b c d : Value) : Blk (put4 w N a b c d) N #[a, b, c, d] t ∧ w.grownBy (put4 w N a b c d) (some N) := by
  refine ⟨(((h.set 0 a).set 1 b).set 2 c).set 3 d, ?_⟩
  unfold put4
  exact (((grownBy_set' w N 0 a).trans (grownBy_set' _ N 1 b)).trans (grownBy_set' _ N 2 c)).trans (grownBy_set' _ N 3 d)

end Go.Proofs.Ytnhjebdlcbhkcaf
