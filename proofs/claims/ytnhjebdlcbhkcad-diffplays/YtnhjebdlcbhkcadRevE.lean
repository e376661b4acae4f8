/- Contract of slices.Reverse at edits. -/
import Derived.Test.YtnhjebdlcbhkcadDSign
import Derived.Test.YtnhjebdlcbhkcadDStepA
import Derived.Shelf.SlicesQ.Reverse
import Derived.Ground.SlgnProg
namespace Go.Proofs.Ytnhjebdlcbhkcad
open Go.RowKit Go.Shelf Go.Lib

shelf_lay_g SlLaysE0.n35 Slgn 35 at Try 51 as reverseEd
instance : Inhabited Ed := ⟨⟨0, 0, 0, ⟨#[]⟩⟩⟩

theorem flatE_cons (e : Ed) (l : List Ed) : flatE (e :: l) = edCells e ++ flatE l := by unfold flatE; simp
theorem flatE_at : ∀ (l : List Ed) (t : Nat), t < l.length * 4 → (flatE l)[t]? = some ((edCells l.toArray[t / 4]!)[t % 4]!)
  | [], t, h => by simp at h
  | e :: l, t, h => by
    rw [flatE_cons]
    rcases Nat.lt_or_ge t 4 with h4 | h4
    · rw [List.getElem?_append_left (by simpa [edCells] using h4)]
      rcases (show t = 0 ∨ t = 1 ∨ t = 2 ∨ t = 3 by omega) with rfl | rfl | rfl | rfl <;> rfl
    · rw [List.getElem?_append_right (by simpa [edCells] using h4)]
      have hl : (edCells e).length = 4 := rfl
      rw [hl]
      simp only [List.length_cons] at h
      rw [flatE_at l (t - 4) (by omega)]
      have e1 : t / 4 = (t - 4) / 4 + 1 := by omega
      have e2 : t % 4 = (t - 4) % 4 := by omega
      rw [e1, e2]
      congr 3
      have h5 : (t - 4) / 4 < l.length := by omega
      rw [getElem!_pos _ _ (by simpa using h5), getElem!_pos _ _ (by simpa using h5)]
      simp

theorem flatK_E (l : List Ed) {j : Nat} (hj : j < l.length * 4) : (flatE l)[j]? = some ((Sort.flatK edCells 4 l.toArray)[j]!) := by
  rw [flatE_at l j hj]
  rw [Sort.get_flatK edCells 4 l.toArray j (by simpa using hj)]

theorem heap_putRow_other {α : Type} [Inhabited α] (enc : α → Value) (w : World) (blk off : Nat) (d : Array α) (k : Nat) (h : k ≠ blk) : (Sort.putRow enc w blk off d).heap[k]? = w.heap[k]? := by
  unfold Sort.putRow Sort.mapBlock
  rw [Array.getElem?_modify]
  rw [if_neg (fun e => h e.symm)]

/-- edits that can be read at a place -/
def EdsAt (w : World) (p : Option Addr) (c : Nat) (l : List Ed) : Prop := (p = none ∧ l = [] ∧ c = 0) ∨ ∃ g, p = some ⟨g, 0, none⟩ ∧ g < w.heap.size ∧ ∀ j u, (flatE l)[j]? = some u → w.cell? ⟨g, j, none⟩ = some u
theorem EdsAt.below {w w' : World} {p : Option Addr} {c : Nat} {l : List Ed} (h : EdsAt w p c l) (hb : Below w.heap.size w w') : EdsAt w' p c l := by
  rcases h with h | ⟨g, e, hg, hc⟩
  · exact Or.inl h
  · exact Or.inr ⟨g, e, Nat.lt_of_lt_of_le hg hb.size, fun j u hj => (hb.cell (p := ⟨g, j, none⟩) hg).trans (hc j u hj)⟩

theorem OwnsE.eds {w : World} {base : Nat} {p : Option Addr} {n c : Nat} {l : List Ed} (h : OwnsE w base (.slice p n c) l) : EdsAt w p c l := by
  rcases h.2 with ⟨e, hn⟩ | ⟨g, cap, cur, e, _, hh, _⟩
  · injection e with e1 e2 e3
    exact Or.inl ⟨e1, List.eq_nil_of_length_eq_zero hn, e3⟩
  · injection e with e1 e2 e3
    subst e1
    exact Or.inr ⟨g, rfl, (Array.getElem?_eq_some_iff.1 hh).1, fun j u hj => by have := World.ownsRow.cells h (g := g) (by subst e2 e3; rfl) j u hj; rwa [Addr.add_lit, Nat.zero_add] at this⟩

set_option maxRecDepth 100000 in
theorem revE_any (base : Nat) (p : Option Addr) (c : Nat) (l : List Ed) (w : World) (h : OwnsE w base (.slice p l.length c) l) (hl : l.length ≤ 1000) :
    Calls Try.prog 51 #[.slice p l.length c] w fun e w' => e = .returned (.tuple #[]) ∧ EdsAt w' p c l.reverse ∧ w'.os = w.os ∧ w'.tape = w.tape ∧ w'.output = w.output ∧ w'.heap.size = w.heap.size ∧ (∀ k, p.map Addr.block ≠ some k → w'.heap[k]? = w.heap[k]?) ∧ (∀ a, w'.frozen? a = w.frozen? a) := by
  rcases h.2 with ⟨e0, hn⟩ | ⟨g, cap, cur, e0, hb, hh, _⟩
  · injection e0 with e1 e2 e3
    subst e1 e3
    have hl0 : l = [] := List.eq_nil_of_length_eq_zero hn
    subst hl0
    refine (AnyQ.slices_Reverse_empty reverseEd none 0 w).mono ?_
    rintro e w' ⟨rfl, n, rfl⟩
    exact ⟨rfl, Or.inl ⟨rfl, rfl, rfl⟩, rfl, rfl, rfl, rfl, fun _ _ => rfl, fun _ => rfl⟩
  · injection e0 with e1 e2 e3
    subst e1 e3
    have hc := World.ownsRow.cells h (g := g) rfl
    have hH : Sort.HoldsK edCells 4 w g 0 l.toArray := by
      intro j hj
      have hj' : j < l.length * 4 := by simpa using hj
      refine ⟨?_, by simp [World.frozen?, hh]⟩
      have := hc j _ (flatK_E l hj')
      rw [Addr.add_lit] at this
      exact this
    have HR := AnyQ.slices_Reverse reverseEd 4 Try.isAgg45 Try.sizeOf45 edCells (fun _ => rfl) (fun x v hv => flatE_one [x] v (by simpa [flatE] using hv)) g 0 c l.toArray w hH (by simp; omega)
    rw [List.size_toArray] at HR
    refine HR.mono ?_
    rintro e w' ⟨rfl, n, rfl⟩
    have hH2 := Sort.holdsK_putRowK edCells 4 (Sort.ahead w n) g 0 l.toArray l.reverse.toArray (Sort.holdsK_ahead edCells 4 w n g 0 l.toArray hH) (by rw [List.size_toArray, List.size_toArray, List.length_reverse])
    rw [List.reverse_toArray]
    refine ⟨rfl, Or.inr ⟨g, rfl, ?_, fun j u hj => ?_⟩, rfl, rfl, rfl, ?_, fun k hk => ?_, fun a => ?_⟩
    · show g < (Sort.putRow id (Sort.ahead w n) g 0 _).heap.size
      rw [Sort.size_putRow]; exact (Array.getElem?_eq_some_iff.1 hh).1
    · have hj2 : j < l.reverse.length * 4 := by
        have := (List.getElem?_eq_some_iff.1 hj).1
        rwa [flatE_len] at this
      rw [flatK_E _ hj2] at hj
      injection hj with hj
      subst hj
      have := (hH2 j (by simpa using hj2)).1
      rw [Nat.zero_add] at this
      exact this
    · show (Sort.putRow id (Sort.ahead w n) g 0 _).heap.size = _
      rw [Sort.size_putRow]; rfl
    · exact heap_putRow_other id _ g 0 _ k (fun e => hk (by rw [e]; rfl))
    · show (Sort.putRow id (Sort.ahead w n) g 0 _).frozen? a = _
      rw [Sort.frozen?_putRow]; rfl
end Go.Proofs.Ytnhjebdlcbhkcad
