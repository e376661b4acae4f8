import Derived.Test.YtnhjebdlcbhkcafLeast
namespace Go.Proofs.Ytnhjebdlcbhkcaf
open Go.RowKit

theorem least_congr {S T : List At} (h : ∀ x, x ∈ S ↔ x ∈ T) (z : At) : Least S z ↔ Least T z := by
  unfold Least
  rw [h z]
  exact and_congr_right fun _ => ⟨fun g y hy => g y ((h y).2 hy), fun g y hy => g y ((h y).1 hy)⟩

theorem rises_least {l : List At} (h : l.Pairwise (fun x y => ordA x y < 0)) (z : At) : Least l z ↔ z ∈ l := by
  refine ⟨fun g => g.1, fun g => ⟨g, fun y hy e => ?_⟩⟩
  obtain ⟨i, hi, rfl⟩ := List.mem_iff_getElem.1 g
  obtain ⟨j, hj, rfl⟩ := List.mem_iff_getElem.1 hy
  rcases Nat.lt_trichotomy i j with hij | rfl | hij
  · have := List.pairwise_iff_getElem.1 h i j hi hj hij; omega
  · exact Int.le_refl _
  · have h1 := List.pairwise_iff_getElem.1 h j i hj hi hij
    have h2 := cmpA.anti l[i] l[j]
    omega

theorem least_cons_far {x : At} {S : List At} (h : ∀ y ∈ S, ordA x y < 0) (z : At) : Least (x :: S) z ↔ z = x ∨ Least S z := by
  constructor
  · rintro ⟨h1, h2⟩
    rcases List.mem_cons.1 h1 with e | e
    · exact Or.inl e
    · exact Or.inr ⟨e, fun y hy => h2 y (List.mem_cons_of_mem _ hy)⟩
  · rintro (rfl | ⟨h1, h2⟩)
    · refine ⟨List.mem_cons_self .., fun y hy e => ?_⟩
      rcases List.mem_cons.1 hy with rfl | hy
      · exact Int.le_refl _
      · have := h y hy; omega
    · refine ⟨List.mem_cons_of_mem _ h1, fun y hy e => ?_⟩
      rcases List.mem_cons.1 hy with rfl | hy
      · have h3 := h z h1
        have h4 := cmpA.anti z y
        omega
      · exact h2 y hy e

theorem putA_true (a : At) : ∀ l : List At, (∀ x ∈ l, ordA a x < 0) → putA a l true = l
  | [], _ => rfl
  | x :: l, h => by
    have h1 := h x (List.mem_cons_self ..)
    have h2 := cmpA.anti a x
    have hs : stepPut a x true = ([x], true) := by unfold stepPut; rw [if_pos (by omega)]; rfl
    show (stepPut a x true).1 ++ putA a l (stepPut a x true).2 = _
    rw [hs, putA_true a l (fun y hy => h y (List.mem_cons_of_mem _ hy))]; rfl

theorem ordA_zero {x y : At} (h : ordA x y = 0) : x.path = y.path ∧ x.clock = y.clock := ordM_zero h

theorem putA_least (a : At) : ∀ l : List At, l.Pairwise (fun x y => ordA x y < 0) → (putA a l false).Pairwise (fun x y => ordA x y < 0) ∧ ∀ z, z ∈ putA a l false ↔ Least (a :: l) z
  | [], _ => by
    refine ⟨by simp [putA], fun z => ?_⟩
    rw [rises_least (by simp)]; simp [putA]
  | x :: l, h => by
    have p := List.pairwise_cons.1 h
    show ((stepPut a x false).1 ++ putA a l (stepPut a x false).2).Pairwise _ ∧ ∀ z, z ∈ (stepPut a x false).1 ++ putA a l (stepPut a x false).2 ↔ _
    rcases (show 0 < ordA x a ∨ ordA x a = 0 ∨ ordA x a < 0 by omega) with o | o | o
    · have hs : stepPut a x false = ([a, x], true) := by unfold stepPut; rw [if_pos o]; rfl
      have hax : ordA a x < 0 := by have := cmpA.anti a x; omega
      have hal : ∀ y ∈ l, ordA a y < 0 := fun y hy => ordA_trans hax (p.1 y hy)
      have hr : (a :: x :: l).Pairwise (fun x y => ordA x y < 0) := List.pairwise_cons.2 ⟨fun y hy => by
        rcases List.mem_cons.1 hy with rfl | hy
        · exact hax
        · exact hal y hy, h⟩
      rw [hs, putA_true a l hal]
      exact ⟨hr, fun z => (rises_least hr z).symm⟩
    · have hs : stepPut a x false = ([lessSign a x], true) := by unfold stepPut; rw [if_neg (by omega), if_pos o]
      have hal : ∀ y ∈ l, ordA a y < 0 := fun y hy => by
        have := p.1 y hy
        have := cmpA.eqv x a y o
        omega
      obtain ⟨e1, e2⟩ := ordA_zero o
      have hle : lessSign a x = if a.sign < x.sign then a else x := by
        unfold lessSign
        obtain ⟨_, _, _⟩ := x
        obtain ⟨_, _, _⟩ := a
        simp only at e1 e2 ⊢
        subst e1 e2
        split <;> rfl
      rw [hs, putA_true a l hal, hle]
      have hrise : ∀ y ∈ l, ordA (if a.sign < x.sign then a else x) y < 0 := fun y hy => by
        split
        · exact hal y hy
        · exact p.1 y hy
      refine ⟨List.pairwise_cons.2 ⟨hrise, p.2⟩, fun z => ?_⟩
      have hoa : ordA a x = 0 := by have := cmpA.anti a x; omega
      show z ∈ (if a.sign < x.sign then a else x) :: l ↔ _
      rw [List.mem_cons, ← rises_least p.2 z]
      constructor
      · rintro (rfl | ⟨h1, h2⟩)
        · refine ⟨by split <;> simp, fun y hy e => ?_⟩
          rcases List.mem_cons.1 hy with rfl | hy
          · split <;> omega
          · rcases List.mem_cons.1 hy with rfl | hy
            · split <;> omega
            · have := hrise y hy; omega
        · refine ⟨by simp [h1], fun y hy e => ?_⟩
          have b1 := hal z h1
          have b2 := p.1 z h1
          have b3 := cmpA.anti z a
          have b4 := cmpA.anti z x
          rcases List.mem_cons.1 hy with rfl | hy
          · omega
          · rcases List.mem_cons.1 hy with rfl | hy
            · omega
            · exact h2 y hy e
      · rintro ⟨h1, h2⟩
        rcases List.mem_cons.1 h1 with rfl | h1
        · left
          have := h2 x (by simp) hoa
          by_cases c : z.sign < x.sign
          · rw [if_pos c]
          · rw [if_neg c]
            obtain ⟨_, _, _⟩ := x
            obtain ⟨_, _, _⟩ := z
            simp only at e1 e2 this c ⊢
            subst e1 e2
            congr 1
            omega
        · rcases List.mem_cons.1 h1 with rfl | h1
          · left
            have := h2 a (by simp) o
            rw [if_neg (by omega)]
          · exact Or.inr ⟨h1, fun y hy => h2 y (by simp [hy])⟩
    · have hs : stepPut a x false = ([x], false) := by unfold stepPut; rw [if_neg (by omega), if_neg (by omega)]
      obtain ⟨ih1, ih2⟩ := putA_least a l p.2
      rw [hs]
      have hx : ∀ y ∈ a :: l, ordA x y < 0 := fun y hy => by
        rcases List.mem_cons.1 hy with rfl | hy
        · exact o
        · exact p.1 y hy
      refine ⟨List.pairwise_cons.2 ⟨fun y hy => hx y ((ih2 y).1 hy).1, ih1⟩, fun z => ?_⟩
      show z ∈ x :: putA a l false ↔ _
      rw [List.mem_cons, ih2 z, ← least_cons_far hx z]
      exact least_congr (fun y => by simp only [List.mem_cons]; constructor <;> (rintro (h | h | h) <;> simp [h])) z
end Go.Proofs.Ytnhjebdlcbhkcaf
