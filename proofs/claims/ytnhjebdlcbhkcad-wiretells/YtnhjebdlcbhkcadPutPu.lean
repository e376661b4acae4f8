import Derived.Test.YtnhjebdlcbhkcadLeast
namespace Go.Proofs.Ytnhjebdlcbhkcad
open Go.RowKit

theorem least_congr {S T : List At} (h : ∀ x, x ∈ S ↔ x ∈ T) (z : At) : Least S z ↔ Least T z := by
  unfold Least
  rw [h z]
  exact and_congr_right fun _ => ⟨fun g y hy => g y ((h y).2 hy), fun g y hy => g y ((h y).1 hy)⟩

theorem rises_least {l : List At} (h : l.Pairwise (fun x y => ordA x y < 0)) (z : At) : Least l z ↔ z ∈ l := by
  refine ⟨fun g => g.1, fun g => ⟨g, fun y hy e => ?_⟩⟩
  obtain ⟨i, hi, rfl⟩ := List.mem_iff_getElem.1 g
  obtain ⟨j, hj, rfl⟩ := List.mem_iff_getElem.1 hy
  rcases Nat.lt_trichotomy i j with hij | rfl | hij
  · have := List.pairwise_iff_getElem.1 h i j hi hj hij; omega
  · exact Int.le_refl _
  · have h1 := List.pairwise_iff_getElem.1 h j i hj hi hij
    have h2 := cmpA.anti l[i] l[j]
    omega

theorem least_cons_far {x : At} {S : List At} (h : ∀ y ∈ S, ordA x y < 0) (z : At) : Least (x :: S) z ↔ z = x ∨ Least S z := by
  constructor
  · rintro ⟨h1, h2⟩
    rcases List.mem_cons.1 h1 with e | e
    · exact Or.inl e
    · exact Or.inr ⟨e, fun y hy => h2 y (List.mem_cons_of_mem _ hy)⟩
  · rintro (rfl | ⟨h1, h2⟩)
    · refine ⟨List.mem_cons_self .., fun y hy e => ?_⟩
      rcases List.mem_cons.1 hy with rfl | hy
      · exact Int.le_refl _
      · have := h y hy; omega
    · refine ⟨List.mem_cons_of_mem _ h1, fun y hy e => ?_⟩
      rcases List.mem_cons.1 hy with rfl | hy
      · have h3 := h z h1
        have h4 := cmpA.anti z y
        omega
      · exact h2 y hy e

theorem putA_true (a : At) : ∀ l : List At, (∀ x ∈ l, ordA a x < 0) → putA a l true = l
  | [], _ => rfl
  | x :: l, h => by
    have h1 := h x (List.mem_cons_self ..)
    have h2 := cmpA.anti a x
    have hs : stepPut a x true = ([x], true) := by unfold stepPut; rw [if_pos (by omega)]; rfl
    show (stepPut a x true).1 ++ putA a l (stepPut a x true).2 = _
    rw [hs, putA_true a l (fun y hy => h y (List.mem_cons_of_mem _ hy))]; rfl

theorem ordA_zero {x y : At} (h : ordA x y = 0) : x.path = y.path ∧ x.clock = y.clock := ordM_zero h

theorem putA_least (a : At) : ∀ l : List At, l.Pairwise (fun x y => ordA x y < 0) → (putA a l false).Pairwise (fun x y => ordA x y < 0) ∧ ∀ z, z ∈ putA a l false ↔ Least (a :: l) z
  | [], _ => by
    refine ⟨by simp [putA], fun z => ?_⟩
    rw [rises_least (by simp)]; simp [putA]
  | x :: l, h => by
    have p := List.pairwise_cons.1 h
    show ((stepPut a x false).1 ++ putA a l (stepPut a x false).2).Pairwise _ ∧ ∀ z, z ∈ (stepPut a x false).1 ++ putA a l (stepPut a x false).2 ↔ _
    rcases (show 0 < ordA x a ∨ ordA x a = 0 ∨ ordA x a < 0 by omega) with o | o | o
    · have hs : stepPut a x false = ([a, x], true) := by unfold stepPut; rw [if_pos o]; rfl
      have hax : ordA a x < 0 := by have := cmpA.anti a x; omega
      have hal : ∀ y ∈ l, ordA a y < 0 := fun y hy => ordA_trans hax (p.1 y hy)
      have hr : (a :: x :: l).Pairwise (fun x y => ordA x y < 0) := List.pairwise_cons.2 ⟨fun y hy => by
        rcases List.mem_cons.1 hy with rfl | hy
        · exact hax
        · exact hal y hy, h⟩
      rw [hs, putA_true a l hal]
      exact ⟨hr, fun z => (rises_least hr z).symm⟩
    · have hs : stepPut a x false = ([lessSign a x], true) := by unfold stepPut; rw [if_neg (by omega), if_pos o]
      have hal : ∀ y ∈ l, ordA a y < 0 := fun y hy => by
        have := p.1 y hy
        have := cmpA.eqv x a y o
        omega
      obtain ⟨e1, e2⟩ := ordA_zero o
      have hle : lessSign a x = if a.sign < x.sign then a else x := by
        unfold lessSign
        obtain ⟨_, _, _⟩ := x
        obtain ⟨_, _, _⟩ := a
        simp only at e1 e2 ⊢
        subst e1 e2
        split <;> rfl
      rw [hs, putA_true a l hal, hle]
      have hrise : ∀ y ∈ l, ordA (if a.sign < x.sign then a else x) y < 0 := fun y hy => by
        split
        · exact hal y hy
        · exact p.1 y hy
      refine ⟨List.pairwise_cons.2 ⟨hrise, p.2⟩, fun z => ?_⟩
      have hoa : ordA a x = 0 := by have := cmpA.anti a x; omega
      show z ∈ (if a.sign < x.sign then a else x) :: l ↔ _
      rw [List.mem_cons, ← rises_least p.2 z]
      constructor
      · rintro (rfl | ⟨h1, h2⟩)
        · refine ⟨by split <;> simp, fun y hy e => ?_⟩
          rcases List.mem_cons.1 hy with rfl | hy
          · split <;> omega
          · rcases List.mem_cons.1 hy with rfl | hy
            · split <;> omega
            · have := hrise y hy; omega
        · refine ⟨by simp [h1], fun y hy e => ?_⟩
          have b1 := hal z h1
          have b2 := p.1 z h1
          have b3 := cmpA.anti z a
          have b4 := cmpA.anti z x
          rcases List.mem_cons.1 hy with rfl | hy
          · omega
          · rcases List.mem_cons.1 hy with rfl | hy
            · omega
            · exact h2 y hy e
      · rintro ⟨h1, h2⟩
        rcases List.mem_cons.1 h1 with rfl | h1
        · left
          have := h2 x (by simp) hoa
          by_cases c : z.sign < x.sign
          · rw [if_pos c]
          · rw [if_neg c]
            obtain ⟨_, _, _⟩ := x
            obtain ⟨_, _, _⟩ := z
            simp only at e1 e2 this c ⊢
            subst e1 e2
            congr 1
            omega
        · rcases List.mem_cons.1 h1 with rfl | h1
          · left
            have := h2 a (by simp) o
            rw [if_neg (by omega)]
          · exact Or.inr ⟨h1, fun y hy => h2 y (by simp [hy])⟩
    · have hs : stepPut a x false = ([x], false) := by unfold stepPut; rw [if_neg (by omega), if_neg (by omega)]
      obtain ⟨ih1, ih2⟩ := putA_least a l p.2
      rw [hs]
      have hx : ∀ y ∈ a :: l, ordA x y < 0 := fun y hy => by
        rcases List.mem_cons.1 hy with rfl | hy
        · exact o
        · exact p.1 y hy
      refine ⟨List.pairwise_cons.2 ⟨fun y hy => hx y ((ih2 y).1 hy).1, ih1⟩, fun z => ?_⟩
      show z ∈ x :: putA a l false ↔ _
      rw [List.mem_cons, ih2 z, ← least_cons_far hx z]
      exact least_congr (fun y => by simp only [List.mem_cons]; constructor <;> (rintro (h | h | h) <;> simp [h])) z
end Go.Proofs.Ytnhjebdlcbhkcad

namespace Go.Proofs.Ytnhjebdlcbhkcad
open Go.RowKit

theorem ordA_symm0 {x y : At} (h : ordA x y = 0) : ordA y x = 0 := by have := cmpA.anti y x; omega
theorem ordA_trans0 {x y z : At} (h : ordA x y = 0) (h' : ordA y z = 0) : ordA x z = 0 := by have := cmpA.eqv x y z h; omega

/-- each atom has a least one of its mark -/
theorem least_some : ∀ (S : List At) (y : At), y ∈ S → ∃ z, Least S z ∧ ordA z y = 0 ∧ z.sign ≤ y.sign
  | [], _, h => by simp at h
  | s :: T, y, h => by
    by_cases ht : ∃ t ∈ T, ordA t y = 0
    · obtain ⟨t, ht1, ht2⟩ := ht
      -- the least of the tail at a mark like y's
      obtain ⟨z, hz, hzt, _⟩ := least_some T t ht1
      have hzy := ordA_trans0 hzt ht2
      by_cases hs : ordA s y = 0 ∧ s.sign < z.sign
      · refine ⟨s, ⟨List.mem_cons_self .., fun u hu e => ?_⟩, hs.1, ?_⟩
        · rcases List.mem_cons.1 hu with rfl | hu
          · exact Int.le_refl _
          · have := hz.2 u hu (ordA_trans0 (ordA_trans0 hzy (ordA_symm0 hs.1)) e)
            omega
        · rcases List.mem_cons.1 h with rfl | hy
          · exact Int.le_refl _
          · have := hz.2 y hy hzy; omega
      · have hzs : ordA z s = 0 → z.sign ≤ s.sign := fun e => by
          have h1 : ordA s y = 0 := ordA_trans0 (ordA_symm0 e) hzy
          have : ¬ s.sign < z.sign := fun h2 => hs ⟨h1, h2⟩
          omega
        refine ⟨z, ⟨List.mem_cons_of_mem _ hz.1, fun u hu e => ?_⟩, hzy, ?_⟩
        · rcases List.mem_cons.1 hu with rfl | hu
          · exact hzs e
          · exact hz.2 u hu e
        · rcases List.mem_cons.1 h with rfl | hy
          · exact hzs hzy
          · exact hz.2 y hy hzy
    · have hy : y = s := by
        rcases List.mem_cons.1 h with e | e
        · exact e
        · exact absurd ⟨y, e, cmpA.refl y⟩ ht
      subst hy
      refine ⟨y, ⟨List.mem_cons_self .., fun u hu e => ?_⟩, cmpA.refl y, Int.le_refl _⟩
      rcases List.mem_cons.1 hu with rfl | hu
      · exact Int.le_refl _
      · exact absurd ⟨u, hu, ordA_symm0 e⟩ ht

/-- the least of the least and more -/
theorem least_least {P S T : List At} (h : ∀ x, x ∈ P ↔ Least S x) (z : At) : Least (P ++ T) z ↔ Least (S ++ T) z := by
  constructor
  · rintro ⟨h1, h2⟩
    refine ⟨?_, fun y hy e => ?_⟩
    · rcases List.mem_append.1 h1 with g | g
      · exact List.mem_append_left _ ((h z).1 g).1
      · exact List.mem_append_right _ g
    · rcases List.mem_append.1 hy with g | g
      · obtain ⟨y', hy', e1, e2⟩ := least_some S y g
        have := h2 y' (List.mem_append_left _ ((h y').2 hy')) (ordA_trans0 e (ordA_symm0 e1))
        omega
      · exact h2 y (List.mem_append_right _ g) e
  · rintro ⟨h1, h2⟩
    refine ⟨?_, fun y hy e => ?_⟩
    · rcases List.mem_append.1 h1 with g | g
      · exact List.mem_append_left _ ((h z).2 ⟨g, fun y hy => h2 y (List.mem_append_left _ hy)⟩)
      · exact List.mem_append_right _ g
    · rcases List.mem_append.1 hy with g | g
      · exact h2 y (List.mem_append_left _ ((h y).1 g).1) e
      · exact h2 y (List.mem_append_right _ g) e

theorem putL_least {l : List At} (hl : l.Pairwise (fun x y => ordA x y < 0)) : ∀ m : List At, (putL l m).Pairwise (fun x y => ordA x y < 0) ∧ ∀ z, z ∈ putL l m ↔ Least (l ++ m) z := by
  intro m
  suffices h : ∀ (m L S : List At), L.Pairwise (fun x y => ordA x y < 0) → (∀ z, z ∈ L ↔ Least S z) → (putL L m).Pairwise (fun x y => ordA x y < 0) ∧ ∀ z, z ∈ putL L m ↔ Least (S ++ m) z by
    exact h m l l hl (fun z => (rises_least hl z).symm)
  intro m
  induction m with
  | nil => intro L S h1 h2; exact ⟨h1, fun z => by rw [List.append_nil]; exact h2 z⟩
  | cons a m ih =>
    intro L S h1 h2
    obtain ⟨q1, q2⟩ := putA_least a L h1
    have := ih (putA a L false) (S ++ [a]) q1 (fun z => by
      rw [q2 z, ← least_least h2 z]
      exact least_congr (fun y => by simp [List.mem_append]; constructor <;> (rintro (h | h) <;> simp [h])) z)
    rw [List.append_assoc] at this
    exact this

/-- in whatever order .. -/
theorem putL_comm {l m : List At} (hl : l.Pairwise (fun x y => ordA x y < 0)) (hm : m.Pairwise (fun x y => ordA x y < 0)) : putL l m = putL m l := by
  obtain ⟨a1, a2⟩ := putL_least hl m
  obtain ⟨b1, b2⟩ := putL_least hm l
  refine rises_eq a1 b1 (fun z => ?_)
  rw [a2 z, b2 z]
  exact least_congr (fun y => by rw [List.mem_append, List.mem_append]; exact Or.comm) z

/-- .. and however grouped -/
theorem putL_assoc {l m n : List At} (hl : l.Pairwise (fun x y => ordA x y < 0)) (hm : m.Pairwise (fun x y => ordA x y < 0)) : putL (putL l m) n = putL l (putL m n) := by
  obtain ⟨a1, a2⟩ := putL_least hl m
  obtain ⟨b1, b2⟩ := putL_least hm n
  obtain ⟨c1, c2⟩ := putL_least a1 n
  obtain ⟨d1, d2⟩ := putL_least hl (putL m n)
  refine rises_eq c1 d1 (fun z => ?_)
  rw [c2 z, d2 z, least_least a2 z, List.append_assoc]
  rw [least_congr (S := l ++ putL m n) (T := putL m n ++ l) (fun y => by rw [List.mem_append, List.mem_append]; exact Or.comm) z, least_least b2 z]
  exact least_congr (fun y => ⟨fun h => List.mem_append.2 ((List.mem_append.1 h).symm), fun h => List.mem_append.2 ((List.mem_append.1 h).symm)⟩) z
end Go.Proofs.Ytnhjebdlcbhkcad
