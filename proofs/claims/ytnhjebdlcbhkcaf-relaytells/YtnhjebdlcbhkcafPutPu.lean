import Derived.Test.YtnhjebdlcbhkcafPutLe
namespace Go.Proofs.Ytnhjebdlcbhkcaf
open Go.RowKit

theorem ordA_symm0 {x y : At} (h : ordA x y = 0) : ordA y x = 0 := by have := cmpA.anti y x; omega
theorem ordA_trans0 {x y z : At} (h : ordA x y = 0) (h' : ordA y z = 0) : ordA x z = 0 := by have := cmpA.eqv x y z h; omega

/-- each atom has a least one of its mark -/
theorem least_some : ∀ (S : List At) (y : At), y ∈ S → ∃ z, Least S z ∧ ordA z y = 0 ∧ z.sign ≤ y.sign
  | [], _, h => by simp at h
  | s :: T, y, h => by
    by_cases ht : ∃ t ∈ T, ordA t y = 0
    · obtain ⟨t, ht1, ht2⟩ := ht
      -- the least of the tail at a mark like y's
      obtain ⟨z, hz, hzt, _⟩ := least_some T t ht1
      have hzy := ordA_trans0 hzt ht2
      by_cases hs : ordA s y = 0 ∧ s.sign < z.sign
      · refine ⟨s, ⟨List.mem_cons_self .., fun u hu e => ?_⟩, hs.1, ?_⟩
        · rcases List.mem_cons.1 hu with rfl | hu
          · exact Int.le_refl _
          · have := hz.2 u hu (ordA_trans0 (ordA_trans0 hzy (ordA_symm0 hs.1)) e)
            omega
        · rcases List.mem_cons.1 h with rfl | hy
          · exact Int.le_refl _
          · have := hz.2 y hy hzy; omega
      · have hzs : ordA z s = 0 → z.sign ≤ s.sign := fun e => by
          have h1 : ordA s y = 0 := ordA_trans0 (ordA_symm0 e) hzy
          have : ¬ s.sign < z.sign := fun h2 => hs ⟨h1, h2⟩
          omega
        refine ⟨z, ⟨List.mem_cons_of_mem _ hz.1, fun u hu e => ?_⟩, hzy, ?_⟩
        · rcases List.mem_cons.1 hu with rfl | hu
          · exact hzs e
          · exact hz.2 u hu e
        · rcases List.mem_cons.1 h with rfl | hy
          · exact hzs hzy
          · exact hz.2 y hy hzy
    · have hy : y = s := by
        rcases List.mem_cons.1 h with e | e
        · exact e
        · exact absurd ⟨y, e, cmpA.refl y⟩ ht
      subst hy
      refine ⟨y, ⟨List.mem_cons_self .., fun u hu e => ?_⟩, cmpA.refl y, Int.le_refl _⟩
      rcases List.mem_cons.1 hu with rfl | hu
      · exact Int.le_refl _
      · exact absurd ⟨u, hu, ordA_symm0 e⟩ ht

/-- the least of the least and more -/
theorem least_least {P S T : List At} (h : ∀ x, x ∈ P ↔ Least S x) (z : At) : Least (P ++ T) z ↔ Least (S ++ T) z := by
  constructor
  · rintro ⟨h1, h2⟩
    refine ⟨?_, fun y hy e => ?_⟩
    · rcases List.mem_append.1 h1 with g | g
      · exact List.mem_append_left _ ((h z).1 g).1
      · exact List.mem_append_right _ g
    · rcases List.mem_append.1 hy with g | g
      · obtain ⟨y', hy', e1, e2⟩ := least_some S y g
        have := h2 y' (List.mem_append_left _ ((h y').2 hy')) (ordA_trans0 e (ordA_symm0 e1))
        omega
      · exact h2 y (List.mem_append_right _ g) e
  · rintro ⟨h1, h2⟩
    refine ⟨?_, fun y hy e => ?_⟩
    · rcases List.mem_append.1 h1 with g | g
      · exact List.mem_append_left _ ((h z).2 ⟨g, fun y hy => h2 y (List.mem_append_left _ hy)⟩)
      · exact List.mem_append_right _ g
    · rcases List.mem_append.1 hy with g | g
      · exact h2 y (List.mem_append_left _ ((h y).1 g).1) e
      · exact h2 y (List.mem_append_right _ g) e

theorem putL_least {l : List At} (hl : l.Pairwise (fun x y => ordA x y < 0)) : ∀ m : List At, (putL l m).Pairwise (fun x y => ordA x y < 0) ∧ ∀ z, z ∈ putL l m ↔ Least (l ++ m) z := by
  intro m
  suffices h : ∀ (m L S : List At), L.Pairwise (fun x y => ordA x y < 0) → (∀ z, z ∈ L ↔ Least S z) → (putL L m).Pairwise (fun x y => ordA x y < 0) ∧ ∀ z, z ∈ putL L m ↔ Least (S ++ m) z by
    exact h m l l hl (fun z => (rises_least hl z).symm)
  intro m
  induction m with
  | nil => intro L S h1 h2; exact ⟨h1, fun z => by rw [List.append_nil]; exact h2 z⟩
  | cons a m ih =>
    intro L S h1 h2
    obtain ⟨q1, q2⟩ := putA_least a L h1
    have := ih (putA a L false) (S ++ [a]) q1 (fun z => by
      rw [q2 z, ← least_least h2 z]
      exact least_congr (fun y => by simp [List.mem_append]; constructor <;> (rintro (h | h) <;> simp [h])) z)
    rw [List.append_assoc] at this
    exact this

/-- in whatever order .. -/
theorem putL_comm {l m : List At} (hl : l.Pairwise (fun x y => ordA x y < 0)) (hm : m.Pairwise (fun x y => ordA x y < 0)) : putL l m = putL m l := by
  obtain ⟨a1, a2⟩ := putL_least hl m
  obtain ⟨b1, b2⟩ := putL_least hm l
  refine rises_eq a1 b1 (fun z => ?_)
  rw [a2 z, b2 z]
  exact least_congr (fun y => by rw [List.mem_append, List.mem_append]; exact Or.comm) z

/-- .. and however grouped -/
theorem putL_assoc {l m n : List At} (hl : l.Pairwise (fun x y => ordA x y < 0)) (hm : m.Pairwise (fun x y => ordA x y < 0)) : putL (putL l m) n = putL l (putL m n) := by
  obtain ⟨a1, a2⟩ := putL_least hl m
  obtain ⟨b1, b2⟩ := putL_least hm n
  obtain ⟨c1, c2⟩ := putL_least a1 n
  obtain ⟨d1, d2⟩ := putL_least hl (putL m n)
  refine rises_eq c1 d1 (fun z => ?_)
  rw [c2 z, d2 z, least_least a2 z, List.append_assoc]
  rw [least_congr (S := l ++ putL m n) (T := putL m n ++ l) (fun y => by rw [List.mem_append, List.mem_append]; exact Or.comm) z, least_least b2 z]
  exact least_congr (fun y => ⟨fun h => List.mem_append.2 ((List.mem_append.1 h).symm), fun h => List.mem_append.2 ((List.mem_append.1 h).symm)⟩) z
end Go.Proofs.Ytnhjebdlcbhkcaf
