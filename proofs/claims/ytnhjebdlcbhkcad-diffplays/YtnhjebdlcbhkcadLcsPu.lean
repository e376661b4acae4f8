/- Pure: the longest row that two lists have in common. -/
import Derived.Test.YtnhjebdlcbhkcadLeaf
namespace Go.Proofs.Ytnhjebdlcbhkcad

def lcs : List UInt8 → List UInt8 → Nat
  | [], _ => 0
  | _ :: _, [] => 0
  | x :: a, y :: b => if x = y then lcs a b + 1 else max (lcs a (y :: b)) (lcs (x :: a) b)

theorem lcs_nil (a : List UInt8) : lcs a [] = 0 := by cases a <;> simp [lcs]

/-- some row of that length is part of both -/
theorem lcs_has : ∀ a b : List UInt8, ∃ c : List UInt8, c.length = lcs a b ∧ c.Sublist a ∧ c.Sublist b
  | [], b => ⟨[], by simp [lcs], List.nil_sublist _, List.nil_sublist _⟩
  | x :: a, [] => ⟨[], by simp [lcs], List.nil_sublist _, List.nil_sublist _⟩
  | x :: a, y :: b => by
    unfold lcs
    by_cases h : x = y
    · rw [if_pos h]
      obtain ⟨c, h1, h2, h3⟩ := lcs_has a b
      subst h
      exact ⟨x :: c, by rw [List.length_cons, h1], h2.cons_cons x, h3.cons_cons x⟩
    · rw [if_neg h]
      rcases Nat.le_total (lcs a (y :: b)) (lcs (x :: a) b) with h' | h'
      · obtain ⟨c, h1, h2, h3⟩ := lcs_has (x :: a) b
        exact ⟨c, by rw [h1, Nat.max_eq_right h'], h2, h3.cons y⟩
      · obtain ⟨c, h1, h2, h3⟩ := lcs_has a (y :: b)
        exact ⟨c, by rw [h1, Nat.max_eq_left h'], h2.cons x, h3⟩
termination_by a b => a.length + b.length

/-- none is longer -/
theorem lcs_top : ∀ (a b c : List UInt8), c.Sublist a → c.Sublist b → c.length ≤ lcs a b
  | [], b, c, h1, h2 => by rw [List.sublist_nil.1 h1]; simp
  | x :: a, [], c, h1, h2 => by rw [List.sublist_nil.1 h2]; simp
  | x :: a, y :: b, c, h1, h2 => by
    unfold lcs
    by_cases h : x = y
    · rw [if_pos h]
      subst h
      cases c with
      | nil => simp
      | cons z c =>
        have h3 : c.Sublist a := by
          cases h1 with
          | cons _ h => exact (List.sublist_cons_self z c).trans h
          | cons_cons _ h => exact h
        have h4 : c.Sublist b := by
          cases h2 with
          | cons _ h => exact (List.sublist_cons_self z c).trans h
          | cons_cons _ h => exact h
        have := lcs_top a b c h3 h4
        rw [List.length_cons]; omega
    · rw [if_neg h]
      cases h1 with
      | cons _ h1 => exact Nat.le_trans (lcs_top a (y :: b) c h1 h2) (Nat.le_max_left ..)
      | cons_cons _ h1 =>
        cases h2 with
        | cons _ h2 => exact Nat.le_trans (lcs_top (x :: a) b _ (h1.cons_cons x) h2) (Nat.le_max_right ..)
        | cons_cons _ h2 => exact absurd rfl h
termination_by a b => a.length + b.length

theorem lcs_comm (a b : List UInt8) : lcs a b = lcs b a := by
  obtain ⟨c, h1, h2, h3⟩ := lcs_has a b
  obtain ⟨d, k1, k2, k3⟩ := lcs_has b a
  have h := lcs_top b a c h3 h2
  have k := lcs_top a b d k3 k2
  omega

theorem lcs_reverse (a b : List UInt8) : lcs a.reverse b.reverse = lcs a b := by
  obtain ⟨c, h1, h2, h3⟩ := lcs_has a b
  obtain ⟨d, k1, k2, k3⟩ := lcs_has a.reverse b.reverse
  have h := lcs_top a.reverse b.reverse c.reverse h2.reverse h3.reverse
  have k := lcs_top a b d.reverse (List.reverse_sublist.1 (by simpa using k2)) (List.reverse_sublist.1 (by simpa using k3))
  simp only [List.length_reverse] at h k
  omega

/-- two rows within one: what they have in common -/
theorem sub_both : ∀ {c x y : List UInt8}, x.Sublist c → y.Sublist c → ∃ z : List UInt8, z.Sublist x ∧ z.Sublist y ∧ x.length + y.length ≤ z.length + c.length
  | [], x, y, h1, h2 => ⟨[], List.nil_sublist _, List.nil_sublist _, by rw [List.sublist_nil.1 h1, List.sublist_nil.1 h2]; simp⟩
  | u :: c, x, y, h1, h2 => by
    cases h1 with
    | cons _ h1 =>
      cases h2 with
      | cons _ h2 =>
        obtain ⟨z, z1, z2, z3⟩ := sub_both h1 h2
        exact ⟨z, z1, z2, by rw [List.length_cons]; omega⟩
      | cons_cons _ h2 =>
        obtain ⟨z, z1, z2, z3⟩ := sub_both h1 h2
        exact ⟨z, z1, z2.cons u, by rw [List.length_cons, List.length_cons]; omega⟩
    | cons_cons _ h1 =>
      cases h2 with
      | cons _ h2 =>
        obtain ⟨z, z1, z2, z3⟩ := sub_both h1 h2
        exact ⟨z, z1.cons u, z2, by rw [List.length_cons, List.length_cons]; omega⟩
      | cons_cons _ h2 =>
        obtain ⟨z, z1, z2, z3⟩ := sub_both h1 h2
        exact ⟨u :: z, z1.cons_cons u, z2.cons_cons u, by simp only [List.length_cons]; omega⟩

theorem lcs_three (a b c : List UInt8) : lcs a c + lcs c b ≤ lcs a b + c.length := by
  obtain ⟨x, h1, h2, h3⟩ := lcs_has a c
  obtain ⟨y, k1, k2, k3⟩ := lcs_has c b
  obtain ⟨z, z1, z2, z3⟩ := sub_both h3 k2
  have := lcs_top a b z (z1.trans h2) (z2.trans k3)
  omega

theorem lcs_le (a b : List UInt8) : lcs a b ≤ a.length ∧ lcs a b ≤ b.length := by
  obtain ⟨c, h1, h2, h3⟩ := lcs_has a b
  have := h2.length_le
  have := h3.length_le
  omega

/-- how far two texts are apart -/
def far (a b : List UInt8) : Nat := a.length + b.length - 2 * lcs a b

theorem far_comm (a b : List UInt8) : far a b = far b a := by unfold far; rw [lcs_comm]; omega
theorem far_three (a b c : List UInt8) : far a b ≤ far a c + far c b := by
  unfold far
  have h1 := lcs_three a b c
  have h2 := lcs_le a b
  have h3 := lcs_le a c
  have h4 := lcs_le c b
  omega
theorem far_reverse (a b : List UInt8) : far a.reverse b.reverse = far a b := by unfold far; rw [lcs_reverse]; simp
theorem far_nil (b : List UInt8) : far [] b = b.length := by unfold far; simp [lcs]
theorem far_nil' (a : List UInt8) : far a [] = a.length := by unfold far; rw [lcs_nil]; simp
theorem far_same (x : UInt8) (a b : List UInt8) : far (x :: a) (x :: b) = far a b := by
  unfold far
  conv => lhs; unfold lcs
  rw [if_pos rfl]
  simp only [List.length_cons]; omega
theorem far_other {x y : UInt8} (h : x ≠ y) (a b : List UInt8) : far (x :: a) (y :: b) = min (far a (y :: b)) (far (x :: a) b) + 1 := by
  unfold far
  have h1 := lcs_le a (y :: b)
  have h2 := lcs_le (x :: a) b
  conv => lhs; unfold lcs
  rw [if_neg h]
  simp only [List.length_cons] at *
  omega
end Go.Proofs.Ytnhjebdlcbhkcad
