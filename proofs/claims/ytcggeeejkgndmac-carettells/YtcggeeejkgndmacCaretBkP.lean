/- What CaretBack asks, plainly. No Go text is walked here. -/
import Derived.Test.YtcggeeejkgndmacCaretPu
namespace Go.Proofs.Ytcggeeejkgndmac
open Go.RowKit

theorem of_err {l : List At} {g : List (List (Int × Int) × Int)} {n : Int} (h : (ofL l g n).2.2 ≠ 0) : (ofL l g n).1 = [] := by
  unfold ofL at h ⊢
  by_cases h1 : chkS l g ≠ 0
  · rw [if_pos h1]
  rw [if_neg h1] at h ⊢
  by_cases h2 : n < 0 ∨ (l.length : Int) < n
  · rw [if_pos h2]
  rw [if_neg h2] at h ⊢
  by_cases h3 : n = 0
  · rw [if_pos h3]
  rw [if_neg h3] at h ⊢
  cases hx : l[n.toNat - 1]? with
  | none => rfl
  | some x => rw [hx] at h; exact absurd rfl h

/-- where Of has no error: the beginning, or an atom's mark -/
theorem of_ok {l : List At} {g : List (List (Int × Int) × Int)} {n : Int} (h : (ofL l g n).2.2 = 0) : chkS l g = 0 ∧ ((n = 0 ∧ ofL l g n = ([], 0, 0)) ∨ ∃ k, ∃ hk : k < l.length, n = (k : Int) + 1 ∧ ofL l g n = (l[k].path, l[k].clock, 0)) := by
  unfold ofL at h ⊢
  by_cases h1 : chkS l g ≠ 0
  · rw [if_pos h1] at h; exact absurd h h1
  have h1' : chkS l g = 0 := by simpa using h1
  refine ⟨h1', ?_⟩
  rw [if_neg h1] at h ⊢
  by_cases h2 : n < 0 ∨ (l.length : Int) < n
  · rw [if_pos h2] at h; exact absurd h (by decide)
  rw [if_neg h2] at h ⊢
  by_cases h3 : n = 0
  · rw [if_pos h3]; exact Or.inl ⟨h3, rfl⟩
  rw [if_neg h3] at h ⊢
  have hk : n.toNat - 1 < l.length := by omega
  refine Or.inr ⟨n.toNat - 1, hk, by omega, ?_⟩
  rw [List.getElem?_eq_getElem hk]

theorem of_len {l : List At} {g : List (List (Int × Int) × Int)} (n : Int) : (ofL l g n).1.length ≤ 10 := by
  by_cases h : (ofL l g n).2.2 = 0
  · obtain ⟨h0, h1 | ⟨k, hk, _, h1⟩⟩ := of_ok h
    · rw [h1.2]; exact Nat.zero_le _
    · rw [h1]; exact (okPath (chkS_okL h0) k hk).2
  · rw [of_err h]; exact Nat.zero_le _

/-- a caret of a place is at that place -/
theorem at_of {l : List At} {g : List (List (Int × Int) × Int)} {n : Int} (h : (ofL l g n).2.2 = 0) : (((atL l g (ofL l g n).1 (ofL l g n).2.1).1 : Nat) : Int) = n ∧ (atL l g (ofL l g n).1 (ofL l g n).2.1).2 = 0 := by
  obtain ⟨h0, ⟨h2, h1⟩ | ⟨k, hk, h2, h1⟩⟩ := of_ok h
  · rw [h1]
    unfold atL
    rw [if_neg (by simpa using h0), if_pos ⟨rfl, rfl⟩, h2]
    exact ⟨rfl, rfl⟩
  · have hok := chkS_okL h0
    have hp := okPath hok k hk
    have hc := (hok.each l[k] (List.getElem_mem hk)).1
    rw [h1]
    unfold atL
    rw [if_neg (by simpa using h0), if_neg (by rintro ⟨e, _⟩; simp only at e; rw [e] at hp; exact absurd hp.1 (by decide)), if_neg (by simpa using hc), h2]
    simp only [caretN_back hok hk]
    exact ⟨by omega, trivial⟩

theorem ordM_nil {p : List (Int × Int)} (hp : 0 < p.length) (c : Int) : ordM [] 0 p c = -1 := by
  cases p with
  | nil => exact absurd hp (by decide)
  | cons x p => rfl

/-- carets of places stand as places do -/
theorem ord_of {l : List At} {g : List (List (Int × Int) × Int)} {a b : Int} (ha : (ofL l g a).2.2 = 0) (hb : (ofL l g b).2.2 = 0) :
    (decide (a < b) = decide (ordM (ofL l g a).1 (ofL l g a).2.1 (ofL l g b).1 (ofL l g b).2.1 < 0)) ∧ ((a == b) = (ordM (ofL l g a).1 (ofL l g a).2.1 (ofL l g b).1 (ofL l g b).2.1 == 0)) := by
  obtain ⟨h0, ⟨a2, a1⟩ | ⟨k, hk, a2, a1⟩⟩ := of_ok ha
  · obtain ⟨_, ⟨b2, b1⟩ | ⟨j, hj, b2, b1⟩⟩ := of_ok hb
    · rw [a1, b1, a2, b2]; decide
    · have hp := okPath (chkS_okL h0) j hj
      rw [a1, b1, a2, b2]
      simp only [ordM_nil hp.1]
      constructor
      · rw [decide_eq_true (by omega)]; rfl
      · rw [beq_eq_false_iff_ne.2 (by omega)]; rfl
  · have hok := chkS_okL h0
    obtain ⟨_, ⟨b2, b1⟩ | ⟨j, hj, b2, b1⟩⟩ := of_ok hb
    · have hp := okPath hok k hk
      have e : ordM l[k].path l[k].clock [] 0 = 1 := by
        have h1 := cmpM.anti (l[k].path, l[k].clock) ([], 0)
        have h2 : ordM l[k].path l[k].clock [] 0 = - ordM [] 0 l[k].path l[k].clock := h1
        rw [h2, ordM_nil hp.1]; rfl
      rw [a1, b1, a2, b2]
      simp only [e]
      constructor
      · rw [decide_eq_false (by omega)]; rfl
      · rw [beq_eq_false_iff_ne.2 (by omega)]; rfl
    · rw [a1, b1, a2, b2]
      show (decide ((k : Int) + 1 < (j : Int) + 1) = decide (ordA l[k] l[j] < 0)) ∧ (((k : Int) + 1 == (j : Int) + 1) = (ordA l[k] l[j] == 0))
      rcases Nat.lt_trichotomy k j with h | h | h
      · have h1 := hok.get hj h
        rw [decide_eq_true h1, decide_eq_true (by omega), beq_eq_false_iff_ne.2 (by omega), beq_eq_false_iff_ne.2 (by omega)]
        exact ⟨rfl, rfl⟩
      · subst h
        rw [cmpA.refl]
        simp
      · have h1 := hok.get hk h
        have h2 := cmpA.anti l[k] l[j]
        rw [decide_eq_false (by omega), decide_eq_false (by omega), beq_eq_false_iff_ne.2 (by omega), beq_eq_false_iff_ne.2 (by omega)]
        exact ⟨rfl, rfl⟩
end Go.Proofs.Ytcggeeejkgndmac
