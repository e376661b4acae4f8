/- What is known of a log that is right, without a program. -/
import Derived.Test.YtnhjebdlcbhkcagPostC
import Derived.Test.YtnhjebdlcbhkcagPullC
namespace Go.Proofs.Ytnhjebdlcbhkcag

theorem chkFromR_at {ns : List Nt} (h : chkFromR [] ns = 0) : ∀ k, k ≤ ns.length → chkFromR (ns.take k) (ns.drop k) = 0 := by
  intro k
  induction k with
  | zero => intro _; exact h
  | succ k ih =>
    intro hk
    have h1 := ih (by omega)
    rw [chkFromR_drop (by omega)] at h1
    split at h1
    · contradiction
    · split at h1
      · cases h1
      · exact h1
theorem chkRel_at {ns : List Nt} (h : chkRel ns = 0) {k : Nat} (hk : k < ns.length) : ns[k].number = (cntS ns[k].site (ns.take k) : Int) + 1 := by
  have h3 := (chkRel_len h).1
  unfold chkRel at h
  rw [if_neg (by omega)] at h
  have h1 := chkFromR_at h k (by omega)
  rw [chkFromR_drop hk] at h1
  split at h1
  · contradiction
  · split at h1
    · cases h1
    · next h2 => exact Classical.byContradiction fun h4 => h2 h4
theorem chkFromR_snoc {n : Nt} : ∀ {ns pre : List Nt}, chkFromR pre ns = 0 → chkN n = 0 → n.number = (cntS n.site (pre ++ ns) : Int) + 1 → chkFromR pre (ns ++ [n]) = 0
  | [], pre, _, hn, hc => by
    rw [List.append_nil] at hc
    show (if chkN n ≠ 0 then chkN n else if n.number ≠ (cntS n.site pre : Int) + 1 then 4 else 0) = 0
    rw [if_neg (by simpa using hn), if_neg (by simpa using hc)]
  | m :: ns, pre, h, hn, hc => by
    unfold chkFromR at h
    rw [List.cons_append]
    unfold chkFromR
    split at h
    · contradiction
    · next h1 =>
      rw [if_neg h1]
      split at h
      · cases h
      · next h2 =>
        rw [if_neg h2]
        exact chkFromR_snoc h hn (by rw [List.append_assoc]; exact hc)
theorem chkRel_snoc {ns : List Nt} {n : Nt} (h : chkRel ns = 0) (hl : ns.length < 300) (hn : chkN n = 0) (hc : n.number = (cntS n.site ns : Int) + 1) : chkRel (ns ++ [n]) = 0 := by
  unfold chkRel at h ⊢
  rw [if_neg (by omega)] at h
  rw [if_neg (by simp; omega)]
  exact chkFromR_snoc h hn (by rw [List.nil_append]; exact hc)

/-- what is posted onto a log that is right -/
theorem post_good {L : List Nt} {n : Nt} (h : chkRel L = 0) (he : postE L n = 0) : (postI L n = true ∧ postL L n = L ++ [n] ∧ chkRel (L ++ [n]) = 0) ∨ (postI L n = false ∧ postL L n = L) := by
  have hE : postE L n = if chkRel L ≠ 0 then chkRel L else if chkN n ≠ 0 then chkN n else if (cntS n.site L : Int) + 1 < n.number then 4 else if n.number = (cntS n.site L : Int) + 1 ∧ L.length = 300 then 2 else 0 := rfl
  have h3 := (chkRel_len h).1
  rw [hE, if_neg (by simpa using h)] at he
  by_cases h1 : chkN n = 0
  · rw [if_neg (by simpa using h1)] at he
    split at he
    · cases he
    · split at he
      · cases he
      · next h4 h5 =>
        have hE0 : postE L n = 0 := by rw [hE, if_neg (by simpa using h), if_neg (by simpa using h1), if_neg h4, if_neg h5]
        by_cases h6 : n.number = (cntS n.site L : Int) + 1
        · have hI : postI L n = true := by unfold postI; rw [decide_eq_true hE0, decide_eq_true h6]; rfl
          refine Or.inl ⟨hI, ?_, chkRel_snoc h ?_ h1 h6⟩
          · unfold postL; rw [if_neg (by simpa using hE0), if_pos hI]
          · have : L.length ≠ 300 := fun e => h5 ⟨h6, e⟩
            omega
        · have hI : postI L n = false := by unfold postI; simp [h6]
          refine Or.inr ⟨hI, ?_⟩
          unfold postL; rw [if_neg (by simpa using hE0), if_neg (by rw [hI]; decide)]
  · rw [if_pos h1] at he
    exact absurd he h1
theorem post_bad {L : List Nt} {n : Nt} (he : postE L n ≠ 0) : postI L n = false ∧ postL L n = [] :=
  ⟨by unfold postI; simp [he], by unfold postL; rw [if_pos he]⟩
theorem post_chk {L : List Nt} {n : Nt} (h : chkRel L = 0) (he : postE L n = 0) : chkRel (postL L n) = 0 := by
  rcases post_good h he with ⟨_, h2, h3⟩ | ⟨_, h2⟩
  · rw [h2]; exact h3
  · rw [h2]; exact h
theorem post_len {L : List Nt} {n : Nt} (h : chkRel L = 0) (he : postE L n = 0) : postI L n = decide ((postL L n).length = L.length + 1) := by
  rcases post_good h he with ⟨h1, h2, _⟩ | ⟨h1, h2⟩
  · rw [h1, h2]; simp
  · rw [h1, h2]; simp

/-- the two parts -/
theorem pull_parts {L : List Nt} (h : chkRel L = 0) {cut : Int} (h0 : 0 ≤ cut) (h1 : cut ≤ L.length) : pullE L 0 cut = 0 ∧ pullE L cut 300 = 0 ∧ pullL L 0 cut ++ pullL L cut 300 = L := by
  have h3 := (chkRel_len h).1
  have e1 : pullE L 0 cut = 0 := by
    unfold pullE; rw [if_neg (by simpa using h), if_neg (by omega)]
  have e2 : pullE L cut 300 = 0 := by
    unfold pullE; rw [if_neg (by simpa using h), if_neg (by omega)]
  refine ⟨e1, e2, ?_⟩
  unfold pullL
  rw [if_neg (by simpa using e1), if_neg (by simpa using e2)]
  rw [show (0 : Int).toNat = 0 from rfl, List.drop_zero, List.take_of_length_le (show (L.drop cut.toNat).length ≤ (300 : Int).toNat by simp; omega)]
  exact List.take_append_drop _ _
theorem pull_len {L : List Nt} (cu ma : Int) (h : chkRel L = 0) : (pullL L cu ma).length ≤ 300 := by
  have h3 := (chkRel_len h).1
  unfold pullL
  split
  · simp
  · simp; omega
end Go.Proofs.Ytnhjebdlcbhkcag
