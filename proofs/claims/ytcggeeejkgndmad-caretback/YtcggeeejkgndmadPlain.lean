/- The plain order of marks, and what lies between two of them. No Go text is walked here. -/
import Derived.Test.YtcggeeejkgndmadIsBtw
import Derived.Test.YtcggeeejkgndmadCmp
namespace Go.Proofs.Ytcggeeejkgndmad

theorem beg_in {l : List (Int × Int)} {n : Nat} (h : n ≤ l.length) : beg l n = l.take n := by
  unfold beg; rw [show n - l.length = 0 by omega]; simp
theorem beg_cons (s : Int × Int) (l : List (Int × Int)) (n : Nat) : beg (s :: l) (n + 1) = s :: beg l n := by
  unfold beg; simp

/-- behind a: with a digit that is behind a's own, or with all of a at the beginning -/
theorem above_cut {la : List (Int × Int)} {n : Nat} {d site : Int} (hn : n < la.length) (h : lowB la[n] site ≤ d) : ordP la (la.take n ++ [(d, site)]) = -1 := by
  have e : la = la.take n ++ la[n] :: la.drop (n + 1) := by rw [← List.drop_eq_getElem_cons hn, List.take_append_drop]
  have : ordP (la.take n ++ la[n] :: la.drop (n + 1)) (la.take n ++ [(d, site)]) = -1 := by
    rw [ordP_same]
    refine ordP_one _ _ (ordS_of ?_)
    unfold lowB at h
    simp only
    split at h <;> omega
  rwa [← e] at this
theorem below_cut {lb : List (Int × Int)} {n : Nat} {d site : Int} (hn : n < lb.length) (h : d ≤ highA lb[n] site) : ordP (lb.take n ++ [(d, site)]) lb = -1 := by
  have e : lb = lb.take n ++ lb[n] :: lb.drop (n + 1) := by rw [← List.drop_eq_getElem_cons hn, List.take_append_drop]
  have : ordP (lb.take n ++ [(d, site)]) (lb.take n ++ lb[n] :: lb.drop (n + 1)) = -1 := by
    rw [ordP_same]
    refine ordP_one _ _ (ordS_of ?_)
    unfold highA at h
    simp only
    split at h <;> omega
  rwa [← e] at this
theorem above_long {la : List (Int × Int)} {n : Nat} {x : Int × Int} (hn : la.length ≤ n) : ordP la (beg la n ++ [x]) = -1 := by
  unfold beg
  rw [List.take_of_length_le hn, List.append_assoc]
  have := ordP_same la [] (List.replicate (n - la.length) (0, 0) ++ [x])
  rw [List.append_nil] at this
  rw [this]
  cases h : List.replicate (n - la.length) ((0 : Int), (0 : Int)) ++ [x] with
  | nil => simp at h
  | cons s l => rfl
theorem above_other {la : List (Int × Int)} : ∀ {lb : List (Int × Int)} {n : Nat} {x : Int × Int}, ordP la lb = -1 → ¬ (n < la.length ∧ la.take n = lb.take n) → ordP la (lb.take n ++ [x]) = -1 := by
  induction la with
  | nil =>
    intro lb n x _ _
    cases h : lb.take n ++ [x] with
    | nil => simp at h
    | cons s l => rfl
  | cons s la ih =>
    intro lb n x h hno
    cases n with
    | zero => exact absurd ⟨by simp, by simp⟩ hno
    | succ n =>
      cases lb with
      | nil => simp [ordP] at h
      | cons t lb =>
        simp only [ordP] at h
        simp only [List.take_succ_cons, List.cons_append, ordP]
        split at h
        · rename_i e
          rw [if_pos e]
          have e2 := (ordS_zero_iff s t).1 e
          refine ih h (fun ⟨h1, h2⟩ => hno ⟨by simpa using h1, by simp [e2, h2]⟩)
        · rename_i e; rw [if_neg e]; exact h
theorem below_zeros : ∀ {m : Nat} {lb : List (Int × Int)} {x : Int × Int}, 0 < lb.length → m ≤ lb.length → okSteps lb = true → (lastS lb).1 ≠ 0 → ¬ (m < lb.length ∧ lb.take m = List.replicate m (0, 0)) → ordP (List.replicate m (0, 0) ++ [x]) lb = -1 := by
  intro m
  induction m with
  | zero => intro lb x h0 _ _ _ hno; exact absurd ⟨h0, by simp⟩ hno
  | succ m ih =>
    intro lb x h0 hm hok hlast hno
    cases lb with
    | nil => simp at h0
    | cons t lb =>
      simp only [List.replicate_succ, List.cons_append, ordP]
      have ht := okStep_iff.1 (okSteps_get hok (i := 0) (by simp))
      simp only [List.getElem_cons_zero] at ht
      by_cases e : t = (0, 0)
      · rw [if_pos ((ordS_zero_iff _ _).2 e.symm)]
        have hlb : 0 < lb.length := by
          rcases Nat.eq_zero_or_pos lb.length with h | h
          · rw [List.eq_nil_of_length_eq_zero h, e] at hlast; simp [lastS] at hlast
          · exact h
        refine ih hlb (by simpa using hm) (okSteps_true fun j hj => by have := okSteps_get hok (i := j + 1) (by simpa using hj); simpa using this) ?_ (fun ⟨h1, h2⟩ => hno ⟨by simpa using h1, by simp [h2, e, List.replicate_succ]⟩)
        rw [lastS_eq hlb]
        rw [lastS_eq h0] at hlast
        simp only [List.length_cons] at hlast
        have e3 : lb.length + 1 - 1 = (lb.length - 1) + 1 := by omega
        simp only [e3, List.getElem_cons_succ] at hlast
        exact hlast
      · rw [if_neg (fun h => e ((ordS_zero_iff _ _).1 h).symm)]
        refine ordS_of ?_
        have : ¬ (t.1 = 0 ∧ t.2 = 0) := fun h => e (Prod.ext h.1 h.2)
        simp only
        omega
theorem below_beg {la : List (Int × Int)} : ∀ {lb : List (Int × Int)} {n : Nat} {x : Int × Int}, ordP la lb = -1 → n ≤ max la.length lb.length → okSteps lb = true → (lastS lb).1 ≠ 0 → ¬ (n < lb.length ∧ lb.take n = beg la n) → ordP (beg la n ++ [x]) lb = -1 := by
  induction la with
  | nil =>
    intro lb n x h hn hok hlast hno
    have h0 : 0 < lb.length := by
      cases lb with
      | nil => simp [ordP] at h
      | cons t lb => simp
    have e : beg [] n = List.replicate n (0, 0) := by unfold beg; simp
    rw [e] at hno ⊢
    exact below_zeros h0 (by simpa using hn) hok hlast hno
  | cons s la ih =>
    intro lb n x h hn hok hlast hno
    cases lb with
    | nil => simp [ordP] at h
    | cons t lb =>
      cases n with
      | zero => exact absurd ⟨by simp, by simp [beg]⟩ hno
      | succ n =>
        simp only [ordP] at h
        rw [beg_cons] at hno ⊢
        simp only [List.cons_append, ordP]
        split at h
        · rename_i e
          rw [if_pos e]
          have e2 := (ordS_zero_iff s t).1 e
          have h0 : 0 < lb.length := by
            cases lb with
            | nil => cases la <;> simp [ordP] at h
            | cons _ _ => simp
          refine ih h (by simp at hn; omega) (okSteps_true fun j hj => by have := okSteps_get hok (i := j + 1) (by simpa using hj); simpa using this) ?_ (fun ⟨h1, h2⟩ => hno ⟨by simpa using h1, by simp [e2, h2]⟩)
          rw [lastS_eq h0]
          rw [lastS_eq (by simp)] at hlast
          simp only [List.length_cons] at hlast
          have e3 : lb.length + 1 - 1 = (lb.length - 1) + 1 := by omega
          simp only [e3, List.getElem_cons_succ] at hlast
          exact hlast
        · rename_i e; rw [if_neg e]; exact h
end Go.Proofs.Ytcggeeejkgndmad
