/- What Join and Covers are (pure). -/
import Derived.Test.YtlpfnpkmgkbngaeSeenJ
namespace Go.Proofs.Ytlpfnpkmgkbngae
open Go.RowKit

/-- what was seen, and is right: five numbers -/
theorem seen_five {l : List Int} (h : chkSeen l = 0) : ∃ a b c d e, l = [a, b, c, d, e] ∧ okNum a = true ∧ okNum b = true ∧ okNum c = true ∧ okNum d = true ∧ okNum e = true := by
  obtain ⟨h5, ho⟩ := chkSeen_zero h
  match l, h5 with
  | [a, b, c, d, e], _ =>
    refine ⟨a, b, c, d, e, rfl, ?_⟩
    simpa [okNums] using ho
theorem chkSeen_mk {a b c d e : Int} (h : okNum a = true ∧ okNum b = true ∧ okNum c = true ∧ okNum d = true ∧ okNum e = true) : chkSeen [a, b, c, d, e] = 0 := by
  have ho : okNums [a, b, c, d, e] = true := by simp [okNums, h]
  unfold chkSeen
  rw [if_neg (by simp), if_neg (by rw [ho]; decide)]
theorem okNum_max {a b : Int} (h : okNum a = true) (h' : okNum b = true) : okNum (max a b) = true := by
  rcases (show max a b = a ∨ max a b = b by omega) with e | e <;> rw [e] <;> assumption

theorem chk_join {l m : List Int} (h : chkSeen l = 0) (h' : chkSeen m = 0) : chkSeen (List.zipWith max l m) = 0 := by
  obtain ⟨a, b, c, d, e, rfl, k⟩ := seen_five h
  obtain ⟨a', b', c', d', e', rfl, k'⟩ := seen_five h'
  exact chkSeen_mk ⟨okNum_max k.1 k'.1, okNum_max k.2.1 k'.2.1, okNum_max k.2.2.1 k'.2.2.1, okNum_max k.2.2.2.1 k'.2.2.2.1, okNum_max k.2.2.2.2 k'.2.2.2.2⟩
theorem joinOf_ok {l m : List Int} (h : chkSeen l = 0) (h' : chkSeen m = 0) : joinOf l m = List.zipWith max l m := by
  unfold joinOf; rw [if_pos (by rw [err2_mk h]; exact h')]
theorem joinOf_err {l m : List Int} (h : err2 l m ≠ 0) : joinOf l m = [] := by
  unfold joinOf; rw [if_neg h]
theorem covOf_err {l m : List Int} (h : err2 l m ≠ 0) : covOf l m = false := by
  unfold covOf; rw [decide_eq_false h]; rfl
theorem covOf_ok {l m : List Int} (h : chkSeen l = 0) (h' : chkSeen m = 0) : covOf l m = covL l m := by
  unfold covOf; rw [decide_eq_true (by rw [err2_mk h]; exact h')]; rfl
theorem cov_join_left {l m : List Int} (h : chkSeen l = 0) (h' : chkSeen m = 0) : covL (List.zipWith max l m) l = true ∧ covL (List.zipWith max l m) m = true := by
  obtain ⟨a, b, c, d, e, rfl, k⟩ := seen_five h
  obtain ⟨a', b', c', d', e', rfl, k'⟩ := seen_five h'
  constructor <;> simp [covL] <;> omega
theorem cov_join {l m n : List Int} (h : chkSeen l = 0) (h' : chkSeen m = 0) (h'' : chkSeen n = 0) : covL n (List.zipWith max l m) = (covL n l && covL n m) := by
  obtain ⟨a, b, c, d, e, rfl, k⟩ := seen_five h
  obtain ⟨a', b', c', d', e', rfl, k'⟩ := seen_five h'
  obtain ⟨a'', b'', c'', d'', e'', rfl, k''⟩ := seen_five h''
  rw [Bool.eq_iff_iff]
  simp [covL]
  omega
theorem join_comm {l m : List Int} (h : chkSeen l = 0) (h' : chkSeen m = 0) : List.zipWith max l m = List.zipWith max m l := by
  obtain ⟨a, b, c, d, e, rfl, k⟩ := seen_five h
  obtain ⟨a', b', c', d', e', rfl, k'⟩ := seen_five h'
  simp <;> omega
theorem join_self {l : List Int} (h : chkSeen l = 0) : List.zipWith max l l = l := by
  obtain ⟨a, b, c, d, e, rfl, k⟩ := seen_five h
  simp
theorem join_assoc {l m n : List Int} (h : chkSeen l = 0) (h' : chkSeen m = 0) (h'' : chkSeen n = 0) : List.zipWith max (List.zipWith max l m) n = List.zipWith max l (List.zipWith max m n) := by
  obtain ⟨a, b, c, d, e, rfl, k⟩ := seen_five h
  obtain ⟨a', b', c', d', e', rfl, k'⟩ := seen_five h'
  obtain ⟨a'', b'', c'', d'', e'', rfl, k''⟩ := seen_five h''
  simp <;> omega
theorem err2_left {l m : List Int} (h : chkSeen m = 0) : err2 l m = chkSeen l := by
  unfold err2 orE; rw [h]; split <;> simp_all
theorem joinOf_len {l m : List Int} : (joinOf l m).length ≤ maxLen := by
  by_cases e : err2 l m = 0
  · obtain ⟨h, h'⟩ := err2_zero e
    rw [joinOf_ok h h']
    have := (chkSeen_zero h).1
    simp [maxLen]; omega
  · rw [joinOf_err e]; simp
end Go.Proofs.Ytlpfnpkmgkbngae
