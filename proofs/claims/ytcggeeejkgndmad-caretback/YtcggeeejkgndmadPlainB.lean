/- What Between gives is what IsBetween asks. No Go text is walked here. -/
import Derived.Test.YtcggeeejkgndmadPlain
namespace Go.Proofs.Ytcggeeejkgndmad

theorem lastS_snoc (pl : List (Int × Int)) (x : Int × Int) : lastS (pl ++ [x]) = x := by
  rw [lastS_eq (by simp)]
  simp

theorem okSteps_append {l m : List (Int × Int)} (hl : okSteps l = true) (hm : okSteps m = true) : okSteps (l ++ m) = true := by
  unfold okSteps at *; rw [List.all_append, hl, hm]; rfl
theorem okSteps_beg {l : List (Int × Int)} (h : okSteps l = true) (n : Nat) : okSteps (beg l n) = true := by
  unfold beg
  refine okSteps_append ?_ ?_
  · unfold okSteps at *
    rw [List.all_eq_true] at h ⊢
    exact fun x hx => h x (List.mem_of_mem_take hx)
  · unfold okSteps
    rw [List.all_eq_true]
    intro x hx
    rw [List.eq_of_mem_replicate hx]; rfl

theorem chkEnd_pos {l : List (Int × Int)} {c : Int} (h : chkEnd l c = 0) (hn : ¬ (l.length = 0 ∧ c = 0)) : chk l c = 0 := by
  unfold chkEnd at h; rwa [if_neg hn] at h
theorem ends_both {l m : List (Int × Int)} {c d : Int} (h : ends l c m d = 0) : chkEnd l c = 0 ∧ chkEnd m d = 0 := by
  unfold ends orI at h
  split at h
  · rename_i h1; exact ⟨h1, h⟩
  · rename_i h1; exact absurd h h1

theorem btwErr_zero {la lb : List (Int × Int)} {ca cb site clock many : Int} (h : btwErr la ca lb cb site clock many = 0) :
    ends la ca lb cb = 0 ∧ argsOk site clock many = true ∧ stateBad la lb = false ∧ la.length ≤ 8 ∧ lb.length ≤ 8 := by
  unfold btwErr at h
  split at h
  · rename_i e; exact absurd h e
  · rename_i e1
    split at h
    · omega
    · rename_i e2
      split at h
      · omega
      · rename_i e3
        split at h
        · omega
        · refine ⟨by omega, by simpa using e2, by simpa using e3, by omega, by omega⟩

theorem ordP_neg {la lb : List (Int × Int)} (h : stateBad la lb = false) (hb : 0 < lb.length) : ordP la lb = -1 := by
  cases la with
  | nil =>
    cases lb with
    | nil => simp at hb
    | cons t lb => rfl
  | cons s la =>
    have := cmpP.vals (s :: la) lb
    have h2 : ¬ 0 ≤ ordP (s :: la) lb := by
      intro e
      unfold stateBad at h
      rw [decide_eq_true hb, decide_eq_true e] at h
      simp at h
    omega

theorem rowOf_get (pl : List (Int × Int)) (r site clock : Int) (many i : Nat) (h : i < (rowOf pl r site clock many).length) : (rowOf pl r site clock many)[i] = (pl ++ [(r + i, site)], clock + i) := by
  simp [rowOf]
theorem rowOf_length (pl : List (Int × Int)) (r site clock : Int) (many : Nat) : (rowOf pl r site clock many).length = many := by simp [rowOf]

theorem btw_all {la lb pl : List (Int × Int)} {ca cb site clock r : Int} {many : Nat} (h : btwErr la ca lb cb site clock many = 0) (hc : Cand la lb pl) (h1 : gapLow pl la site ≤ r) (h2 : r + many ≤ gapHigh pl lb site + 1) :
    ∀ i (hi : i < (rowOf pl r site clock many).length), BtwAt la ca lb cb site clock many (rowOf pl r site clock many) i hi := by
  obtain ⟨he, ha, hs, l8, l8'⟩ := btwErr_zero h
  obtain ⟨oa, ob⟩ := ends_ok he
  obtain ⟨ea, eb⟩ := ends_both he
  obtain ⟨s1, s2, c1, c2, m1, m2⟩ := argsOk_iff ha
  have lo := gapLow_bd pl site oa
  have hi' := gapHigh_bd pl site ob
  have opl : okSteps pl = true := by
    rcases hc with ⟨n, _, rfl⟩ | ⟨n, _, rfl⟩
    · exact okSteps_beg oa n
    · exact okSteps_beg ob n
  have hpl : pl.length ≤ max la.length lb.length := by
    rcases hc with ⟨n, hn, rfl⟩ | ⟨n, hn, rfl⟩
    · rw [beg_length]; exact hn
    · rw [beg_length]; omega
  intro i hi
  have him : i < many := by rwa [rowOf_length] at hi
  have hd1 : gapLow pl la site ≤ r + i := by omega
  have hd2 : r + i ≤ gapHigh pl lb site := by omega
  refine ⟨?_, ?_, ?_, ?_, ?_, ?_, ?_⟩
  · rw [rowOf_get]
    show chk (pl ++ [(r + i, site)]) (clock + i) = 0
    unfold chk
    rw [if_neg (by simp; omega), if_neg (by simp), lastS_snoc, okSteps_append opl (by simp [okSteps, okStep, inB]; omega), if_pos (by simp [inB]; omega)]
  · rw [rowOf_get]
  · rw [rowOf_get]; show (lastS (pl ++ [(r + i, site)])).2 = site; rw [lastS_snoc]
  · rw [rowOf_get]
    show (((pl ++ [(r + (i : Int), site)]).length : Nat) : Int) ≤ _
    unfold deepOf
    simp only [List.length_append, List.length_cons, List.length_nil]
    split <;> omega
  · intro hi0
    rw [rowOf_get, rowOf_get]
    refine ordM_of ?_
    rw [ordP_same]
    refine ordP_one _ _ (ordS_of (Or.inl ?_))
    show r + ((i - 1 : Nat) : Int) < r + i
    omega
  · intro hn
    rw [rowOf_get]
    have hla := chk_ok (chkEnd_pos ea hn)
    refine ordM_of ?_
    show ordP la (pl ++ [(r + i, site)]) = -1
    rcases hc with ⟨n, hn, rfl⟩ | ⟨n, hn, rfl⟩
    · by_cases hnl : n < la.length
      · rw [beg_in (by omega)] at *
        refine above_cut hnl ?_
        have hcut : cutB (la.take n) la = true := decide_eq_true ⟨by simp; omega, by simp [Nat.min_eq_left (Nat.le_of_lt hnl)]⟩
        rw [gapLow_in (n := n) (by simp; omega) hnl site hcut] at hd1
        omega
      · exact above_long (by omega)
    · rw [beg_in (by omega)] at *
      by_cases hcut : n < la.length ∧ la.take n = lb.take n
      · obtain ⟨k1, k2⟩ := hcut
        rw [← k2] at hd1 ⊢
        refine above_cut k1 ?_
        have hcut' : cutB (la.take n) la = true := decide_eq_true ⟨by simp; omega, by simp [Nat.min_eq_left (Nat.le_of_lt k1)]⟩
        rw [gapLow_in (n := n) (by simp; omega) k1 site hcut'] at hd1
        omega
      · exact above_other (ordP_neg hs (by omega)) hcut
  · intro hn
    rw [rowOf_get]
    have hlb := chk_ok (chkEnd_pos eb hn)
    refine ordM_of ?_
    show ordP (pl ++ [(r + i, site)]) lb = -1
    have hneg := ordP_neg hs hlb.1
    have key : ∀ n, n < lb.length → lb.take n = pl → ordP (pl ++ [(r + i, site)]) lb = -1 := by
      intro n hnl e
      subst e
      refine below_cut hnl ?_
      have hcut' : cutB (lb.take n) lb = true := decide_eq_true ⟨by simp; omega, by simp [Nat.min_eq_left (Nat.le_of_lt hnl)]⟩
      rw [gapHigh_in (n := n) (by simp; omega) hnl site hcut'] at hd2
      exact hd2
    rcases hc with ⟨n, hn, rfl⟩ | ⟨n, hn, rfl⟩
    · by_cases hcut : n < lb.length ∧ lb.take n = beg la n
      · exact key n hcut.1 hcut.2
      · exact below_beg hneg hn ob hlb.2.2.2.1 hcut
    · exact key n hn (beg_in (by omega)).symm
end Go.Proofs.Ytcggeeejkgndmad
