/- Pure: how many signs Diff's edits put and take, and their form. -/
import Derived.Test.YtnhjebdlcbhkcadManyC
namespace Go.Proofs.Ytnhjebdlcbhkcad

theorem RUp.each : ∀ {R : List (Nat × Nat)} {hi : Nat}, RUp hi R → ∀ g ∈ R, 1 ≤ g.2 ∧ g.2 ≤ hi
  | [], _, _, g, hg => by simp at hg
  | (q, n) :: R, hi, h, g, hg => by
    obtain ⟨h1, h2, h3⟩ := h
    rcases List.mem_cons.1 hg with rfl | hg
    · exact ⟨h1, by show n ≤ hi; omega⟩
    · have := RUp.each h3 g hg
      exact ⟨this.1, by omega⟩
theorem RUp.len : ∀ {R : List (Nat × Nat)} {hi : Nat}, RUp hi R → R.length ≤ hi
  | [], _, _ => Nat.zero_le _
  | (q, n) :: R, hi, h => by
    obtain ⟨h1, h2, h3⟩ := h
    have := h3.len
    rw [List.length_cons]; omega
theorem GOk.each {s : List UInt8} : ∀ {R : List (Nat × List UInt8)}, GOk s R → ∀ g ∈ R, 0 < g.2.length ∧ g.2.length ≤ 60
  | [], _, g, hg => by simp at hg
  | (q, t) :: R, h, g, hg => by
    rcases List.mem_cons.1 hg with rfl | hg
    · exact ⟨h.2.1, h.2.2.1⟩
    · exact GOk.each h.2.2.2 g hg

theorem manyL_append (l m : List Ed) : manyL (l ++ m) = manyL l + manyL m := by simp [manyL]
theorem manyL_reverse : ∀ (l : List Ed), manyL l.reverse = manyL l
  | [] => rfl
  | x :: l => by rw [List.reverse_cons, manyL_append, manyL_reverse l]; simp [manyL]; omega

theorem cnt_tk {g : Nat × Nat} (h : 1 ≤ g.2 ∧ g.2 ≤ 300) : cntE (tkEd g) = (g.2 : Int) := by
  unfold cntE tkEd
  rw [if_pos ⟨by show (0 : Int) < (g.2 : Int); omega, by show (g.2 : Int) ≤ 300; omega⟩]
  show (g.2 : Int) + ((0 : Nat) : Int) = _
  omega
theorem pt_size (t : List UInt8) : (⟨t.toArray⟩ : ByteArray).size = t.length := by simp [ByteArray.size]
theorem cnt_pt (g : Nat × List UInt8) : cntE (ptEd g) = (g.2.length : Int) := by
  unfold cntE ptEd
  rw [if_neg (by show ¬ ((0 : Int) < 0 ∧ (0 : Int) ≤ 300); omega)]
  show (0 : Int) + ((⟨g.2.toArray⟩ : ByteArray).size : Int) = _
  rw [pt_size]; omega

theorem many_tk : ∀ {R : List (Nat × Nat)}, (∀ g ∈ R, 1 ≤ g.2 ∧ g.2 ≤ 300) → manyL (R.map tkEd) = ((R.map Prod.snd).sum : Nat)
  | [], _ => rfl
  | g :: R, h => by
    have ih := many_tk (R := R) fun x hx => h x (List.mem_cons_of_mem _ hx)
    have e : manyL ((g :: R).map tkEd) = cntE (tkEd g) + manyL (R.map tkEd) := by simp [manyL]
    rw [e, ih, cnt_tk (h g (List.mem_cons_self ..)), List.map_cons, List.sum_cons]
    omega
theorem many_pt : ∀ {R : List (Nat × List UInt8)}, manyL (R.map ptEd) = ((R.map fun g => g.2.length).sum : Nat)
  | [] => rfl
  | g :: R => by
    have ih := many_pt (R := R)
    have e : manyL ((g :: R).map ptEd) = cntE (ptEd g) + manyL (R.map ptEd) := by simp [manyL]
    rw [e, ih, cnt_pt, List.map_cons, List.sum_cons]
    omega
theorem ptAll_sum (b : ByteArray) : ∀ (P : List Nat) (R : List (Nat × List UInt8)), ((P.foldl (ptB b) R).map fun g => g.2.length).sum = (R.map fun g => g.2.length).sum + P.length
  | [], R => by simp
  | p :: P, R => by
    rw [List.foldl_cons, ptAll_sum b P]
    unfold ptB
    rw [ptR_sum, List.length_cons]
    omega

/-- the form of Diff's answer, and how many signs there are -/
structure DiffIs (a b : ByteArray) : Prop where
  many : manyL (diffL a b) = (far a.data.toList b.data.toList : Nat)
  each : ∀ x ∈ diffL a b, (0 < x.many ∨ 0 < x.text.size) ∧ x.text.size ≤ 60 ∧ 0 ≤ x.many ∧ x.many ≤ 300 ∧ 0 ≤ cntE x ∧ cntE x ≤ 300
  len : (diffL a b).length ≤ 600

theorem len_le_sum {R : List (Nat × List UInt8)} (h : ∀ g ∈ R, 0 < g.2.length) : R.length ≤ (R.map fun g => g.2.length).sum := by
  induction R with
  | nil => exact Nat.zero_le _
  | cons g R ih =>
    have := ih fun x hx => h x (List.mem_cons_of_mem _ hx)
    have := h g (List.mem_cons_self ..)
    rw [List.length_cons, List.map_cons, List.sum_cons]; omega

theorem diff_is {a b : ByteArray} (h : diffE a b = 0) : DiffIs a b := by
  obtain ⟨ha, hb, _, _⟩ := diffE_zero h
  obtain ⟨u1, u2⟩ := walkT_up a.data.toList b.data.toList 0 0
  have hfar := walkT_far a.data.toList b.data.toList 0 0
  have hT : diffT a b = (walkT a.data.toList b.data.toList 0 0).1.foldl tkR [] := rfl
  have hP : diffP a b = (walkT a.data.toList b.data.toList 0 0).2.foldl (ptB b) [] := rfl
  rw [Nat.zero_add] at u1 u2
  generalize (walkT a.data.toList b.data.toList 0 0).1 = T at *
  generalize (walkT a.data.toList b.data.toList 0 0).2 = P at *
  have hR : RUp a.size (diffT a b) := by
    rw [hT, ← size_list]
    exact tkAll_up u1 trivial
  have hp := puts_all (n := P.length) (b := b.data.toList) (P := P) (P' := []) rfl (by rw [List.append_nil]; exact u2)
  have hG : ∀ g ∈ diffP a b, 0 < g.2.length ∧ g.2.length ≤ 60 := by rw [hP]; exact GOk.each hp.1
  have hPl : P.length ≤ b.size := by
    have up : ∀ {l : List Nat} {lo hi : Nat}, UpTo lo hi l → l.length + lo ≤ hi := by
      intro l
      induction l with
      | nil => intro lo hi h; have : lo ≤ hi := h; rw [List.length_nil]; omega
      | cons q l ih => intro lo hi h; have := ih h.2.2; have := h.1; rw [List.length_cons]; omega
    have := up u2
    rw [size_list] at this
    omega
  have hsumP := ptAll_sum b P []
  rw [← hP] at hsumP
  have hsumT := tkAll_sum T []
  rw [← hT] at hsumT
  simp only [List.map_nil, List.sum_nil, Nat.zero_add] at hsumP hsumT
  have hlT := hR.len
  have hlP := len_le_sum fun g hg => (hG g hg).1
  have hRe : ∀ g ∈ diffT a b, 1 ≤ g.2 ∧ g.2 ≤ 300 := fun g hg => ⟨(hR.each g hg).1, Nat.le_trans (hR.each g hg).2 ha⟩
  refine ⟨?_, ?_, ?_⟩
  · unfold diffL
    rw [manyL_append, manyL_reverse, many_tk hRe, many_pt, hsumT, hsumP]
    omega
  · intro x hx
    unfold diffL at hx
    rcases List.mem_append.1 hx with hx | hx
    · obtain ⟨g, hg, rfl⟩ := List.mem_map.1 hx
      have hg' := hRe g hg
      rw [cnt_tk hg']
      exact ⟨Or.inl (by show (0 : Int) < (g.2 : Int); omega), Nat.zero_le _, by show (0 : Int) ≤ (g.2 : Int); omega, by show (g.2 : Int) ≤ 300; omega, by omega, by omega⟩
    · rw [List.mem_reverse] at hx
      obtain ⟨g, hg, rfl⟩ := List.mem_map.1 hx
      have hg' := hG g hg
      rw [cnt_pt]
      have hs : (ptEd g).text.size = g.2.length := pt_size g.2
      exact ⟨Or.inr (by omega), by omega, by show (0 : Int) ≤ 0; omega, by show (0 : Int) ≤ 300; omega, by omega, by omega⟩
  · unfold diffL
    rw [List.length_append, List.length_reverse, List.length_map, List.length_map]
    omega
end Go.Proofs.Ytnhjebdlcbhkcad
