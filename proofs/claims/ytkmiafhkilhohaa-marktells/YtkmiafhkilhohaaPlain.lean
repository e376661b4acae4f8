/- The plain order of marks, and what lies between two of them. No Go text is walked here. -/
import Derived.Test.YtkmiafhkilhohaaIsBtw
namespace Go.Proofs.Ytkmiafhkilhohaa

/-- an order that answers -1, 0 or 1 -/
structure Cmp {α : Type} (f : α → α → Int) : Prop where
  anti : ∀ a b, f a b = - f b a
  vals : ∀ a b, f a b = -1 ∨ f a b = 0 ∨ f a b = 1
  eqv : ∀ a b c, f a b = 0 → f b c = f a c
  trans : ∀ a b c, f a b = -1 → f b c = -1 → f a c = -1

theorem Cmp.refl {α : Type} {f : α → α → Int} (h : Cmp f) (a : α) : f a a = 0 := by have := h.anti a a; omega
theorem Cmp.eqv' {α : Type} {f : α → α → Int} (h : Cmp f) (a b c : α) (e : f b c = 0) : f a b = f a c := by
  have h1 := h.anti a b; have h2 := h.anti a c; have h3 := h.eqv c b a (by have := h.anti c b; omega); omega
theorem Cmp.le_le {α : Type} {f : α → α → Int} (h : Cmp f) {a b c : α} (x : f a b ≤ 0) (y : f b c ≤ 0) : f a c ≤ 0 := by
  rcases h.vals a b with e | e | e
  · rcases h.vals b c with e2 | e2 | e2
    · have := h.trans a b c e e2; omega
    · have := h.eqv' a b c e2; omega
    · omega
  · have := h.eqv a b c e; omega
  · omega
theorem Cmp.le_lt {α : Type} {f : α → α → Int} (h : Cmp f) {a b c : α} (x : f a b ≤ 0) (y : f b c < 0) : f a c < 0 := by
  rcases h.vals a b with e | e | e
  · rcases h.vals b c with e2 | e2 | e2
    · have := h.trans a b c e e2; omega
    · omega
    · omega
  · have := h.eqv a b c e; omega
  · omega
theorem Cmp.lt_le {α : Type} {f : α → α → Int} (h : Cmp f) {a b c : α} (x : f a b < 0) (y : f b c ≤ 0) : f a c < 0 := by
  rcases h.vals a b with e | e | e
  · rcases h.vals b c with e2 | e2 | e2
    · have := h.trans a b c e e2; omega
    · have := h.eqv' a b c e2; omega
    · omega
  · omega
  · omega

theorem ordI_vals (a b : Int) : ordI a b = -1 ∧ a < b ∨ ordI a b = 0 ∧ a = b ∨ ordI a b = 1 ∧ b < a := by
  unfold ordI; split
  · left; exact ⟨rfl, by omega⟩
  · split
    · right; right; exact ⟨rfl, by omega⟩
    · right; left; exact ⟨rfl, by omega⟩
theorem cmpI : Cmp ordI := by
  refine ⟨fun a b => ?_, fun a b => ?_, fun a b c h => ?_, fun a b c h h' => ?_⟩
  · have := ordI_vals a b; have := ordI_vals b a; omega
  · have := ordI_vals a b; omega
  · have h1 := ordI_vals a b; have : a = b := by omega
    rw [this]
  · have := ordI_vals a b; have := ordI_vals b c; have := ordI_vals a c; omega
theorem cmpLex {α β : Type} {f : α → α → Int} {g : β → β → Int} (hf : Cmp f) (hg : Cmp g) : Cmp (fun (x y : α × β) => orI (f x.1 y.1) (g x.2 y.2)) := by
  refine ⟨fun a b => ?_, fun a b => ?_, fun a b c h => ?_, fun a b c h h' => ?_⟩
  · have h1 := hf.anti a.1 b.1; have h2 := hg.anti a.2 b.2
    simp only [orI]; split <;> split <;> omega
  · have h1 := hf.vals a.1 b.1; have h2 := hg.vals a.2 b.2
    simp only [orI]; split <;> omega
  · simp only [orI] at h ⊢
    split at h
    · rename_i e
      have h1 := hf.eqv _ _ c.1 e; have h2 := hg.eqv _ _ c.2 h
      rw [h1, h2]
    · rename_i e; exact absurd h e
  · simp only [orI] at h h' ⊢
    split at h
    · rename_i e
      have h1 := hf.eqv _ _ c.1 e
      rw [← h1]
      split at h'
      · rename_i e2; rw [if_pos e2]; exact hg.trans _ _ _ h h'
      · rename_i e2; rw [if_neg e2]; exact h'
    · split at h'
      · rename_i e e2
        have h1 := hf.eqv' a.1 _ _ e2
        rw [← h1, if_neg e]; exact h
      · have h1 := hf.trans _ _ _ h h'
        rw [if_neg (by omega)]; exact h1
theorem cmpS : Cmp ordS := cmpLex cmpI cmpI
theorem cmpP : Cmp ordP := by
  refine ⟨fun a => ?_, fun a => ?_, fun a => ?_, fun a => ?_⟩
  · induction a with
    | nil => intro b; cases b <;> rfl
    | cons s a ih =>
      intro b
      cases b with
      | nil => rfl
      | cons t b =>
        have h1 := cmpS.anti s t
        have h2 := ih b
        simp only [ordP]
        split <;> split <;> omega
  · induction a with
    | nil => intro b; cases b <;> simp [ordP]
    | cons s a ih =>
      intro b
      cases b with
      | nil => simp [ordP]
      | cons t b =>
        have h1 := cmpS.vals s t
        have h2 := ih b
        simp only [ordP]
        split <;> omega
  · induction a with
    | nil =>
      intro b c h
      cases b with
      | nil => rfl
      | cons t b => simp [ordP] at h
    | cons s a ih =>
      intro b c h
      cases b with
      | nil => simp [ordP] at h
      | cons t b =>
        simp only [ordP] at h
        split at h
        · rename_i e
          cases c with
          | nil => rfl
          | cons u c =>
            have h1 := cmpS.eqv _ _ u e
            have h2 := ih b c h
            simp only [ordP]
            rw [h1, h2]
        · rename_i e; exact absurd h e
  · induction a with
    | nil =>
      intro b c h h'
      cases b with
      | nil => exact h'
      | cons t b =>
        cases c with
        | nil => simp [ordP] at h'
        | cons u c => rfl
    | cons s a ih =>
      intro b c h h'
      cases b with
      | nil => simp [ordP] at h
      | cons t b =>
        cases c with
        | nil => simp [ordP] at h'
        | cons u c =>
          simp only [ordP] at h h' ⊢
          split at h
          · rename_i e
            have h1 := cmpS.eqv _ _ u e
            rw [← h1]
            split at h'
            · rename_i e2; rw [if_pos e2]; exact ih b c h h'
            · rename_i e2; rw [if_neg e2]; exact h'
          · split at h'
            · rename_i e e2
              have h1 := cmpS.eqv' s _ _ e2
              rw [← h1, if_neg e]; exact h
            · have h1 := cmpS.trans _ _ _ h h'
              rw [if_neg (by omega)]; exact h1
theorem cmpM : Cmp (fun (x y : List (Int × Int) × Int) => ordM x.1 x.2 y.1 y.2) := cmpLex cmpP cmpI

theorem ordS_zero_iff (s t : Int × Int) : ordS s t = 0 ↔ s = t := by
  have h1 := ordI_vals s.1 t.1; have h2 := ordI_vals s.2 t.2
  constructor
  · intro h
    unfold ordS orI at h
    split at h
    · exact Prod.ext (by omega) (by omega)
    · omega
  · rintro rfl; exact cmpS.refl s
theorem ordP_zero {a : List (Int × Int)} : ∀ {b}, ordP a b = 0 → a = b := by
  induction a with
  | nil => intro b h; cases b with
    | nil => rfl
    | cons t b => simp [ordP] at h
  | cons s a ih => intro b h; cases b with
    | nil => simp [ordP] at h
    | cons t b =>
      simp only [ordP] at h
      split at h
      · rename_i e; rw [(ordS_zero_iff s t).1 e, ih h]
      · rename_i e; exact absurd h e
theorem ordP_same (p : List (Int × Int)) (l m : List (Int × Int)) : ordP (p ++ l) (p ++ m) = ordP l m := by
  induction p with
  | nil => rfl
  | cons s p ih => simp only [List.cons_append, ordP]; rw [if_pos (cmpS.refl s), ih]
theorem ordP_one {s t : Int × Int} (l m : List (Int × Int)) (h : ordS s t = -1) : ordP (s :: l) (t :: m) = -1 := by
  simp only [ordP]; rw [if_neg (by omega)]; exact h
theorem ordS_of {s t : Int × Int} (h : s.1 < t.1 ∨ s.1 = t.1 ∧ s.2 < t.2) : ordS s t = -1 := by
  have h1 := ordI_vals s.1 t.1; have h2 := ordI_vals s.2 t.2
  unfold ordS orI; split <;> omega
theorem ordM_of {l m : List (Int × Int)} {c d : Int} (h : ordP l m = -1) : ordM l c m d = -1 := by
  unfold ordM orI; rw [if_neg (by omega)]; exact h

theorem beg_in {l : List (Int × Int)} {n : Nat} (h : n ≤ l.length) : beg l n = l.take n := by
  unfold beg; rw [show n - l.length = 0 by omega]; simp
theorem beg_cons (s : Int × Int) (l : List (Int × Int)) (n : Nat) : beg (s :: l) (n + 1) = s :: beg l n := by
  unfold beg; simp

/-- behind a: with a digit that is behind a's own, or with all of a at the beginning -/
theorem above_cut {la : List (Int × Int)} {n : Nat} {d site : Int} (hn : n < la.length) (h : lowB la[n] site ≤ d) : ordP la (la.take n ++ [(d, site)]) = -1 := by
  have e : la = la.take n ++ la[n] :: la.drop (n + 1) := by rw [← List.drop_eq_getElem_cons hn, List.take_append_drop]
  have : ordP (la.take n ++ la[n] :: la.drop (n + 1)) (la.take n ++ [(d, site)]) = -1 := by
    rw [ordP_same]
    refine ordP_one _ _ (ordS_of ?_)
    unfold lowB at h
    simp only
    split at h <;> omega
  rwa [← e] at this
theorem below_cut {lb : List (Int × Int)} {n : Nat} {d site : Int} (hn : n < lb.length) (h : d ≤ highA lb[n] site) : ordP (lb.take n ++ [(d, site)]) lb = -1 := by
  have e : lb = lb.take n ++ lb[n] :: lb.drop (n + 1) := by rw [← List.drop_eq_getElem_cons hn, List.take_append_drop]
  have : ordP (lb.take n ++ [(d, site)]) (lb.take n ++ lb[n] :: lb.drop (n + 1)) = -1 := by
    rw [ordP_same]
    refine ordP_one _ _ (ordS_of ?_)
    unfold highA at h
    simp only
    split at h <;> omega
  rwa [← e] at this
theorem above_long {la : List (Int × Int)} {n : Nat} {x : Int × Int} (hn : la.length ≤ n) : ordP la (beg la n ++ [x]) = -1 := by
  unfold beg
  rw [List.take_of_length_le hn, List.append_assoc]
  have := ordP_same la [] (List.replicate (n - la.length) (0, 0) ++ [x])
  rw [List.append_nil] at this
  rw [this]
  cases h : List.replicate (n - la.length) ((0 : Int), (0 : Int)) ++ [x] with
  | nil => simp at h
  | cons s l => rfl
theorem above_other {la : List (Int × Int)} : ∀ {lb : List (Int × Int)} {n : Nat} {x : Int × Int}, ordP la lb = -1 → ¬ (n < la.length ∧ la.take n = lb.take n) → ordP la (lb.take n ++ [x]) = -1 := by
  induction la with
  | nil =>
    intro lb n x _ _
    cases h : lb.take n ++ [x] with
    | nil => simp at h
    | cons s l => rfl
  | cons s la ih =>
    intro lb n x h hno
    cases n with
    | zero => exact absurd ⟨by simp, by simp⟩ hno
    | succ n =>
      cases lb with
      | nil => simp [ordP] at h
      | cons t lb =>
        simp only [ordP] at h
        simp only [List.take_succ_cons, List.cons_append, ordP]
        split at h
        · rename_i e
          rw [if_pos e]
          have e2 := (ordS_zero_iff s t).1 e
          refine ih h (fun ⟨h1, h2⟩ => hno ⟨by simpa using h1, by simp [e2, h2]⟩)
        · rename_i e; rw [if_neg e]; exact h
theorem below_zeros : ∀ {m : Nat} {lb : List (Int × Int)} {x : Int × Int}, 0 < lb.length → m ≤ lb.length → okSteps lb = true → (lastS lb).1 ≠ 0 → ¬ (m < lb.length ∧ lb.take m = List.replicate m (0, 0)) → ordP (List.replicate m (0, 0) ++ [x]) lb = -1 := by
  intro m
  induction m with
  | zero => intro lb x h0 _ _ _ hno; exact absurd ⟨h0, by simp⟩ hno
  | succ m ih =>
    intro lb x h0 hm hok hlast hno
    cases lb with
    | nil => simp at h0
    | cons t lb =>
      simp only [List.replicate_succ, List.cons_append, ordP]
      have ht := okStep_iff.1 (okSteps_get hok (i := 0) (by simp))
      simp only [List.getElem_cons_zero] at ht
      by_cases e : t = (0, 0)
      · rw [if_pos ((ordS_zero_iff _ _).2 e.symm)]
        have hlb : 0 < lb.length := by
          rcases Nat.eq_zero_or_pos lb.length with h | h
          · rw [List.eq_nil_of_length_eq_zero h, e] at hlast; simp [lastS] at hlast
          · exact h
        refine ih hlb (by simpa using hm) (okSteps_true fun j hj => by have := okSteps_get hok (i := j + 1) (by simpa using hj); simpa using this) ?_ (fun ⟨h1, h2⟩ => hno ⟨by simpa using h1, by simp [h2, e, List.replicate_succ]⟩)
        rw [lastS_eq hlb]
        rw [lastS_eq h0] at hlast
        simp only [List.length_cons] at hlast
        have e3 : lb.length + 1 - 1 = (lb.length - 1) + 1 := by omega
        simp only [e3, List.getElem_cons_succ] at hlast
        exact hlast
      · rw [if_neg (fun h => e ((ordS_zero_iff _ _).1 h).symm)]
        refine ordS_of ?_
        have : ¬ (t.1 = 0 ∧ t.2 = 0) := fun h => e (Prod.ext h.1 h.2)
        simp only
        omega
theorem below_beg {la : List (Int × Int)} : ∀ {lb : List (Int × Int)} {n : Nat} {x : Int × Int}, ordP la lb = -1 → n ≤ max la.length lb.length → okSteps lb = true → (lastS lb).1 ≠ 0 → ¬ (n < lb.length ∧ lb.take n = beg la n) → ordP (beg la n ++ [x]) lb = -1 := by
  induction la with
  | nil =>
    intro lb n x h hn hok hlast hno
    have h0 : 0 < lb.length := by
      cases lb with
      | nil => simp [ordP] at h
      | cons t lb => simp
    have e : beg [] n = List.replicate n (0, 0) := by unfold beg; simp
    rw [e] at hno ⊢
    exact below_zeros h0 (by simpa using hn) hok hlast hno
  | cons s la ih =>
    intro lb n x h hn hok hlast hno
    cases lb with
    | nil => simp [ordP] at h
    | cons t lb =>
      cases n with
      | zero => exact absurd ⟨by simp, by simp [beg]⟩ hno
      | succ n =>
        simp only [ordP] at h
        rw [beg_cons] at hno ⊢
        simp only [List.cons_append, ordP]
        split at h
        · rename_i e
          rw [if_pos e]
          have e2 := (ordS_zero_iff s t).1 e
          have h0 : 0 < lb.length := by
            cases lb with
            | nil => cases la <;> simp [ordP] at h
            | cons _ _ => simp
          refine ih h (by simp at hn; omega) (okSteps_true fun j hj => by have := okSteps_get hok (i := j + 1) (by simpa using hj); simpa using this) ?_ (fun ⟨h1, h2⟩ => hno ⟨by simpa using h1, by simp [e2, h2]⟩)
          rw [lastS_eq h0]
          rw [lastS_eq (by simp)] at hlast
          simp only [List.length_cons] at hlast
          have e3 : lb.length + 1 - 1 = (lb.length - 1) + 1 := by omega
          simp only [e3, List.getElem_cons_succ] at hlast
          exact hlast
        · rename_i e; rw [if_neg e]; exact h
end Go.Proofs.Ytkmiafhkilhohaa
