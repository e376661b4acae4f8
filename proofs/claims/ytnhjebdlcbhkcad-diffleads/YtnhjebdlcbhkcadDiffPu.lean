/- Pure: the walk through two texts, and what is played of it. -/
import Derived.Test.YtnhjebdlcbhkcadLcsPu
namespace Go.Proofs.Ytnhjebdlcbhkcad

/-- what the walk tells: the places in a of signs that go, the places in b of signs that come (i, j: how far it is) -/
def walkT : List UInt8 → List UInt8 → Nat → Nat → List Nat × List Nat
  | [], [], _, _ => ([], [])
  | [], _ :: b, i, j => let r := walkT [] b i (j + 1); (r.1, j :: r.2)
  | _ :: a, [], i, j => let r := walkT a [] (i + 1) j; (i :: r.1, r.2)
  | x :: a, y :: b, i, j =>
    if x = y then walkT a b (i + 1) (j + 1)
    else if lcs (x :: a) b ≤ lcs a (y :: b) then let r := walkT a (y :: b) (i + 1) j; (i :: r.1, r.2)
    else let r := walkT (x :: a) b i (j + 1); (r.1, j :: r.2)
termination_by a b => a.length + b.length

theorem walkT_far : ∀ (a b : List UInt8) (i j : Nat), (walkT a b i j).1.length + (walkT a b i j).2.length = far a b
  | [], [], i, j => by simp [walkT, far, lcs]
  | [], y :: b, i, j => by
    have h := walkT_far [] b i (j + 1)
    rw [far_nil] at h ⊢
    unfold walkT
    simp only [List.length_cons]
    omega
  | x :: a, [], i, j => by
    have h := walkT_far a [] (i + 1) j
    rw [far_nil'] at h ⊢
    unfold walkT
    simp only [List.length_cons]
    omega
  | x :: a, y :: b, i, j => by
    unfold walkT
    by_cases h : x = y
    · rw [if_pos h]
      subst h
      rw [far_same]
      exact walkT_far a b (i + 1) (j + 1)
    · rw [if_neg h, far_other h]
      by_cases h2 : lcs (x :: a) b ≤ lcs a (y :: b)
      · rw [if_pos h2]
        have h3 := walkT_far a (y :: b) (i + 1) j
        have h4 : far a (y :: b) ≤ far (x :: a) b := by
          unfold far
          have l1 := lcs_le a (y :: b)
          have l2 := lcs_le (x :: a) b
          simp only [List.length_cons] at *
          omega
        simp only [List.length_cons]
        omega
      · rw [if_neg h2]
        have h3 := walkT_far (x :: a) b i (j + 1)
        have h4 : far (x :: a) b ≤ far a (y :: b) := by
          unfold far
          have l1 := lcs_le a (y :: b)
          have l2 := lcs_le (x :: a) b
          simp only [List.length_cons] at *
          omega
        simp only [List.length_cons]
        omega
termination_by a b => a.length + b.length

/-- places that rise, from lo on, below hi -/
def UpTo (lo hi : Nat) : List Nat → Prop
  | [] => lo ≤ hi
  | p :: l => lo ≤ p ∧ p < hi ∧ UpTo (p + 1) hi l

theorem UpTo.weak {lo lo' hi : Nat} (h : lo' ≤ lo) : ∀ {l : List Nat}, UpTo lo hi l → UpTo lo' hi l
  | [], h0 => Nat.le_trans h h0
  | _ :: _, h0 => ⟨Nat.le_trans h h0.1, h0.2⟩

theorem walkT_up : ∀ (a b : List UInt8) (i j : Nat), UpTo i (i + a.length) (walkT a b i j).1 ∧ UpTo j (j + b.length) (walkT a b i j).2
  | [], [], i, j => by simp [walkT, UpTo]
  | [], y :: b, i, j => by
    obtain ⟨h1, h2⟩ := walkT_up [] b i (j + 1)
    unfold walkT
    refine ⟨h1, Nat.le_refl _, by simp, ?_⟩
    rw [List.length_cons, show j + (b.length + 1) = j + 1 + b.length by omega]
    exact h2
  | x :: a, [], i, j => by
    obtain ⟨h1, h2⟩ := walkT_up a [] (i + 1) j
    unfold walkT
    refine ⟨⟨Nat.le_refl _, by simp, ?_⟩, h2⟩
    rw [List.length_cons, show i + (a.length + 1) = i + 1 + a.length by omega]
    exact h1
  | x :: a, y :: b, i, j => by
    unfold walkT
    by_cases h : x = y
    · rw [if_pos h]
      obtain ⟨h1, h2⟩ := walkT_up a b (i + 1) (j + 1)
      rw [List.length_cons, List.length_cons, show i + (a.length + 1) = i + 1 + a.length by omega, show j + (b.length + 1) = j + 1 + b.length by omega]
      exact ⟨h1.weak (by omega), h2.weak (by omega)⟩
    · rw [if_neg h]
      by_cases h2 : lcs (x :: a) b ≤ lcs a (y :: b)
      · rw [if_pos h2]
        obtain ⟨h3, h4⟩ := walkT_up a (y :: b) (i + 1) j
        refine ⟨⟨Nat.le_refl _, by simp, ?_⟩, h4⟩
        rw [List.length_cons, show i + (a.length + 1) = i + 1 + a.length by omega]
        exact h3
      · rw [if_neg h2]
        obtain ⟨h3, h4⟩ := walkT_up (x :: a) b i (j + 1)
        refine ⟨h3, Nat.le_refl _, by simp, ?_⟩
        rw [List.length_cons, show j + (b.length + 1) = j + 1 + b.length by omega]
        exact h4
termination_by a b => a.length + b.length

/-- a list without the places told (i: where it begins) -/
def without : List UInt8 → Nat → List Nat → List UInt8
  | [], _, _ => []
  | x :: a, i, l => if i ∈ l then without a (i + 1) l else x :: without a (i + 1) l

theorem without_skip : ∀ (a : List UInt8) (i p : Nat) (l : List Nat), p < i → without a i (p :: l) = without a i l
  | [], _, _, _, _ => rfl
  | x :: a, i, p, l, h => by
    unfold without
    rw [without_skip a (i + 1) p l (by omega)]
    have e : i ∈ p :: l ↔ i ∈ l := by
      rw [List.mem_cons]
      exact ⟨fun h0 => h0.elim (fun e => by omega) id, Or.inr⟩
    simp only [e]

theorem UpTo.notMem {lo hi : Nat} : ∀ {l : List Nat} {p : Nat}, UpTo lo hi l → p < lo → p ∉ l
  | [], _, _, _ => by simp
  | q :: l, p, h, hp => by
    rw [List.mem_cons]
    rintro (e | e)
    · have := h.1; omega
    · exact UpTo.notMem h.2.2 (by have := h.1; omega) e

theorem without_none {a : List UInt8} : ∀ {i : Nat}, without a i [] = a := by
  induction a with
  | nil => intro i; rfl
  | cons x a ih => intro i; unfold without; simp [ih]

/-- what stays of a is what stays of b -/
theorem walkT_keep : ∀ (a b : List UInt8) (i j : Nat), without a i (walkT a b i j).1 = without b j (walkT a b i j).2
  | [], [], i, j => rfl
  | [], y :: b, i, j => by
    have h := walkT_keep [] b i (j + 1)
    have u := (walkT_up [] b i (j + 1)).2
    unfold walkT
    show without [] i _ = without (y :: b) j (j :: _)
    conv => rhs; unfold without
    rw [if_pos (List.mem_cons_self ..), without_skip _ _ _ _ (Nat.lt_succ_self j), ← h]
    first | done | rfl
  | x :: a, [], i, j => by
    have h := walkT_keep a [] (i + 1) j
    unfold walkT
    show without (x :: a) i (i :: _) = without [] j _
    conv => lhs; unfold without
    rw [if_pos (List.mem_cons_self ..), without_skip _ _ _ _ (Nat.lt_succ_self i), h]
    first | done | rfl
  | x :: a, y :: b, i, j => by
    unfold walkT
    by_cases h : x = y
    · rw [if_pos h]
      subst h
      have h3 := walkT_keep a b (i + 1) (j + 1)
      obtain ⟨u1, u2⟩ := walkT_up a b (i + 1) (j + 1)
      conv => lhs; unfold without
      conv => rhs; unfold without
      rw [if_neg (u1.notMem (Nat.lt_succ_self i)), if_neg (u2.notMem (Nat.lt_succ_self j)), h3]
    · rw [if_neg h]
      by_cases h2 : lcs (x :: a) b ≤ lcs a (y :: b)
      · rw [if_pos h2]
        have h3 := walkT_keep a (y :: b) (i + 1) j
        show without (x :: a) i (i :: _) = _
        conv => lhs; unfold without
        rw [if_pos (List.mem_cons_self ..), without_skip _ _ _ _ (Nat.lt_succ_self i), h3]
      · rw [if_neg h2]
        have h3 := walkT_keep (x :: a) b i (j + 1)
        show _ = without (y :: b) j (j :: _)
        conv => rhs; unfold without
        rw [if_pos (List.mem_cons_self ..), without_skip _ _ _ _ (Nat.lt_succ_self j), h3]
termination_by a b => a.length + b.length
end Go.Proofs.Ytnhjebdlcbhkcad
