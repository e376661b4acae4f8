/- Pure: the longest row that two lists have in common. -/
import Derived.Test.YtnhjebdlcbhkcaeGreatNextC
import Derived.Test.YtnhjebdlcbhkcaeGreatDPut
import Derived.Test.YtnhjebdlcbhkcaeGreatEditP
namespace Go.Proofs.YtnhjebdlcbhkcaeGreat

def lcs : List UInt8 → List UInt8 → Nat
  | [], _ => 0
  | _ :: _, [] => 0
  | x :: a, y :: b => if x = y then lcs a b + 1 else max (lcs a (y :: b)) (lcs (x :: a) b)

theorem lcs_nil (a : List UInt8) : lcs a [] = 0 := by cases a <;> simp [lcs]

theorem lcs_has : ∀ a b : List UInt8, ∃ c : List UInt8, c.length = lcs a b ∧ c.Sublist a ∧ c.Sublist b
  | [], b => ⟨[], by simp [lcs], List.nil_sublist _, List.nil_sublist _⟩
  | x :: a, [] => ⟨[], by simp [lcs], List.nil_sublist _, List.nil_sublist _⟩
  | x :: a, y :: b => by
    unfold lcs
    by_cases h : x = y
    · rw [if_pos h]
      obtain ⟨c, h1, h2, h3⟩ := lcs_has a b
      subst h
      exact ⟨x :: c, by rw [List.length_cons, h1], h2.cons_cons x, h3.cons_cons x⟩
    · rw [if_neg h]
      rcases Nat.le_total (lcs a (y :: b)) (lcs (x :: a) b) with h' | h'
      · obtain ⟨c, h1, h2, h3⟩ := lcs_has (x :: a) b
        exact ⟨c, by rw [h1, Nat.max_eq_right h'], h2, h3.cons y⟩
      · obtain ⟨c, h1, h2, h3⟩ := lcs_has a (y :: b)
        exact ⟨c, by rw [h1, Nat.max_eq_left h'], h2.cons x, h3⟩
termination_by a b => a.length + b.length

theorem lcs_le (a b : List UInt8) : lcs a b ≤ a.length ∧ lcs a b ≤ b.length := by
  obtain ⟨c, h1, h2, h3⟩ := lcs_has a b
  have := h2.length_le
  have := h3.length_le
  omega

def far (a b : List UInt8) : Nat := a.length + b.length - 2 * lcs a b

theorem far_nil (b : List UInt8) : far [] b = b.length := by unfold far; simp [lcs]
theorem far_nil' (a : List UInt8) : far a [] = a.length := by unfold far; rw [lcs_nil]; simp
theorem far_same (x : UInt8) (a b : List UInt8) : far (x :: a) (x :: b) = far a b := by
  unfold far
  conv => lhs; unfold lcs
  rw [if_pos rfl]
  simp only [List.length_cons]; omega
theorem far_other {x y : UInt8} (h : x ≠ y) (a b : List UInt8) : far (x :: a) (y :: b) = min (far a (y :: b)) (far (x :: a) b) + 1 := by
  unfold far
  have h1 := lcs_le a (y :: b)
  have h2 := lcs_le (x :: a) b
  conv => lhs; unfold lcs
  rw [if_neg h]
  simp only [List.length_cons] at *
  omega
end Go.Proofs.YtnhjebdlcbhkcaeGreat

namespace Go.Proofs.YtnhjebdlcbhkcaeGreat

def walkT : List UInt8 → List UInt8 → Nat → Nat → List Nat × List Nat
  | [], [], _, _ => ([], [])
  | [], _ :: b, i, j => let r := walkT [] b i (j + 1); (r.1, j :: r.2)
  | _ :: a, [], i, j => let r := walkT a [] (i + 1) j; (i :: r.1, r.2)
  | x :: a, y :: b, i, j =>
    if x = y then walkT a b (i + 1) (j + 1)
    else if lcs (x :: a) b ≤ lcs a (y :: b) then let r := walkT a (y :: b) (i + 1) j; (i :: r.1, r.2)
    else let r := walkT (x :: a) b i (j + 1); (r.1, j :: r.2)
termination_by a b => a.length + b.length

theorem walkT_far : ∀ (a b : List UInt8) (i j : Nat), (walkT a b i j).1.length + (walkT a b i j).2.length = far a b
  | [], [], i, j => by simp [walkT, far, lcs]
  | [], y :: b, i, j => by
    have h := walkT_far [] b i (j + 1)
    rw [far_nil] at h ⊢
    unfold walkT
    simp only [List.length_cons]
    omega
  | x :: a, [], i, j => by
    have h := walkT_far a [] (i + 1) j
    rw [far_nil'] at h ⊢
    unfold walkT
    simp only [List.length_cons]
    omega
  | x :: a, y :: b, i, j => by
    unfold walkT
    by_cases h : x = y
    · rw [if_pos h]
      subst h
      rw [far_same]
      exact walkT_far a b (i + 1) (j + 1)
    · rw [if_neg h, far_other h]
      by_cases h2 : lcs (x :: a) b ≤ lcs a (y :: b)
      · rw [if_pos h2]
        have h3 := walkT_far a (y :: b) (i + 1) j
        have h4 : far a (y :: b) ≤ far (x :: a) b := by
          unfold far
          have l1 := lcs_le a (y :: b)
          have l2 := lcs_le (x :: a) b
          simp only [List.length_cons] at *
          omega
        simp only [List.length_cons]
        omega
      · rw [if_neg h2]
        have h3 := walkT_far (x :: a) b i (j + 1)
        have h4 : far (x :: a) b ≤ far a (y :: b) := by
          unfold far
          have l1 := lcs_le a (y :: b)
          have l2 := lcs_le (x :: a) b
          simp only [List.length_cons] at *
          omega
        simp only [List.length_cons]
        omega
termination_by a b => a.length + b.length

def UpTo (lo hi : Nat) : List Nat → Prop
  | [] => lo ≤ hi
  | p :: l => lo ≤ p ∧ p < hi ∧ UpTo (p + 1) hi l

theorem UpTo.weak {lo lo' hi : Nat} (h : lo' ≤ lo) : ∀ {l : List Nat}, UpTo lo hi l → UpTo lo' hi l
  | [], h0 => Nat.le_trans h h0
  | _ :: _, h0 => ⟨Nat.le_trans h h0.1, h0.2⟩

theorem walkT_up : ∀ (a b : List UInt8) (i j : Nat), UpTo i (i + a.length) (walkT a b i j).1 ∧ UpTo j (j + b.length) (walkT a b i j).2
  | [], [], i, j => by simp [walkT, UpTo]
  | [], y :: b, i, j => by
    obtain ⟨h1, h2⟩ := walkT_up [] b i (j + 1)
    unfold walkT
    refine ⟨h1, Nat.le_refl _, by simp, ?_⟩
    rw [List.length_cons, show j + (b.length + 1) = j + 1 + b.length by omega]
    exact h2
  | x :: a, [], i, j => by
    obtain ⟨h1, h2⟩ := walkT_up a [] (i + 1) j
    unfold walkT
    refine ⟨⟨Nat.le_refl _, by simp, ?_⟩, h2⟩
    rw [List.length_cons, show i + (a.length + 1) = i + 1 + a.length by omega]
    exact h1
  | x :: a, y :: b, i, j => by
    unfold walkT
    by_cases h : x = y
    · rw [if_pos h]
      obtain ⟨h1, h2⟩ := walkT_up a b (i + 1) (j + 1)
      rw [List.length_cons, List.length_cons, show i + (a.length + 1) = i + 1 + a.length by omega, show j + (b.length + 1) = j + 1 + b.length by omega]
      exact ⟨h1.weak (by omega), h2.weak (by omega)⟩
    · rw [if_neg h]
      by_cases h2 : lcs (x :: a) b ≤ lcs a (y :: b)
      · rw [if_pos h2]
        obtain ⟨h3, h4⟩ := walkT_up a (y :: b) (i + 1) j
        refine ⟨⟨Nat.le_refl _, by simp, ?_⟩, h4⟩
        rw [List.length_cons, show i + (a.length + 1) = i + 1 + a.length by omega]
        exact h3
      · rw [if_neg h2]
        obtain ⟨h3, h4⟩ := walkT_up (x :: a) b i (j + 1)
        refine ⟨h3, Nat.le_refl _, by simp, ?_⟩
        rw [List.length_cons, show j + (b.length + 1) = j + 1 + b.length by omega]
        exact h4
termination_by a b => a.length + b.length

def without : List UInt8 → Nat → List Nat → List UInt8
  | [], _, _ => []
  | x :: a, i, l => if i ∈ l then without a (i + 1) l else x :: without a (i + 1) l

theorem without_skip : ∀ (a : List UInt8) (i p : Nat) (l : List Nat), p < i → without a i (p :: l) = without a i l
  | [], _, _, _, _ => rfl
  | x :: a, i, p, l, h => by
    unfold without
    rw [without_skip a (i + 1) p l (by omega)]
    have e : i ∈ p :: l ↔ i ∈ l := by
      rw [List.mem_cons]
      exact ⟨fun h0 => h0.elim (fun e => by omega) id, Or.inr⟩
    simp only [e]

theorem UpTo.notMem {lo hi : Nat} : ∀ {l : List Nat} {p : Nat}, UpTo lo hi l → p < lo → p ∉ l
  | [], _, _, _ => by simp
  | q :: l, p, h, hp => by
    rw [List.mem_cons]
    rintro (e | e)
    · have := h.1; omega
    · exact UpTo.notMem h.2.2 (by have := h.1; omega) e

theorem without_none {a : List UInt8} : ∀ {i : Nat}, without a i [] = a := by
  induction a with
  | nil => intro i; rfl
  | cons x a ih => intro i; unfold without; simp [ih]

theorem walkT_keep : ∀ (a b : List UInt8) (i j : Nat), without a i (walkT a b i j).1 = without b j (walkT a b i j).2
  | [], [], i, j => rfl
  | [], y :: b, i, j => by
    have h := walkT_keep [] b i (j + 1)
    have u := (walkT_up [] b i (j + 1)).2
    unfold walkT
    show without [] i _ = without (y :: b) j (j :: _)
    conv => rhs; unfold without
    rw [if_pos (List.mem_cons_self ..), without_skip _ _ _ _ (Nat.lt_succ_self j), ← h]
    first | done | rfl
  | x :: a, [], i, j => by
    have h := walkT_keep a [] (i + 1) j
    unfold walkT
    show without (x :: a) i (i :: _) = without [] j _
    conv => lhs; unfold without
    rw [if_pos (List.mem_cons_self ..), without_skip _ _ _ _ (Nat.lt_succ_self i), h]
    first | done | rfl
  | x :: a, y :: b, i, j => by
    unfold walkT
    by_cases h : x = y
    · rw [if_pos h]
      subst h
      have h3 := walkT_keep a b (i + 1) (j + 1)
      obtain ⟨u1, u2⟩ := walkT_up a b (i + 1) (j + 1)
      conv => lhs; unfold without
      conv => rhs; unfold without
      rw [if_neg (u1.notMem (Nat.lt_succ_self i)), if_neg (u2.notMem (Nat.lt_succ_self j)), h3]
    · rw [if_neg h]
      by_cases h2 : lcs (x :: a) b ≤ lcs a (y :: b)
      · rw [if_pos h2]
        have h3 := walkT_keep a (y :: b) (i + 1) j
        show without (x :: a) i (i :: _) = _
        conv => lhs; unfold without
        rw [if_pos (List.mem_cons_self ..), without_skip _ _ _ _ (Nat.lt_succ_self i), h3]
      · rw [if_neg h2]
        have h3 := walkT_keep (x :: a) b i (j + 1)
        show _ = without (y :: b) j (j :: _)
        conv => rhs; unfold without
        rw [if_pos (List.mem_cons_self ..), without_skip _ _ _ _ (Nat.lt_succ_self j), h3]
termination_by a b => a.length + b.length
end Go.Proofs.YtnhjebdlcbhkcaeGreat

namespace Go.Proofs.YtnhjebdlcbhkcaeGreat

theorem ba_ext {a b : ByteArray} (h : a.data.toList = b.data.toList) : a = b := by
  cases a; cases b
  congr
  exact Array.toList_inj.1 h

theorem nums_list (xs : List Int) : (strOfNums xs).data.toList = xs.map fun n => UInt8.ofNat n.toNat := rfl

theorem ba_append_list (a b : ByteArray) : (a ++ b).data.toList = a.data.toList ++ b.data.toList := by simp
theorem ba_extract_list (t : ByteArray) (a b : Nat) : (t.extract a b).data.toList = (t.data.toList.take b).drop a := by
  rw [ByteArray.data_extract]
  simp [List.extract_eq_take_drop, List.drop_take]

theorem nums_append (xs ys : List Int) : strOfNums (xs ++ ys) = strOfNums xs ++ strOfNums ys := by
  apply ba_ext; rw [ba_append_list]; simp [nums_list]

theorem nums_left (xs : List Int) (n : Nat) : (strOfNums xs).extract 0 n = strOfNums (xs.take n) := by
  apply ba_ext; rw [ba_extract_list, nums_list, nums_list]; simp [List.map_take]

theorem nums_right (xs : List Int) (n : Nat) : (strOfNums xs).extract n (strOfNums xs).size = strOfNums (xs.drop n) := by
  apply ba_ext
  rw [ba_extract_list, nums_list, nums_list]
  rw [show (strOfNums xs).size = (xs.map fun n => UInt8.ofNat n.toNat).length by simp [strOfNums_size]]
  rw [List.take_length, List.map_drop]

theorem nums_of {xs : List Int} {t : ByteArray} (hl : xs.length = t.size) (h : ∀ i (h : i < xs.length), xs[i] = ((t.data.toList.getD i 0).toNat : Int)) : strOfNums xs = t := by
  apply ba_ext
  rw [nums_list]
  refine List.ext_getElem (by simp [hl]) fun i h1 h2 => ?_
  have hi : i < xs.length := by simpa using h1
  rw [List.getElem_map, h i hi, List.getD_eq_getElem?_getD, List.getElem?_eq_getElem h2]
  simp

theorem txt_put {l ax : List At} {t : ByteArray} (n : Nat) (hl : ax.length = t.size) (h : ∀ i (h : i < ax.length), ax[i].sign = ((t.data.toList.getD i 0).toNat : Int)) :
    strOfNums ((l.take n ++ (ax ++ l.drop n)).map At.sign) = (strOfNums (l.map At.sign)).extract 0 n ++ t ++ (strOfNums (l.map At.sign)).extract n (strOfNums (l.map At.sign)).size := by
  rw [nums_left, nums_right, List.map_append, List.map_append, nums_append, nums_append, List.map_take, List.map_drop]
  rw [nums_of (xs := ax.map At.sign) (t := t) (by simpa using hl) (fun i hi => by rw [List.getElem_map]; exact h i (by simpa using hi))]
  apply ba_ext
  simp only [ba_append_list, List.append_assoc]

end Go.Proofs.YtnhjebdlcbhkcaeGreat

namespace Go.Proofs.YtnhjebdlcbhkcaeGreat

def delA (a : List UInt8) (p : Nat) : List UInt8 := a.take p ++ a.drop (p + 1)
def tkR : List (Nat × Nat) → Nat → List (Nat × Nat)
  | [], p => [(p, 1)]
  | (q, n) :: R, p => if q + n = p then (q, n + 1) :: R else (p, 1) :: (q, n) :: R
theorem tkR_cons (q n : Nat) (R : List (Nat × Nat)) (p : Nat) : tkR ((q, n) :: R) p = if q + n = p then (q, n + 1) :: R else (p, 1) :: (q, n) :: R := rfl
def cutsR (a : List UInt8) (R : List (Nat × Nat)) : List UInt8 := R.foldl (fun s g => s.take g.1 ++ s.drop (g.1 + g.2)) a

theorem cutsR_tk {a : List UInt8} {R : List (Nat × Nat)} {p : Nat} (hp : p < a.length) : cutsR a (tkR R p) = cutsR (delA a p) R := by
  match R with
  | [] => rfl
  | (q, n) :: R =>
    rw [tkR_cons]
    by_cases h : q + n = p
    · rw [if_pos h]
      show cutsR (a.take q ++ a.drop (q + (n + 1))) R = cutsR ((delA a p).take q ++ (delA a p).drop (q + n)) R
      congr 1
      unfold delA
      have e1 : (a.take p ++ a.drop (p + 1)).take q = a.take q := by
        rw [List.take_append_of_le_length (by simp; omega), List.take_take, Nat.min_eq_left (by omega)]
      have e2 : (a.take p ++ a.drop (p + 1)).drop (q + n) = a.drop (q + (n + 1)) := by
        rw [h, List.drop_append_of_le_length (by simp; omega), List.drop_eq_nil_of_le (by simp; omega), List.nil_append]
        congr 1
        omega
      rw [e1, e2]
    · rw [if_neg h]; rfl

theorem UpTo.le {lo hi : Nat} : ∀ {l : List Nat}, UpTo lo hi l → lo ≤ hi
  | [], h => h
  | _ :: _, h => by have := h.1; have := h.2.1; omega

theorem UpTo.snoc {hi : Nat} : ∀ {l : List Nat} {lo p : Nat}, UpTo lo hi (l ++ [p]) → UpTo lo p l ∧ lo ≤ p ∧ p < hi
  | [], lo, p, h => ⟨h.1, h.1, h.2.1⟩
  | q :: l, lo, p, h => by
    obtain ⟨h1, h2, h3⟩ := h
    obtain ⟨h4, h5, h6⟩ := UpTo.snoc h3
    exact ⟨⟨h1, by omega, h4⟩, by omega, h6⟩

theorem delA_cons (x : UInt8) (a : List UInt8) (p : Nat) : delA (x :: a) (p + 1) = x :: delA a p := by simp [delA]
theorem delA_zero (x : UInt8) (a : List UInt8) : delA (x :: a) 0 = a := by simp [delA]

theorem mem_up {lo hi : Nat} : ∀ {l : List Nat} {p : Nat}, UpTo lo hi l → p ∈ l → lo ≤ p ∧ p < hi
  | [], _, _, h => by simp at h
  | q :: l, p, h, hp => by
    rcases List.mem_cons.1 hp with e | e
    · subst e; exact ⟨h.1, h.2.1⟩
    · have := mem_up h.2.2 e
      have := h.1
      omega

theorem without_tail : ∀ {a : List UInt8} {i : Nat} {l : List Nat} , (∀ p ∈ l, i < p) → ∀ x : UInt8, without (x :: a) i l = x :: without a (i + 1) l := by
  intro a i l h x
  conv => lhs; unfold without
  rw [if_neg fun e => by have := h i e; omega]

theorem UpTo.rest {i hi : Nat} : ∀ {l : List Nat}, UpTo i hi l → i ∉ l → i < hi → UpTo (i + 1) hi l
  | [], _, _, hlt => hlt
  | q :: l, h, hn, _ => by
    rw [List.mem_cons, not_or] at hn
    exact ⟨by have := h.1; omega, h.2⟩

theorem UpTo.head {i hi : Nat} {l : List Nat} (h : UpTo i hi l) (hm : i ∈ l) : ∃ l', l = i :: l' ∧ UpTo (i + 1) hi l' := by
  match l, h, hm with
  | q :: l, h, hm =>
    rcases List.mem_cons.1 hm with e | e
    · subst e; exact ⟨l, rfl, h.2.2⟩
    · have := mem_up h.2.2 e
      have := h.1
      omega

theorem without_snoc : ∀ {a : List UInt8} {i p : Nat} {T : List Nat}, UpTo i (i + a.length) (T ++ [p]) → without a i (T ++ [p]) = without (delA a (p - i)) i T
  | [], i, p, T, h => by
    obtain ⟨_, h1, h2⟩ := h.snoc
    simp at h2; omega
  | x :: a, i, p, T, h => by
    rw [List.length_cons, show i + (a.length + 1) = i + 1 + a.length by omega] at h
    obtain ⟨h1, h2, h3⟩ := h.snoc
    by_cases hi : i ∈ T
    · obtain ⟨T', rfl, h4⟩ := h1.head hi
      have h5 : UpTo (i + 1) (i + 1 + a.length) (T' ++ [p]) := h.2.2
      have hp : i < p := by have := h4.le; omega
      rw [List.cons_append]
      conv => lhs; unfold without
      rw [if_pos (List.mem_cons_self ..), without_skip _ _ _ _ (Nat.lt_succ_self i), without_snoc h5]
      rw [show p - i = (p - (i + 1)) + 1 by omega, delA_cons]
      conv => rhs; unfold without
      rw [if_pos (List.mem_cons_self ..), without_skip _ _ _ _ (Nat.lt_succ_self i)]
    · by_cases hp : p = i
      · subst hp
        have hT : T = [] := by
          match T, h1, hi with
          | [], _, _ => rfl
          | q :: T, h1, _ => exact absurd h1.2.1 (by have := h1.1; omega)
        subst hT
        rw [List.nil_append, Nat.sub_self, delA_zero, without_none]
        conv => lhs; unfold without
        rw [if_pos (List.mem_cons_self ..), without_skip _ _ _ _ (Nat.lt_succ_self p), without_none]
      · have hm : i ∉ T ++ [p] := by
          rw [List.mem_append, List.mem_singleton]
          rintro (e | e)
          · exact hi e
          · exact hp e.symm
        have h5 := h.rest hm (by omega)
        conv => lhs; unfold without
        rw [if_neg hm, without_snoc h5, show p - i = (p - (i + 1)) + 1 by omega, delA_cons]
        conv => rhs; unfold without
        rw [if_neg hi]

theorem cuts_all : ∀ {n : Nat} {a : List UInt8} {T : List Nat}, T.length = n → UpTo 0 a.length T → cutsR a (T.foldl tkR []) = without a 0 T
  | 0, a, T, hn, _ => by
    rw [List.eq_nil_of_length_eq_zero hn, without_none]; rfl
  | n + 1, a, T, hn, h => by
    obtain ⟨T', p, rfl⟩ : ∃ T' p, T = T' ++ [p] := by
      have hne : T ≠ [] := by intro e; rw [e] at hn; simp at hn
      exact ⟨T.dropLast, T.getLast hne, (List.dropLast_concat_getLast hne).symm⟩
    obtain ⟨h1, h2, h3⟩ := h.snoc
    rw [List.foldl_append]
    show cutsR a (tkR (T'.foldl tkR []) p) = _
    rw [cutsR_tk h3, without_snoc (by simpa using h), Nat.sub_zero]
    have hd : (delA a p).length = a.length - 1 := by unfold delA; simp; omega
    refine cuts_all (by simpa using hn) ?_
    rw [hd]
    clear hn h
    have weak : ∀ {l : List Nat} {lo hi hi' : Nat}, UpTo lo hi l → hi ≤ hi' → UpTo lo hi' l := by
      intro l
      induction l with
      | nil => intro lo hi hi' h0 h1; exact Nat.le_trans h0 h1
      | cons q l ih => intro lo hi hi' h0 h1; exact ⟨h0.1, by have := h0.2.1; omega, ih h0.2.2 h1⟩
    exact weak h1 (by omega)

def RUp : Nat → List (Nat × Nat) → Prop
  | _, [] => True
  | hi, (q, n) :: R => 1 ≤ n ∧ q + n ≤ hi ∧ RUp q R

theorem RUp.weak {hi hi' : Nat} (h : hi ≤ hi') : ∀ {R : List (Nat × Nat)}, RUp hi R → RUp hi' R
  | [], _ => trivial
  | _ :: _, h0 => ⟨h0.1, Nat.le_trans h0.2.1 h, h0.2.2⟩

theorem tkR_up {R : List (Nat × Nat)} {p : Nat} (h : RUp p R) : RUp (p + 1) (tkR R p) := by
  match R, h with
  | [], _ => exact ⟨Nat.le_refl _, Nat.le_refl _, trivial⟩
  | (q, n) :: R, h =>
    rw [tkR_cons]
    by_cases e : q + n = p
    · rw [if_pos e]; exact ⟨by omega, by omega, h.2.2⟩
    · rw [if_neg e]; exact ⟨Nat.le_refl _, Nat.le_refl _, h⟩

theorem tkAll_up : ∀ {T : List Nat} {lo hi : Nat} {R : List (Nat × Nat)}, UpTo lo hi T → RUp lo R → RUp hi (T.foldl tkR R)
  | [], _, _, _, h, h0 => h0.weak h
  | p :: T, lo, hi, R, h, h0 => by
    rw [List.foldl_cons]
    exact tkAll_up h.2.2 (tkR_up (h0.weak h.1))

theorem tkR_sum (R : List (Nat × Nat)) (p : Nat) : ((tkR R p).map Prod.snd).sum = (R.map Prod.snd).sum + 1 := by
  match R with
  | [] => rfl
  | (q, n) :: R =>
    rw [tkR_cons]
    by_cases e : q + n = p
    · rw [if_pos e]; simp; omega
    · rw [if_neg e]; simp; omega
theorem tkAll_sum : ∀ (T : List Nat) (R : List (Nat × Nat)), ((T.foldl tkR R).map Prod.snd).sum = (R.map Prod.snd).sum + T.length
  | [], R => by simp
  | p :: T, R => by
    rw [List.foldl_cons, tkAll_sum T, tkR_sum, List.length_cons]; omega

def insA1 (s : List UInt8) (p : Nat) (c : UInt8) : List UInt8 := s.take p ++ (c :: s.drop p)
def ptR : List (Nat × List UInt8) → Nat → UInt8 → List (Nat × List UInt8)
  | [], p, c => [(p, [c])]
  | (q, t) :: R, p, c => if q + t.length = p ∧ t.length < 60 then (q, t ++ [c]) :: R else (p, [c]) :: (q, t) :: R
theorem ptR_cons (q : Nat) (t : List UInt8) (R : List (Nat × List UInt8)) (p : Nat) (c : UInt8) : ptR ((q, t) :: R) p c = if q + t.length = p ∧ t.length < 60 then (q, t ++ [c]) :: R else (p, [c]) :: (q, t) :: R := rfl
def insR (s : List UInt8) (R : List (Nat × List UInt8)) : List UInt8 := R.foldr (fun g s => s.take g.1 ++ (g.2 ++ s.drop g.1)) s

def GOk (s : List UInt8) : List (Nat × List UInt8) → Prop
  | [] => True
  | (q, t) :: R => q ≤ (insR s R).length ∧ 0 < t.length ∧ t.length ≤ 60 ∧ GOk s R

theorem insR_pt {s : List UInt8} {R : List (Nat × List UInt8)} {p : Nat} {c : UInt8} (h : GOk s R) : insR s (ptR R p c) = insA1 (insR s R) p c := by
  match R, h with
  | [], _ => rfl
  | (q, t) :: R, h =>
    rw [ptR_cons]
    by_cases e : q + t.length = p ∧ t.length < 60
    · rw [if_pos e]
      obtain ⟨e1, _⟩ := e
      show (insR s R).take q ++ ((t ++ [c]) ++ (insR s R).drop q) = insA1 ((insR s R).take q ++ (t ++ (insR s R).drop q)) p c
      have hq := h.1
      generalize insR s R = u at hq
      unfold insA1
      have e2 : (u.take q ++ (t ++ u.drop q)).take p = u.take q ++ t := by
        rw [← List.append_assoc, List.take_append_of_le_length (by simp; omega), List.take_of_length_le (by simp; omega)]
      have e3 : (u.take q ++ (t ++ u.drop q)).drop p = u.drop q := by
        rw [← List.append_assoc, List.drop_append_of_le_length (by simp; omega), List.drop_eq_nil_of_le (by simp; omega), List.nil_append]
      rw [e2, e3]
      simp
    · rw [if_neg e]; rfl

theorem ptR_ok {s : List UInt8} {R : List (Nat × List UInt8)} {p : Nat} {c : UInt8} (h : GOk s R) (hp : p ≤ (insR s R).length) : GOk s (ptR R p c) := by
  match R, h with
  | [], _ => exact ⟨hp, by simp, by simp, trivial⟩
  | (q, t) :: R, h =>
    rw [ptR_cons]
    by_cases e : q + t.length = p ∧ t.length < 60
    · rw [if_pos e]; exact ⟨h.1, by simp, by simp; omega, h.2.2.2⟩
    · rw [if_neg e]; exact ⟨hp, by simp, by simp, h⟩

theorem ptR_sum (R : List (Nat × List UInt8)) (p : Nat) (c : UInt8) : ((ptR R p c).map (fun g => g.2.length)).sum = (R.map (fun g => g.2.length)).sum + 1 := by
  match R with
  | [] => rfl
  | (q, t) :: R =>
    rw [ptR_cons]
    by_cases e : q + t.length = p ∧ t.length < 60
    · rw [if_pos e]; simp; omega
    · rw [if_neg e]; simp; omega

theorem without_len : ∀ {b : List UInt8} {i p : Nat} {P : List Nat}, UpTo i (i + b.length) (p :: P) → p - i ≤ (without b i (p :: P)).length
  | [], i, p, P, h => by have := h.1; have := h.2.1; simp at this; omega
  | x :: b, i, p, P, h => by
    rw [List.length_cons, show i + (b.length + 1) = i + 1 + b.length by omega] at h
    by_cases e : p = i
    · omega
    · have hm : i ∉ p :: P := by
        rw [List.mem_cons]
        rintro (e2 | e2)
        · exact e e2.symm
        · have := mem_up h.2.2 e2; have := h.1; omega
      conv => rhs; unfold without
      rw [if_neg hm, List.length_cons]
      have := without_len (h.rest hm (by have := h.1; have := h.2.1; omega))
      omega

theorem without_ins : ∀ {b : List UInt8} {i p : Nat} {P : List Nat} (_ : UpTo i (i + b.length) (p :: P)), insA1 (without b i (p :: P)) (p - i) (b.getD (p - i) 0) = without b i P
  | [], i, p, P, h => by have := h.1; have := h.2.1; simp at this; omega
  | x :: b, i, p, P, h => by
    rw [List.length_cons, show i + (b.length + 1) = i + 1 + b.length by omega] at h
    by_cases e : p = i
    · subst e
      have hP : ∀ q ∈ P, p < q := fun q hq => by have := mem_up h.2.2 hq; omega
      rw [without_tail hP, Nat.sub_self]
      conv => lhs; arg 1; unfold without
      rw [if_pos (List.mem_cons_self ..), without_skip _ _ _ _ (Nat.lt_succ_self p)]
      simp [insA1]
    · have hm : i ∉ p :: P := by
        rw [List.mem_cons]
        rintro (e2 | e2)
        · exact e e2.symm
        · have := mem_up h.2.2 e2; have := h.1; omega
      have hm2 : ∀ q ∈ P, i < q := fun q hq => by have := mem_up h.2.2 hq; have := h.1; omega
      have ih := without_ins (h.rest hm (by have := h.1; have := h.2.1; omega))
      rw [without_tail hm2, ← ih]
      conv => lhs; arg 1; unfold without
      rw [if_neg hm, show p - i = (p - (i + 1)) + 1 by have := h.1; omega]
      simp [insA1]

theorem puts_all : ∀ {n : Nat} {b : List UInt8} {P P' : List Nat}, P.length = n → UpTo 0 b.length (P ++ P') →
    GOk (without b 0 (P ++ P')) (P.foldl (fun R p => ptR R p (b.getD p 0)) []) ∧ insR (without b 0 (P ++ P')) (P.foldl (fun R p => ptR R p (b.getD p 0)) []) = without b 0 P'
  | 0, b, P, P', hn, _ => by
    rw [List.eq_nil_of_length_eq_zero hn]
    exact ⟨trivial, rfl⟩
  | n + 1, b, P, P', hn, h => by
    obtain ⟨T', p, rfl⟩ : ∃ T' p, P = T' ++ [p] := by
      have hne : P ≠ [] := by intro e; rw [e] at hn; simp at hn
      exact ⟨P.dropLast, P.getLast hne, (List.dropLast_concat_getLast hne).symm⟩
    rw [List.append_assoc, List.singleton_append] at h ⊢
    obtain ⟨h1, h2⟩ := puts_all (n := n) (P := T') (P' := p :: P') (by simpa using hn) h
    have hu : UpTo 0 (0 + b.length) (p :: P') := by
      have key : ∀ {l : List Nat} {lo hi : Nat} {l' : List Nat}, UpTo lo hi (l ++ l') → UpTo lo hi l' := by
        intro l
        induction l with
        | nil => intro lo hi l' h; exact h
        | cons q l ih => intro lo hi l' h; exact (ih h.2.2).weak (by have := h.1; omega)
      rw [Nat.zero_add]
      exact key h
    rw [List.foldl_append]
    show GOk _ (ptR _ p _) ∧ insR _ (ptR _ p _) = _
    refine ⟨ptR_ok h1 ?_, ?_⟩
    · rw [h2]; have := without_len hu; omega
    · rw [insR_pt h1, h2]
      have := without_ins hu
      rwa [Nat.sub_zero] at this
end Go.Proofs.YtnhjebdlcbhkcaeGreat
