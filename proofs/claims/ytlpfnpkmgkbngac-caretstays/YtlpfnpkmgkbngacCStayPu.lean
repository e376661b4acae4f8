/- What caret.Of and caret.At answer, plainly. No Go text is walked here. -/
import Derived.Test.YtlpfnpkmgkbngacStateCk
import Derived.Test.YtlpfnpkmgkbngacAnyPu
namespace Go.Proofs.Ytlpfnpkmgkbngac
open Go.RowKit

/-- how many atoms stand up to a mark -/
def caretN (l : List At) (m : List (Int × Int)) (d : Int) : Nat := l.countP fun x => decide (ordM x.path x.clock m d ≤ 0)

theorem caretN_cut {l : List At} {m : List (Int × Int)} {d : Int} {i : Nat} (hi : i ≤ l.length) (h1 : ∀ t (h : t < l.length), t < i → ordM l[t].path l[t].clock m d ≤ 0) (h2 : ∀ t (h : t < l.length), i ≤ t → 0 < ordM l[t].path l[t].clock m d) : caretN l m d = i := by
  have e1 : (l.take i).countP (fun x => decide (ordM x.path x.clock m d ≤ 0)) = (l.take i).length := by
    rw [List.countP_eq_length]
    intro x hx
    obtain ⟨j, hj, rfl⟩ := List.getElem_of_mem hx
    have hj' : j < i ∧ j < l.length := by simp at hj; omega
    simpa using h1 j hj'.2 hj'.1
  have e2 : (l.drop i).countP (fun x => decide (ordM x.path x.clock m d ≤ 0)) = 0 := by
    rw [List.countP_eq_zero]
    intro x hx
    obtain ⟨j, hj, rfl⟩ := List.getElem_of_mem hx
    have hj' : i + j < l.length := by simp at hj; omega
    have := h2 (i + j) hj' (by omega)
    simp; omega
  unfold caretN
  rw [← List.take_append_drop i l, List.countP_append, e1, e2]
  simp; omega

/-- what Of answers: a mark's steps and clock, an error -/
def ofL (l : List At) (g : List (List (Int × Int) × Int)) (n : Int) : List (Int × Int) × Int × Int :=
  if chkS l g ≠ 0 then ([], 0, chkS l g) else if n < 0 ∨ (l.length : Int) < n then ([], 0, 3) else if n = 0 then ([], 0, 0) else match l[n.toNat - 1]? with
    | none => ([], 0, 0)
    | some x => (x.path, x.clock, 0)
/-- what At answers: a place, an error -/
def atL (l : List At) (g : List (List (Int × Int) × Int)) (m : List (Int × Int)) (d : Int) : Nat × Int :=
  if chkS l g ≠ 0 then (0, chkS l g) else if m = [] ∧ d = 0 then (0, 0) else if chk m d ≠ 0 then (0, chk m d) else (caretN l m d, 0)

theorem chkS_okL {l : List At} {g : List (List (Int × Int) × Int)} (h : chkS l g = 0) : OkL l := by
  unfold chkS at h
  by_cases e : chkL l = 0
  · exact okL_of e
  · rw [if_pos e] at h; exact absurd h e

/-- a caret of a place is at that place -/
theorem caretN_back {l : List At} (hok : OkL l) {k : Nat} (hk : k < l.length) : caretN l l[k].path l[k].clock = k + 1 := by
  refine caretN_cut (by omega) (fun t ht hlt => ?_) (fun t ht hle => ?_)
  · show ordA l[t] l[k] ≤ 0
    by_cases e : t = k
    · subst e; rw [cmpA.refl]; exact Int.le_refl _
    · have := hok.get hk (show t < k by omega); omega
  · show 0 < ordA l[t] l[k]
    have h1 := hok.get ht (show k < t by omega)
    have h2 := cmpA.anti l[t] l[k]
    omega
end Go.Proofs.Ytlpfnpkmgkbngac

namespace Go.Proofs.Ytlpfnpkmgkbngac
open Go.RowKit

theorem countP_lt {α : Type} {P : α → Bool} : ∀ {l : List α}, l.Pairwise (fun x y => P y = true → P x = true) → ∀ h (hh : h < l.length), (h < l.countP P ↔ P l[h] = true)
  | [], _, h, hh => by simp at hh
  | x :: r, hp, h, hh => by
    obtain ⟨h1, h2⟩ := List.pairwise_cons.1 hp
    cases hx : P x
    · have h0 : r.countP P = 0 := by
        rw [List.countP_eq_zero]
        intro y hy e
        have := h1 y hy e
        rw [hx] at this; cases this
      rw [List.countP_cons, h0, hx]
      cases h with
      | zero => simp [hx]
      | succ h =>
        have hr : h < r.length := by simpa using hh
        have hm : P r[h] ≠ true := fun e => by
          have := h1 _ (List.getElem_mem hr) e
          rw [hx] at this; cases this
        simpa using hm
    · rw [List.countP_cons, hx]
      cases h with
      | zero => simp [hx]
      | succ h =>
        have := countP_lt h2 h (by simpa using hh)
        simp only [List.getElem_cons_succ]
        rw [← this]
        simp

theorem caretN_lt {l : List At} (hok : OkL l) (m : List (Int × Int)) (d : Int) {h : Nat} (hh : h < l.length) : h < caretN l m d ↔ ordM l[h].path l[h].clock m d ≤ 0 := by
  have hp : l.Pairwise (fun x y => decide (ordM y.path y.clock m d ≤ 0) = true → decide (ordM x.path x.clock m d ≤ 0) = true) := by
    refine hok.rise.imp ?_
    intro x y hxy hy
    rw [decide_eq_true_eq] at hy ⊢
    exact cmpM.le_le (a := (x.path, x.clock)) (b := (y.path, y.clock)) (c := (m, d)) (Int.le_of_lt hxy) hy
  have := countP_lt hp h hh
  unfold caretN
  rw [this, decide_eq_true_eq]

/-- the same mark in two states stands on the same side of a caret -/
theorem caret_side {l l' : List At} (hok : OkL l) (hok' : OkL l') (m : List (Int × Int)) (d : Int) {i h : Nat} (hi : i < l.length) (hh : h < l'.length) (e1 : l[i].path = l'[h].path) (e2 : l[i].clock = l'[h].clock) : h < caretN l' m d ↔ i < caretN l m d := by
  rw [caretN_lt hok' m d hh, caretN_lt hok m d hi, e1, e2]

theorem least_ex : ∀ {S : List At} {x : At}, (∃ y ∈ S, ordA y x = 0) → ∃ z ∈ S, ordA z x = 0 ∧ ∀ y ∈ S, ordA y x = 0 → z.sign ≤ y.sign
  | [], x, h => by obtain ⟨y, hy, _⟩ := h; simp at hy
  | a :: S, x, h => by
    by_cases hS : ∃ y ∈ S, ordA y x = 0
    · obtain ⟨z, hz, h0, hle⟩ := least_ex hS
      by_cases ha : ordA a x = 0 ∧ a.sign < z.sign
      · refine ⟨a, by simp, ha.1, fun y hy e => ?_⟩
        rcases List.mem_cons.1 hy with rfl | hy
        · exact Int.le_refl _
        · have := hle y hy e; omega
      · refine ⟨z, by simp [hz], h0, fun y hy e => ?_⟩
        rcases List.mem_cons.1 hy with rfl | hy
        · exact Int.not_lt.1 (fun hlt => ha ⟨e, hlt⟩)
        · exact hle y hy e
    · obtain ⟨y, hy, e⟩ := h
      rcases List.mem_cons.1 hy with rfl | hy
      · refine ⟨y, by simp, e, fun y' hy' e' => ?_⟩
        rcases List.mem_cons.1 hy' with rfl | hy'
        · exact Int.le_refl _
        · exact absurd ⟨y', hy', e'⟩ hS
      · exact absurd ⟨y, hy, e⟩ hS

/-- what was there, and is not gone, is there -/
theorem mark_stays {l l' : List At} {g g' : List Mk} {ds : List Dd} {x : At} (hok : OkS l g) (h : doAll l g ds = some (l', g')) (hx : x ∈ l) : hasGone g' x.path x.clock = true ∨ ∃ j, ∃ hj : j < l'.length, l'[j].path = x.path ∧ l'[j].clock = x.clock := by
  by_cases hg : (x.path, x.clock) ∈ g'
  · exact Or.inl (hasGone_iff.2 hg)
  · have s := sum_all (sum_new hok) h
    obtain ⟨z, hz, h0, hle⟩ := least_ex (S := l ++ ds.flatMap comeD) (x := x) ⟨x, by simp [hx], cmpA.refl x⟩
    obtain ⟨e1, e2⟩ := ordA_zero h0
    have hL : Least (l ++ ds.flatMap comeD) z := ⟨hz, fun y hy e => hle y hy (by have := cmpA.eqv z y x e; omega)⟩
    have hm : z ∈ l' := (s.there z).2 ⟨hL, by rw [e1, e2]; exact hg⟩
    obtain ⟨j, hj, rfl⟩ := List.getElem_of_mem hm
    exact Or.inr ⟨j, hj, e1, e2⟩

/-- all that the law asks of a caret, of what deeds make of a state -/
structure Stays (l : List At) (l' : List At) (g' : List Mk) (pl k : Nat) (m : List (Int × Int)) (d : Int) : Prop where
  le : k ≤ l'.length
  side : ∀ i h (hi : i < l.length) (hh : h < l'.length), ordM l[i].path l[i].clock l'[h].path l'[h].clock = 0 → (h < k ↔ i < pl)
  last : pl = 0 ∨ hasGone g' m d = true ∨ ∃ j, ∃ hj : j < l'.length, k = j + 1 ∧ ordM l'[j].path l'[j].clock m d = 0

theorem caretN_le (l : List At) (m : List (Int × Int)) (d : Int) : caretN l m d ≤ l.length := List.countP_le_length

theorem ofL_err {l : List At} {g : List (List (Int × Int) × Int)} {n : Int} (h : (ofL l g n).2.2 ≠ 0) : (ofL l g n).1 = [] := by
  unfold ofL at h ⊢
  split
  · rfl
  · rename_i h1
    rw [if_neg h1] at h
    split
    · rfl
    · rename_i h2
      rw [if_neg h2] at h
      split
      · rfl
      · rename_i h3
        rw [if_neg h3] at h
        split <;> simp_all

theorem caret_law {l : List At} {g : List Mk} {n : Int} (h : (ofL l g n).2.2 = 0) : ∃ pl : Nat, n = pl ∧ OkS l g ∧ (ofL l g n).1.length ≤ 10 ∧ atL l g (ofL l g n).1 (ofL l g n).2.1 = (pl, 0) ∧
    ∀ (l' : List At) (g' : List Mk) (ds : List Dd), OkS l' g' → doAll l g ds = some (l', g') → ∃ k, atL l' g' (ofL l g n).1 (ofL l g n).2.1 = (k, 0) ∧ Stays l l' g' pl k (ofL l g n).1 (ofL l g n).2.1 := by
  unfold ofL at h ⊢
  by_cases hc : chkS l g = 0
  case neg => rw [if_pos hc] at h; exact absurd h hc
  rw [if_neg (by simpa using hc)] at h ⊢
  have hok := okS_of hc
  by_cases hn : n < 0 ∨ (l.length : Int) < n
  · rw [if_pos hn] at h; cases h
  rw [if_neg hn]
  by_cases h0 : n = 0
  · rw [if_pos h0]
    refine ⟨0, h0, hok, by simp, ?_, fun l' g' ds hok' hd => ⟨0, ?_, ⟨Nat.zero_le _, fun i h _ _ _ => by omega, Or.inl rfl⟩⟩⟩
    · unfold atL; rw [if_neg (by simpa using hc), if_pos (by simp)]
    · unfold atL; rw [if_neg (by simpa using okS_chk hok'), if_pos (by simp)]
  rw [if_neg h0]
  obtain ⟨j, rfl⟩ : ∃ j : Nat, n = ((j + 1 : Nat) : Int) := ⟨n.toNat - 1, by omega⟩
  have hj : j < l.length := by omega
  have e : l[((j + 1 : Nat) : Int).toNat - 1]? = some l[j] := by
    rw [show ((j + 1 : Nat) : Int).toNat - 1 = j by omega, List.getElem?_eq_getElem hj]
  rw [e]
  have hp := okPath hok.atoms j hj
  have hck : chk l[j].path l[j].clock = 0 := (hok.atoms.each _ (List.getElem_mem hj)).1
  have hne : ¬ (l[j].path = [] ∧ l[j].clock = 0) := fun e => by rw [e.1] at hp; simp at hp
  refine ⟨j + 1, rfl, hok, hp.2, ?_, fun l' g' ds hok' hd => ⟨caretN l' l[j].path l[j].clock, ?_, ⟨caretN_le _ _ _, fun i h hi hh he => ?_, ?_⟩⟩⟩
  · unfold atL
    rw [if_neg (by simpa using hc), if_neg hne, if_neg (by simpa using hck), caretN_back hok.atoms hj]
  · unfold atL
    rw [if_neg (by simpa using okS_chk hok'), if_neg hne, if_neg (by simpa using hck)]
  · obtain ⟨e1, e2⟩ := ordM_zero he
    rw [caret_side hok.atoms hok'.atoms _ _ hi hh e1 e2, caretN_back hok.atoms hj]
  · rcases mark_stays hok hd (List.getElem_mem hj) with h1 | ⟨t, ht, e1, e2⟩
    · exact Or.inr (Or.inl h1)
    · refine Or.inr (Or.inr ⟨t, ht, ?_, ?_⟩)
      · have := caretN_back hok'.atoms ht
        rw [e1, e2] at this
        exact this
      · rw [e1, e2]; exact cmpM.refl (l[j].path, l[j].clock)
end Go.Proofs.Ytlpfnpkmgkbngac
