/- What caret.Of and caret.At answer, plainly. No Go text is walked here. -/
import Derived.Test.YtcggeeejkgndmacStateCk
namespace Go.Proofs.Ytcggeeejkgndmac
open Go.RowKit

/-- how many atoms stand up to a mark -/
def caretN (l : List At) (m : List (Int × Int)) (d : Int) : Nat := l.countP fun x => decide (ordM x.path x.clock m d ≤ 0)

theorem caretN_cut {l : List At} {m : List (Int × Int)} {d : Int} {i : Nat} (hi : i ≤ l.length) (h1 : ∀ t (h : t < l.length), t < i → ordM l[t].path l[t].clock m d ≤ 0) (h2 : ∀ t (h : t < l.length), i ≤ t → 0 < ordM l[t].path l[t].clock m d) : caretN l m d = i := by
  have e1 : (l.take i).countP (fun x => decide (ordM x.path x.clock m d ≤ 0)) = (l.take i).length := by
    rw [List.countP_eq_length]
    intro x hx
    obtain ⟨j, hj, rfl⟩ := List.getElem_of_mem hx
    have hj' : j < i ∧ j < l.length := by simp at hj; omega
    simpa using h1 j hj'.2 hj'.1
  have e2 : (l.drop i).countP (fun x => decide (ordM x.path x.clock m d ≤ 0)) = 0 := by
    rw [List.countP_eq_zero]
    intro x hx
    obtain ⟨j, hj, rfl⟩ := List.getElem_of_mem hx
    have hj' : i + j < l.length := by simp at hj; omega
    have := h2 (i + j) hj' (by omega)
    simp; omega
  unfold caretN
  rw [← List.take_append_drop i l, List.countP_append, e1, e2]
  simp; omega

/-- what Of answers: a mark's steps and clock, an error -/
def ofL (l : List At) (g : List (List (Int × Int) × Int)) (n : Int) : List (Int × Int) × Int × Int :=
  if chkS l g ≠ 0 then ([], 0, chkS l g) else if n < 0 ∨ (l.length : Int) < n then ([], 0, 3) else if n = 0 then ([], 0, 0) else match l[n.toNat - 1]? with
    | none => ([], 0, 0)
    | some x => (x.path, x.clock, 0)
/-- what At answers: a place, an error -/
def atL (l : List At) (g : List (List (Int × Int) × Int)) (m : List (Int × Int)) (d : Int) : Nat × Int :=
  if chkS l g ≠ 0 then (0, chkS l g) else if m = [] ∧ d = 0 then (0, 0) else if chk m d ≠ 0 then (0, chk m d) else (caretN l m d, 0)

theorem chkS_okL {l : List At} {g : List (List (Int × Int) × Int)} (h : chkS l g = 0) : OkL l := by
  unfold chkS at h
  by_cases e : chkL l = 0
  · exact okL_of e
  · rw [if_pos e] at h; exact absurd h e

/-- a caret of a place is at that place -/
theorem caretN_back {l : List At} (hok : OkL l) {k : Nat} (hk : k < l.length) : caretN l l[k].path l[k].clock = k + 1 := by
  refine caretN_cut (by omega) (fun t ht hlt => ?_) (fun t ht hle => ?_)
  · show ordA l[t] l[k] ≤ 0
    by_cases e : t = k
    · subst e; rw [cmpA.refl]; exact Int.le_refl _
    · have := hok.get hk (show t < k by omega); omega
  · show 0 < ordA l[t] l[k]
    have h1 := hok.get ht (show k < t by omega)
    have h2 := cmpA.anti l[t] l[k]
    omega
end Go.Proofs.Ytcggeeejkgndmac
