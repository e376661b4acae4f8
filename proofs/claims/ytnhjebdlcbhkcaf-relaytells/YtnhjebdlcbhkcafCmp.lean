/- A note that keeps the rules is small enough. -/
import Derived.Test.YtnhjebdlcbhkcafEncC
import Derived.Test.YtnhjebdlcbhkcafFrListN
import Derived.Test.YtnhjebdlcbhkcafRelPu
import Derived.Test.YtnhjebdlcbhkcafOrderC
namespace Go.Proofs.Ytnhjebdlcbhkcaf
open Go.RowKit

theorem smallD_of {d : Dd} (h : chkD d = 0) : DdSmall d := by
  rcases roomD_of h with ⟨_, h2, h3, h4, _, h6⟩ | ⟨_, h2, h3, h4, h5, _, h7⟩
  · have := h2.1
    refine ⟨?_, ?_, h3, ?_, ?_⟩
    · omega
    · rw [h4]; simp
    · omega
    · omega
  · have := h2.1
    refine ⟨?_, ?_, ?_, h3, h4⟩
    · rw [h5]; simp
    · omega
    · rw [h7]; show (0 : Nat) ≤ 255; omega
theorem chkN_deeds {n : Nt} (h : chkN n = 0) : n.needs.length = 5 ∧ n.deeds.length ≤ 20 ∧ ∀ d ∈ n.deeds, chkD d = 0 := by
  unfold chkN at h
  split at h
  · cases h
  split at h
  · cases h
  rename_i h2
  split at h
  · cases h
  split at h
  · cases h
  split at h
  · cases h
  split at h
  · cases h
  rename_i h6
  exact ⟨by simpa using h2, by omega, chkDl_zero h⟩
theorem smallN_of {n : Nt} (h : chkN n = 0) : NtSmall n := by
  obtain ⟨h1, h2, h3⟩ := chkN_deeds h
  exact ⟨by omega, by omega, fun d hd => smallD_of (h3 d hd)⟩
theorem small_rel {ns : List Nt} (h : chkRel ns = 0) : ns.length ≤ 300 ∧ ∀ n ∈ ns, NtSmall n :=
  ⟨(chkRel_len h).1, fun n hn => smallN_of ((chkRel_len h).2 n hn)⟩
end Go.Proofs.Ytnhjebdlcbhkcaf

namespace Go.Proofs.Ytnhjebdlcbhkcaf

/-- an order that answers -1, 0 or 1 -/
structure Cmp {α : Type} (f : α → α → Int) : Prop where
  anti : ∀ a b, f a b = - f b a
  vals : ∀ a b, f a b = -1 ∨ f a b = 0 ∨ f a b = 1
  eqv : ∀ a b c, f a b = 0 → f b c = f a c
  trans : ∀ a b c, f a b = -1 → f b c = -1 → f a c = -1

theorem Cmp.refl {α : Type} {f : α → α → Int} (h : Cmp f) (a : α) : f a a = 0 := by have := h.anti a a; omega
theorem Cmp.eqv' {α : Type} {f : α → α → Int} (h : Cmp f) (a b c : α) (e : f b c = 0) : f a b = f a c := by
  have h1 := h.anti a b; have h2 := h.anti a c; have h3 := h.eqv c b a (by have := h.anti c b; omega); omega
theorem Cmp.le_le {α : Type} {f : α → α → Int} (h : Cmp f) {a b c : α} (x : f a b ≤ 0) (y : f b c ≤ 0) : f a c ≤ 0 := by
  rcases h.vals a b with e | e | e
  · rcases h.vals b c with e2 | e2 | e2
    · have := h.trans a b c e e2; omega
    · have := h.eqv' a b c e2; omega
    · omega
  · have := h.eqv a b c e; omega
  · omega
theorem Cmp.le_lt {α : Type} {f : α → α → Int} (h : Cmp f) {a b c : α} (x : f a b ≤ 0) (y : f b c < 0) : f a c < 0 := by
  rcases h.vals a b with e | e | e
  · rcases h.vals b c with e2 | e2 | e2
    · have := h.trans a b c e e2; omega
    · omega
    · omega
  · have := h.eqv a b c e; omega
  · omega
theorem Cmp.lt_le {α : Type} {f : α → α → Int} (h : Cmp f) {a b c : α} (x : f a b < 0) (y : f b c ≤ 0) : f a c < 0 := by
  rcases h.vals a b with e | e | e
  · rcases h.vals b c with e2 | e2 | e2
    · have := h.trans a b c e e2; omega
    · have := h.eqv' a b c e2; omega
    · omega
  · omega
  · omega

theorem ordI_vals (a b : Int) : ordI a b = -1 ∧ a < b ∨ ordI a b = 0 ∧ a = b ∨ ordI a b = 1 ∧ b < a := by
  unfold ordI; split
  · left; exact ⟨rfl, by omega⟩
  · split
    · right; right; exact ⟨rfl, by omega⟩
    · right; left; exact ⟨rfl, by omega⟩
theorem cmpI : Cmp ordI := by
  refine ⟨fun a b => ?_, fun a b => ?_, fun a b c h => ?_, fun a b c h h' => ?_⟩
  · have := ordI_vals a b; have := ordI_vals b a; omega
  · have := ordI_vals a b; omega
  · have h1 := ordI_vals a b; have : a = b := by omega
    rw [this]
  · have := ordI_vals a b; have := ordI_vals b c; have := ordI_vals a c; omega
theorem cmpLex {α β : Type} {f : α → α → Int} {g : β → β → Int} (hf : Cmp f) (hg : Cmp g) : Cmp (fun (x y : α × β) => orI (f x.1 y.1) (g x.2 y.2)) := by
  refine ⟨fun a b => ?_, fun a b => ?_, fun a b c h => ?_, fun a b c h h' => ?_⟩
  · have h1 := hf.anti a.1 b.1; have h2 := hg.anti a.2 b.2
    simp only [orI]; split <;> split <;> omega
  · have h1 := hf.vals a.1 b.1; have h2 := hg.vals a.2 b.2
    simp only [orI]; split <;> omega
  · simp only [orI] at h ⊢
    split at h
    · rename_i e
      have h1 := hf.eqv _ _ c.1 e; have h2 := hg.eqv _ _ c.2 h
      rw [h1, h2]
    · rename_i e; exact absurd h e
  · simp only [orI] at h h' ⊢
    split at h
    · rename_i e
      have h1 := hf.eqv _ _ c.1 e
      rw [← h1]
      split at h'
      · rename_i e2; rw [if_pos e2]; exact hg.trans _ _ _ h h'
      · rename_i e2; rw [if_neg e2]; exact h'
    · split at h'
      · rename_i e e2
        have h1 := hf.eqv' a.1 _ _ e2
        rw [← h1, if_neg e]; exact h
      · have h1 := hf.trans _ _ _ h h'
        rw [if_neg (by omega)]; exact h1
theorem cmpS : Cmp ordS := cmpLex cmpI cmpI
theorem cmpP : Cmp ordP := by
  refine ⟨fun a => ?_, fun a => ?_, fun a => ?_, fun a => ?_⟩
  · induction a with
    | nil => intro b; cases b <;> rfl
    | cons s a ih =>
      intro b
      cases b with
      | nil => rfl
      | cons t b =>
        have h1 := cmpS.anti s t
        have h2 := ih b
        simp only [ordP]
        split <;> split <;> omega
  · induction a with
    | nil => intro b; cases b <;> simp [ordP]
    | cons s a ih =>
      intro b
      cases b with
      | nil => simp [ordP]
      | cons t b =>
        have h1 := cmpS.vals s t
        have h2 := ih b
        simp only [ordP]
        split <;> omega
  · induction a with
    | nil =>
      intro b c h
      cases b with
      | nil => rfl
      | cons t b => simp [ordP] at h
    | cons s a ih =>
      intro b c h
      cases b with
      | nil => simp [ordP] at h
      | cons t b =>
        simp only [ordP] at h
        split at h
        · rename_i e
          cases c with
          | nil => rfl
          | cons u c =>
            have h1 := cmpS.eqv _ _ u e
            have h2 := ih b c h
            simp only [ordP]
            rw [h1, h2]
        · rename_i e; exact absurd h e
  · induction a with
    | nil =>
      intro b c h h'
      cases b with
      | nil => exact h'
      | cons t b =>
        cases c with
        | nil => simp [ordP] at h'
        | cons u c => rfl
    | cons s a ih =>
      intro b c h h'
      cases b with
      | nil => simp [ordP] at h
      | cons t b =>
        cases c with
        | nil => simp [ordP] at h'
        | cons u c =>
          simp only [ordP] at h h' ⊢
          split at h
          · rename_i e
            have h1 := cmpS.eqv _ _ u e
            rw [← h1]
            split at h'
            · rename_i e2; rw [if_pos e2]; exact ih b c h h'
            · rename_i e2; rw [if_neg e2]; exact h'
          · split at h'
            · rename_i e e2
              have h1 := cmpS.eqv' s _ _ e2
              rw [← h1, if_neg e]; exact h
            · have h1 := cmpS.trans _ _ _ h h'
              rw [if_neg (by omega)]; exact h1
theorem cmpM : Cmp (fun (x y : List (Int × Int) × Int) => ordM x.1 x.2 y.1 y.2) := cmpLex cmpP cmpI

theorem ordS_zero_iff (s t : Int × Int) : ordS s t = 0 ↔ s = t := by
  have h1 := ordI_vals s.1 t.1; have h2 := ordI_vals s.2 t.2
  constructor
  · intro h
    unfold ordS orI at h
    split at h
    · exact Prod.ext (by omega) (by omega)
    · omega
  · rintro rfl; exact cmpS.refl s
theorem ordP_zero {a : List (Int × Int)} : ∀ {b}, ordP a b = 0 → a = b := by
  induction a with
  | nil => intro b h; cases b with
    | nil => rfl
    | cons t b => simp [ordP] at h
  | cons s a ih => intro b h; cases b with
    | nil => simp [ordP] at h
    | cons t b =>
      simp only [ordP] at h
      split at h
      · rename_i e; rw [(ordS_zero_iff s t).1 e, ih h]
      · rename_i e; exact absurd h e
theorem ordP_same (p : List (Int × Int)) (l m : List (Int × Int)) : ordP (p ++ l) (p ++ m) = ordP l m := by
  induction p with
  | nil => rfl
  | cons s p ih => simp only [List.cons_append, ordP]; rw [if_pos (cmpS.refl s), ih]
theorem ordP_one {s t : Int × Int} (l m : List (Int × Int)) (h : ordS s t = -1) : ordP (s :: l) (t :: m) = -1 := by
  simp only [ordP]; rw [if_neg (by omega)]; exact h
theorem ordS_of {s t : Int × Int} (h : s.1 < t.1 ∨ s.1 = t.1 ∧ s.2 < t.2) : ordS s t = -1 := by
  have h1 := ordI_vals s.1 t.1; have h2 := ordI_vals s.2 t.2
  unfold ordS orI; split <;> omega
theorem ordM_of {l m : List (Int × Int)} {c d : Int} (h : ordP l m = -1) : ordM l c m d = -1 := by
  unfold ordM orI; rw [if_neg (by omega)]; exact h

end Go.Proofs.Ytnhjebdlcbhkcaf
