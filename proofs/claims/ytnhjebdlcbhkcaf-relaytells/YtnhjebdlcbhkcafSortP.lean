/- Atoms that are right stand in order: what is looked for among them. No Go text is walked here. -/
import Derived.Test.YtnhjebdlcbhkcafAtomCkR
import Derived.Test.YtnhjebdlcbhkcafCmp
namespace Go.Proofs.Ytnhjebdlcbhkcaf
open Go.RowKit

/-- the place where a mark is looked for -/
def Cut (l : List At) (m : List (Int × Int)) (d : Int) (i j : Nat) : Prop := (∀ t (h : t < l.length), t < i → ordM l[t].path l[t].clock m d < 0) ∧ (∀ t (h : t < l.length), j ≤ t → 0 ≤ ordM l[t].path l[t].clock m d)
/-- the atoms stand so that a mark parts them -/
def Parts (l : List At) (m : List (Int × Int)) (d : Int) : Prop := ∀ s t (h : t < l.length) (hs : s < t), ordM l[t].path l[t].clock m d < 0 → ordM (l[s]'(by omega)).path (l[s]'(by omega)).clock m d < 0

/-- has one of the atoms this mark? -/
def hasMk (l : List At) (p : List (Int × Int)) (c : Int) : Bool := l.any fun x => ordM x.path x.clock p c == 0

theorem cmpA : Cmp ordA := ⟨fun a b => cmpM.anti (a.path, a.clock) (b.path, b.clock), fun a b => cmpM.vals (a.path, a.clock) (b.path, b.clock), fun a b c => cmpM.eqv (a.path, a.clock) (b.path, b.clock) (c.path, c.clock), fun a b c => cmpM.trans (a.path, a.clock) (b.path, b.clock) (c.path, c.clock)⟩

theorem ordA_trans {a b c : At} (h : ordA a b < 0) (h' : ordA b c < 0) : ordA a c < 0 := by
  have h1 := cmpA.vals a b; have h2 := cmpA.vals b c
  have := cmpA.trans a b c (by omega) (by omega)
  omega

theorem chkFrom_ok : ∀ (l : List At) (prev : Option At), chkFrom prev l = 0 → (∀ x ∈ l, chk x.path x.clock = 0 ∧ isSignB x.sign = true) ∧ l.Pairwise (fun x y => ordA x y < 0) ∧ ∀ y, prev = some y → ∀ x ∈ l, ordA y x < 0
  | [], _, _ => ⟨fun x h => by simp at h, List.Pairwise.nil, fun _ _ x h => by simp at h⟩
  | x :: l, prev, h => by
    rw [chkFrom_cons] at h
    by_cases h1 : chkAt prev x ≠ 0
    · rw [if_pos h1] at h; exact absurd h h1
    rw [if_neg h1] at h
    have h2 : chkAt prev x = 0 := by omega
    obtain ⟨a1, a2, a3⟩ := chkFrom_ok l (some x) h
    unfold chkAt at h2
    by_cases c1 : chk x.path x.clock ≠ 0
    · rw [if_pos c1] at h2; exact absurd h2 c1
    rw [if_neg c1] at h2
    by_cases c2 : isSignB x.sign = false
    · rw [if_pos c2] at h2; exact absurd h2 (by decide)
    rw [if_neg c2] at h2
    refine ⟨?_, List.Pairwise.cons (a3 x rfl) a2, ?_⟩
    · intro y hy
      rcases List.mem_cons.1 hy with rfl | hy
      · exact ⟨by omega, by simpa using c2⟩
      · exact a1 y hy
    · intro y hy z hz
      subst hy
      have hyx : ordA y x < 0 := by
        simp only at h2
        split at h2
        · exact absurd h2 (by decide)
        · omega
      rcases List.mem_cons.1 hz with rfl | hz
      · exact hyx
      · exact ordA_trans hyx (a3 x rfl z hz)

/-- what Check lets through -/
structure OkL (l : List At) : Prop where
  len : l.length ≤ 300
  each : ∀ x ∈ l, chk x.path x.clock = 0 ∧ isSignB x.sign = true
  rise : l.Pairwise (fun x y => ordA x y < 0)

theorem okL_of {l : List At} (h : chkL l = 0) : OkL l := by
  unfold chkL at h
  by_cases e : 300 < l.length
  · rw [if_pos e] at h; exact absurd h (by decide)
  rw [if_neg e] at h
  have := chkFrom_ok l none h
  exact ⟨by omega, this.1, this.2.1⟩

theorem OkL.get {l : List At} (h : OkL l) {i j : Nat} (hj : j < l.length) (hij : i < j) : ordA (l[i]'(by omega)) l[j] < 0 := List.pairwise_iff_getElem.1 h.rise i j (by omega) hj hij

theorem parts_of {l : List At} (h : OkL l) (m : List (Int × Int)) (d : Int) : Parts l m d := by
  intro s t ht hs hn
  exact ordA_trans (c := ⟨m, d, 0⟩) (h.get ht hs) hn

theorem okPath {l : List At} (h : OkL l) : ∀ i (h : i < l.length), 0 < l[i].path.length ∧ l[i].path.length ≤ 10 := by
  intro i hi
  obtain ⟨h1, h2, _⟩ := chk_ok (h.each l[i] (List.getElem_mem hi)).1
  exact ⟨by omega, h2⟩

theorem gone_found {l : List At} (hok : OkL l) {m : List (Int × Int)} {d : Int} {i : Nat} (hi : i < l.length) (hc : Cut l m d i i) (h0 : ordM l[i].path l[i].clock m d = 0) {j : Nat} (hj : j < l.length) : (ordM l[j].path l[j].clock m d == 0) = decide (j = i) := by
  by_cases e : j = i
  · subst e; rw [h0]; simp
  · rw [show decide (j = i) = false from by simpa using e, beq_eq_false_iff_ne]
    rcases Nat.lt_or_gt_of_ne e with hlt | hgt
    · have := hc.1 j hj hlt; omega
    · have h1 := hok.get hj hgt
      have h2 := cmpA.eqv' l[j] l[i] ⟨m, d, 0⟩ h0
      have h3 := cmpA.anti l[j] l[i]
      have h4 : ordA l[j] ⟨m, d, 0⟩ = ordM l[j].path l[j].clock m d := rfl
      omega

theorem gone_none {l : List At} (hok : OkL l) {m : List (Int × Int)} {d : Int} {i : Nat} (hc : Cut l m d i i) (hn : ¬ ∃ h : i < l.length, ordM l[i].path l[i].clock m d = 0) {j : Nat} (hj : j < l.length) : (ordM l[j].path l[j].clock m d == 0) = false := by
  rw [beq_eq_false_iff_ne]
  intro h0
  rcases Nat.lt_or_ge j i with hlt | hge
  · have := hc.1 j hj hlt; omega
  · have hi : i < l.length := by omega
    by_cases e : i = j
    · subst e; exact hn ⟨hi, h0⟩
    · have h1 := hok.get hj (show i < j by omega)
      have h2 := cmpA.eqv' l[i] l[j] ⟨m, d, 0⟩ h0
      have h4 : ordA l[i] ⟨m, d, 0⟩ = ordM l[i].path l[i].clock m d := rfl
      have h5 := hc.2 i hi (Nat.le_refl _)
      omega

end Go.Proofs.Ytnhjebdlcbhkcaf
