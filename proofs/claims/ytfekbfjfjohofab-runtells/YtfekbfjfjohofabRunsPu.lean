/- The reference's way to the runs. No Go text is walked here. -/
import Derived.Test.YtfekbfjfjohofabRunPu
import Derived.Laws.Concat
import Derived.Test.YtfekbfjfjohofabSearch
namespace Go.Proofs.Ytfekbfjfjohofab

/-- the reference's runs behind k atoms: those that are shut, and the open one -/
def runsTo (l : List At) (k : Nat) : List Rn := (pst l k).1.map (runOf l) ++ if (pst l k).2 < k then [runOf l ((pst l k).2, k)] else []

theorem runsTo_succ (l : List At) (k : Nat) : runsTo l (k + 1) = (pst l k).1.map (runOf l) ++ [runOf l ((pst l k).2, k + 1)] := by
  have hle := pst_le l k
  unfold runsTo
  by_cases hg : goesB l (pst l k).2 k = true
  · have e : pst l (k + 1) = pst l k := by rw [pst, if_pos hg]
    rw [e, if_pos (by omega)]
  · have e : pst l (k + 1) = ((pst l k).1 ++ [((pst l k).2, k + 1)], k + 1) := by rw [pst, if_neg hg]
    rw [e]
    simp

theorem runsTo_all (l : List At) : runsTo l l.length = runsL l := by
  unfold runsTo runsL
  have h := pstInv l l.length (Nat.le_refl _)
  by_cases e : 0 < l.length
  · rw [h.shut rfl e, if_neg (Nat.lt_irrefl _), List.append_nil]
  · have : l = [] := List.length_eq_zero_iff.1 (by omega)
    subst this; rfl

/-- the one atom's run -/
theorem runOf_one {l : List At} {k : Nat} (h : k < l.length) : runOf l (k, k + 1) = ⟨l[k].path, l[k].clock, strOfNums [l[k].sign]⟩ := by
  rw [runOf_eq h]
  have : part l k (k + 1 - k) = [l[k]] := by
    unfold part
    rw [show k + 1 - k = 1 by omega, List.drop_eq_getElem_cons h]; rfl
  rw [this]; rfl

/-- the run goes on by one sign -/
theorem runOf_more {l : List At} {f k : Nat} (hf : f < k) (h : k < l.length) : runOf l (f, k + 1) = ⟨(runOf l (f, k)).path, (runOf l (f, k)).clock, (runOf l (f, k)).text ++ strOfNums [l[k].sign]⟩ := by
  rw [runOf_eq (p := (f, k + 1)) (by show f < _; omega), runOf_eq (p := (f, k)) (by show f < _; omega)]
  have e : part l f (k + 1 - f) = part l f (k - f) ++ [l[k]] := by
    unfold part
    rw [show k + 1 - f = (k - f) + 1 by omega, List.take_succ_eq_append_getElem (by simp; omega)]
    congr 2
    simp [show f + (k - f) = k by omega]
  simp only [e]
  unfold txtS
  rw [List.map_append]
  congr 1
  apply ByteArray.ext
  simp [strOfNums, ByteArray.data_append]

/-- is the k-th atom to be joined to the run ahead of it? -/
theorem joined_iff {l : List At} {k : Nat} (hk : k + 1 < l.length) :
    ((pst l (k + 1)).2 < k + 1 → (runOf l ((pst l (k + 1)).2, k + 1)).text.size < 60 ∧ flwAt l k = true) ∧
    ((pst l (k + 1)).2 = k + 1 → ∃ p, (pst l (k + 1)).1.getLast? = some p ∧ ((runOf l p).text.size = 60 ∨ flwAt l k = false)) := by
  have h := pstInv l (k + 1) (by omega)
  constructor
  · intro hf
    have h1 := h.few hf
    have hop := h.op k (by omega) (by omega)
    refine ⟨?_, hop⟩
    rw [runOf_eq (by show _ < l.length; have := pst_le l (k + 1); omega)]
    show (txtS (part l (pst l (k + 1)).2 (k + 1 - (pst l (k + 1)).2))).size < 60
    rw [txt_size, part_len (by omega)]
    exact h1
  · intro hf
    have hne : (pst l (k + 1)).1 ≠ [] := by
      intro e
      have hc := h.cat
      rw [e, hf] at hc
      have := congrArg List.length hc
      simp at this
      omega
    have hpos : 0 < (pst l (k + 1)).1.length := List.length_pos_iff.2 hne
    have hl := h.last ((pst l (k + 1)).1.length - 1) (by omega) (by omega)
    have hpc := h.each _ (List.getElem_mem (show (pst l (k + 1)).1.length - 1 < (pst l (k + 1)).1.length by omega))
    refine ⟨(pst l (k + 1)).1[(pst l (k + 1)).1.length - 1], ?_, ?_⟩
    · rw [List.getLast?_eq_getElem?, List.getElem?_eq_getElem (by omega)]
    · rw [hf] at hl
      rcases hpc.shut with e | e | e
      · left
        have h1 := hpc.lt
        have h2 := hpc.le
        rw [runOf_eq (by omega)]
        show (txtS (part l _ _)).size = 60
        rw [txt_size, part_len (by omega)]
        exact e
      · omega
      · right
        rw [hl] at e
        simpa using e

theorem runsTo_step {l : List At} {k : Nat} (h : k + 1 < l.length) : ∃ xs y, runsTo l (k + 1) = xs ++ [y] ∧ y.text.size ≤ 60 ∧
    ((y.text.size < 60 ∧ flwAt l k = true → runsTo l (k + 1 + 1) = xs ++ [⟨y.path, y.clock, y.text ++ strOfNums [l[k + 1].sign]⟩]) ∧
     (¬ (y.text.size < 60 ∧ flwAt l k = true) → runsTo l (k + 1 + 1) = (xs ++ [y]) ++ [⟨l[k + 1].path, l[k + 1].clock, strOfNums [l[k + 1].sign]⟩])) := by
  have hle := pst_le l (k + 1)
  obtain ⟨ja, jb⟩ := joined_iff h
  rcases Nat.lt_or_ge (pst l (k + 1)).2 (k + 1) with hf | hf
  · obtain ⟨h1, h2⟩ := ja hf
    refine ⟨(pst l (k + 1)).1.map (runOf l), runOf l ((pst l (k + 1)).2, k + 1), by unfold runsTo; rw [if_pos hf], by omega, ?_, fun hn => absurd ⟨h1, h2⟩ hn⟩
    intro _
    rw [runsTo_succ, runOf_more hf h]
  · have hf' : (pst l (k + 1)).2 = k + 1 := by omega
    obtain ⟨p, hp, hor⟩ := jb hf'
    have hd : (pst l (k + 1)).1 = (pst l (k + 1)).1.dropLast ++ [p] := by
      rw [List.getLast?_eq_some_iff] at hp
      obtain ⟨ys, hys⟩ := hp
      rw [hys]; simp
    have hr : runsTo l (k + 1) = (pst l (k + 1)).1.dropLast.map (runOf l) ++ [runOf l p] := by
      unfold runsTo
      rw [if_neg (by omega), List.append_nil]
      conv => lhs; rw [hd]
      simp
    have hpc := (pstInv l (k + 1) (by omega)).each p (by rw [hd]; simp)
    have hsz : (runOf l p).text.size ≤ 60 := by
      have h1 := hpc.lt
      have h2 := hpc.le
      rw [runOf_eq (by omega)]
      show (txtS (part l _ _)).size ≤ 60
      rw [txt_size, part_len (by omega)]
      exact hpc.len
    refine ⟨_, _, hr, hsz, fun hy => ?_, fun _ => ?_⟩
    · exfalso
      rcases hor with e | e
      · omega
      · rw [e] at hy; exact absurd hy.2 (by decide)
    · rw [runsTo_succ, hf', runOf_one h, ← hr]
      unfold runsTo
      rw [if_neg (by omega), List.append_nil]
end Go.Proofs.Ytfekbfjfjohofab

namespace Go.Proofs.Ytfekbfjfjohofab
open Go.RowKit

/-- a run's cells; its path lies in the world w0 -/
structure RawNOf (w0 : World) (r : RawN) (x : Rn) : Prop where
  n : r.n = x.path.length
  clock : r.clock = x.clock
  text : r.text = x.text
  steps : StepsAt w0 r.p x.path
  len : x.path.length ≤ maxLen
  tlen : x.text.size ≤ maxLen

/-- a row of runs that the call owns; their paths lie in the world w0 -/
def OwnsN (w0 w : World) (base : Nat) (v : Value) (xs : List Rn) : Prop :=
  ∃ rs : List RawN, rs.length = xs.length ∧ w.ownsRow base 26 3 v xs.length (flatN rs) ∧ ∀ i (h : i < xs.length) (h' : i < rs.length), RawNOf w0 rs[i] xs[i]

theorem OwnsN.runs {w0 w : World} {base : Nat} {v : Value} {xs : List Rn} (h : OwnsN w0 w base v xs) (hb : Below w0.heap.size w0 w) : ∃ p cap, v = .slice p xs.length cap ∧ RunsAt w p xs ∧ xs.length ≤ cap := by
  obtain ⟨rs, h1, h2, h3⟩ := h
  rcases h2.2 with ⟨rfl, h0⟩ | ⟨g, c, cur, rfl, hbg, hh, hc, _⟩
  · have : xs = [] := List.length_eq_zero_iff.1 h0
    subst this
    exact ⟨none, 0, rfl, Or.inl rfl, Nat.le_refl _⟩
  · refine ⟨_, c, rfl, Or.inr ⟨g, 0, rfl, (Array.getElem?_eq_some_iff.1 hh).1, fun i hi => ?_⟩, hc⟩
    have r := h3 i hi (by omega)
    obtain ⟨f0, f1, f2⟩ := flatN_get rs i (by omega)
    rw [r.n] at f0
    rw [r.clock] at f1
    rw [r.text] at f2
    rw [Nat.zero_add]
    exact ⟨_, _, (h2.cellAt (i * 3) (by omega)).trans f0, (h2.cellAt (i * 3 + 1) (by omega)).trans f1, (h2.cellAt (i * 3 + 2) (by omega)).trans f2, r.steps.below hb (Nat.le_refl _), r.len, r.tlen⟩

theorem ownsN_snoc {w0 w : World} {base : Nat} {v : Value} {xs : List Rn} {rs : List RawN} {r : RawN} {x : Rn} (hl : rs.length = xs.length) (hr : ∀ i (h : i < xs.length) (h' : i < rs.length), RawNOf w0 rs[i] xs[i]) (hx : RawNOf w0 r x) (h : w.ownsRow base 26 3 v (xs.length + 1) (flatN rs ++ r.cells)) : OwnsN w0 w base v (xs ++ [x]) := by
  refine ⟨rs ++ [r], by simp [hl], ?_, fun i hi hi' => ?_⟩
  · rw [flatN_append, List.length_append]
    show w.ownsRow base _ 3 v (xs.length + 1) (flatN rs ++ (r.cells ++ []))
    rw [List.append_nil]; exact h
  · by_cases e : i < xs.length
    · rw [List.getElem_append_left (by omega), List.getElem_append_left e]
      exact hr i e (by omega)
    · have : i = xs.length := by simp at hi; omega
      subst this
      have e1 : (rs ++ [r])[xs.length] = r := by rw [List.getElem_append_right (by omega)]; simp [hl]
      have e2 : (xs ++ [x])[xs.length] = x := by simp
      rw [e1, e2]; exact hx

theorem flatN_set (rs : List RawN) : ∀ (i : Nat) (s : ByteArray) (h : i < rs.length), (flatN rs).set (i * 3 + 2) (.string s) = flatN (rs.set i { rs[i] with text := s }) := by
  induction rs with
  | nil => intro i s h; simp at h
  | cons r rs ih =>
    intro i s h
    cases i with
    | zero => rfl
    | succ i =>
      have h1 : flatN (r :: rs) = r.cells ++ flatN rs := rfl
      have h2 : flatN ((r :: rs).set (i + 1) { (r :: rs)[i + 1] with text := s }) = r.cells ++ flatN (rs.set i { (rs[i]'(by simpa using h)) with text := s }) := rfl
      rw [h1, h2, List.set_append_right _ _ (by show 3 ≤ _; omega), show (i + 1) * 3 + 2 - r.cells.length = i * 3 + 2 by show (i + 1) * 3 + 2 - 3 = _; omega, ih i s (by simpa using h)]

/-- the last run's text is turned -/
theorem ownsN_last {w0 w : World} {base g cap : Nat} {xs : List Rn} {y : Rn} {rs : List RawN} {s : ByteArray} (hl : rs.length = xs.length + 1) (hown : w.ownsRow base 26 3 (.slice (some ⟨g, 0, none⟩) (xs.length + 1) cap) (xs.length + 1) (flatN rs)) (hr : ∀ i (h : i < (xs ++ [y]).length) (h' : i < rs.length), RawNOf w0 rs[i] (xs ++ [y])[i]) (hs : s.size ≤ maxLen) :
    OwnsN w0 (w.setCell ⟨g, xs.length * 3 + 2, none⟩ (.string s)) base (.slice (some ⟨g, 0, none⟩) (xs.length + 1) cap) (xs ++ [{ y with text := s }]) ∧ w.grownBy (w.setCell ⟨g, xs.length * 3 + 2, none⟩ (.string s)) (some g) := by
  obtain ⟨h1, h2⟩ := hown.stored (xs.length * 3 + 2) (.string s)
  refine ⟨⟨rs.set xs.length { (rs[xs.length]'(by omega)) with text := s }, by simp [hl], ?_, fun i hi hi' => ?_⟩, h2⟩
  · rw [flatN_set rs xs.length s (by omega)] at h1
    simpa using h1
  · have hi2 : i < xs.length + 1 := by simpa using hi
    by_cases e : i = xs.length
    · subst e
      have r := hr xs.length (by simp) (by omega)
      have e2 : (xs ++ [y])[xs.length]'(by simp) = y := by simp
      rw [e2] at r
      rw [List.getElem_set_self]
      have e3 : (xs ++ [{ y with text := s }])[xs.length]'(by simp) = { y with text := s } := by simp
      rw [e3]
      exact ⟨r.n, r.clock, rfl, r.steps, r.len, hs⟩
    · rw [List.getElem_set_ne (fun h => e h.symm), List.getElem_append_left (by omega)]
      have r := hr i (by simp; omega) (by omega)
      rwa [List.getElem_append_left (by omega)] at r

theorem same_flw {l : List At} {k : Nat} (h : k + 1 < l.length) : (ordM l[k + 1].path l[k + 1].clock (bump (l[k]'(by omega)).path 1) ((l[k]'(by omega)).clock + 1) == 0) = flwAt l k := by
  unfold flwAt
  rw [List.getElem?_eq_getElem (by omega), List.getElem?_eq_getElem h]
  show _ = flw _ _ _ _
  unfold flw
  have := cmpM.anti (bump (l[k]'(by omega)).path 1, (l[k]'(by omega)).clock + 1) (l[k + 1].path, l[k + 1].clock)
  simp only at this
  rw [this]
  rw [Bool.eq_iff_iff]
  simp only [beq_iff_eq]
  omega
end Go.Proofs.Ytfekbfjfjohofab

