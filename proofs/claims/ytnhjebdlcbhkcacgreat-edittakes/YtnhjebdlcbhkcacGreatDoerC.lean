/- Rows of marks that are a call's own, their paths too. -/
import Derived.Test.YtnhjebdlcbhkcacGreatGapA
import Derived.Test.YtnhjebdlcbhkcacGreatRowC
import Derived.Test.YtnhjebdlcbhkcacGreatSortM
import Derived.Test.YtnhjebdlcbhkcacGreatThere
namespace Go.Proofs.YtnhjebdlcbhkcacGreat
open Go.RowKit

/-- a mark: its path, its clock -/
abbrev Mk := List (Int × Int) × Int

/-- a mark's two cells -/
structure RawK where
  p : Option Addr
  n : Nat
  cap : Nat
  clock : Int

def RawK.cells (r : RawK) : List Value := [.slice r.p r.n r.cap, .int .i64 r.clock]
def flatK (l : List RawK) : List Value := l.flatMap RawK.cells

theorem flatK_length (l : List RawK) : (flatK l).length = l.length * 2 := by
  unfold flatK; induction l with
  | nil => rfl
  | cons s l ih => simp only [List.flatMap_cons, List.length_append, ih, List.length_cons, RawK.cells, List.length_nil]; omega
theorem flatK_append (l m : List RawK) : flatK (l ++ m) = flatK l ++ flatK m := by unfold flatK; simp
theorem flatK_get (l : List RawK) : ∀ i (h : i < l.length), (flatK l)[i * 2]? = some (.slice l[i].p l[i].n l[i].cap) ∧ (flatK l)[i * 2 + 1]? = some (.int .i64 l[i].clock) := by
  induction l with
  | nil => intro i h; simp at h
  | cons s l ih =>
    intro i h
    match i with
    | 0 => exact ⟨rfl, rfl⟩
    | i + 1 =>
      have := ih i (by simpa using h)
      rw [show (i + 1) * 2 = i * 2 + 2 by omega, show i * 2 + 2 + 1 = i * 2 + 1 + 2 by omega]
      exact this
theorem flatK_one (l : List RawK) : ∀ u ∈ flatK l, u.oneCell' = true := by
  intro u hu
  unfold flatK at hu
  rw [List.mem_flatMap] at hu
  obtain ⟨s, _, hs⟩ := hu
  simp [RawK.cells] at hs
  rcases hs with rfl | rfl <;> rfl
theorem flatK_take (rs : List RawK) : ∀ i, (flatK rs).take (i * 2) = flatK (rs.take i) := by
  induction rs with
  | nil => intro i; simp [flatK]
  | cons r rs ih =>
    intro i
    cases i with
    | zero => simp [flatK]
    | succ i =>
      have h1 : flatK (r :: rs) = r.cells ++ flatK rs := rfl
      have h2 : flatK ((r :: rs).take (i + 1)) = r.cells ++ flatK (rs.take i) := rfl
      rw [h1, h2, List.take_append, List.take_of_length_le (by show 2 ≤ _; omega), show (i + 1) * 2 - r.cells.length = i * 2 by show (i + 1) * 2 - 2 = _; omega, ih]
theorem flatK_drop (rs : List RawK) : ∀ i, (flatK rs).drop (i * 2) = flatK (rs.drop i) := by
  induction rs with
  | nil => intro i; simp [flatK]
  | cons r rs ih =>
    intro i
    cases i with
    | zero => simp [flatK]
    | succ i =>
      have h1 : flatK (r :: rs) = r.cells ++ flatK rs := rfl
      have h2 : flatK ((r :: rs).drop (i + 1)) = flatK (rs.drop i) := rfl
      rw [h1, h2, List.drop_append, List.drop_of_length_le (by show 2 ≤ _; omega), show (i + 1) * 2 - r.cells.length = i * 2 by show (i + 1) * 2 - 2 = _; omega, ih, List.nil_append]
theorem rawK_new (w : World) (r : RawK) : ∀ j u, r.cells[j]? = some u → (w.alloc (.cells #[.slice r.p r.n r.cap, .int .i64 r.clock] 46)).cell? ⟨w.heap.size, j, none⟩ = some u := by
  intro j u hj
  rw [World.cell?_alloc_new]
  simpa [RawK.cells] using hj

/-- a mark's cells whose path is the call's own -/
def PickK (w : World) (base : Nat) (r : RawK) (x : Mk) : Prop :=
  ∃ g cap, r = ⟨some ⟨g, 0, none⟩, x.1.length, cap, x.2⟩ ∧ w.ownsRow base 99 2 (.slice (some ⟨g, 0, none⟩) x.1.length cap) x.1.length (flatS x.1) ∧ x.1.length ≤ maxLen

theorem types_neK {w : World} {base base' g n cap m : Nat} {v : Value} {xs ys : List Value} (h : w.ownsRow base 99 2 (.slice (some ⟨g, 0, none⟩) n cap) n xs) (h' : w.ownsRow base' 46 2 v m ys) : some g ≠ v.ownBlock := by
  intro e
  rcases h.2 with ⟨hc, _⟩ | ⟨g1, c1, cur, h1, _, h2, _⟩
  · simp at hc
  have hg : g1 = g := by simp at h1; exact h1.1.symm
  subst hg
  rcases h'.2 with ⟨rfl, _⟩ | ⟨g2, c2, cur2, rfl, _, h3, _⟩
  · simp [Value.ownBlock] at e
  · simp [Value.ownBlock] at e
    subst e
    rw [h2] at h3
    simp at h3

/-- rows of marks and of atoms lie apart -/
theorem types_neA {w : World} {base base' m n : Nat} {u v : Value} {xs ys : List Value} (h : w.ownsRow base 66 3 u n xs) (h' : w.ownsRow base' 46 2 v m ys) : u.ownBlock = none ∨ u.ownBlock ≠ v.ownBlock := by
  rcases h.2 with ⟨rfl, _⟩ | ⟨g1, c1, cur, rfl, _, h2, _⟩
  · exact Or.inl rfl
  · refine Or.inr fun e => ?_
    rcases h'.2 with ⟨rfl, _⟩ | ⟨g2, c2, cur2, rfl, _, h3, _⟩
    · simp [Value.ownBlock] at e
    · simp [Value.ownBlock] at e
      subst e
      rw [h2] at h3
      simp at h3

theorem PickK.kept {w w' : World} {base : Nat} {row : Option Nat} {r : RawK} {x : Mk} (h : PickK w base r x) (hg : w.grownBy w' row) (hne : ∀ g cap, r.p = some ⟨g, 0, none⟩ → w.ownsRow base 99 2 (.slice (some ⟨g, 0, none⟩) x.1.length cap) x.1.length (flatS x.1) → some g ≠ row) : PickK w' base r x := by
  obtain ⟨g, cap, rfl, hown, h1⟩ := h
  exact ⟨g, cap, rfl, hown.kept hg (Or.inr (by have := hne g cap rfl hown; simpa [Value.ownBlock] using this)), h1⟩

theorem PickK.below {w w' : World} {base : Nat} {r : RawK} {x : Mk} (h : PickK w base r x) (hb : Below w.heap.size w w') : PickK w' base r x := by
  obtain ⟨g, cap, rfl, hown, h1⟩ := h
  exact ⟨g, cap, rfl, owns_below hown hb, h1⟩

/-- a row of marks, all of it the call's own -/
def MkRow (w : World) (base : Nat) (v : Value) (xs : List Mk) : Prop :=
  ∃ rs : List RawK, rs.length = xs.length ∧ w.ownsRow base 46 2 v xs.length (flatK rs) ∧ ∀ i (h : i < xs.length) (h' : i < rs.length), PickK w base rs[i] xs[i]

theorem MkRow.nil (w : World) (base : Nat) : MkRow w base (.slice none 0 0) [] := ⟨[], rfl, World.ownsRow_nil w base 46 2, fun i h => by simp at h⟩

theorem MkRow.below {w w' : World} {base : Nat} {v : Value} {xs : List Mk} (h : MkRow w base v xs) (hb : Below w.heap.size w w') : MkRow w' base v xs := by
  obtain ⟨rs, h1, h2, h3⟩ := h
  exact ⟨rs, h1, owns_below h2 hb, fun i h h' => (h3 i h h').below hb⟩

theorem MkRow.mono {w : World} {base base' : Nat} {v : Value} {xs : List Mk} (h : MkRow w base v xs) (hb : base' ≤ base) : MkRow w base' v xs := by
  obtain ⟨rs, h1, h2, h3⟩ := h
  refine ⟨rs, h1, owns_base h2 hb, fun i h h' => ?_⟩
  obtain ⟨g, cap, e, hown, h4⟩ := h3 i h h'
  exact ⟨g, cap, e, owns_base hown hb, h4⟩

theorem MkRow.marks {w : World} {base : Nat} {v : Value} {xs : List Mk} (h : MkRow w base v xs) : ∃ p cap, v = .slice p xs.length cap ∧ MarksAt w p xs ∧ xs.length ≤ cap ∧ cap ≤ maxLen := by
  obtain ⟨rs, hl, hown, hr⟩ := h
  have hown' := hown
  rcases hown.2 with ⟨rfl, h0⟩ | ⟨g, cap, cur, rfl, _, _, hc, hm, _⟩
  · have e : xs = [] := List.length_eq_zero_iff.1 h0
    subst e
    exact ⟨none, 0, rfl, Or.inl rfl, Nat.le_refl _, Nat.zero_le _⟩
  refine ⟨some ⟨g, 0, none⟩, cap, rfl, ?_, hc, hm⟩
  by_cases e : xs = []
  · exact Or.inl e
  refine Or.inr ⟨g, 0, rfl, (hown'.lt g rfl).2, fun i hi => ?_⟩
  have c := flatK_get rs i (by omega)
  obtain ⟨g', cap', he, ho, hle⟩ := hr i hi (by omega)
  rw [Nat.zero_add]
  refine ⟨some ⟨g', 0, none⟩, cap', ?_, ?_, stepsAt_owns ho rfl, hle⟩
  · have := (hown'.cellAt (i * 2) (by omega)).trans c.1
    rw [he] at this; exact this
  · have := (hown'.cellAt (i * 2 + 1) (by omega)).trans c.2
    rw [he] at this; exact this

theorem MkRow.snoc {w w' : World} {base : Nat} {v v' : Value} {xs : List Mk} {r : RawK} {x : Mk} {rs : List RawK} (hl : rs.length = xs.length) (hown : w.ownsRow base 46 2 v xs.length (flatK rs)) (hr : ∀ i (h : i < xs.length) (h' : i < rs.length), PickK w base rs[i] xs[i]) (hx : PickK w base r x) (hg : w.grownBy w' v.ownBlock) (h : w'.ownsRow base 46 2 v' (xs.length + 1) (flatK rs ++ r.cells)) :
    MkRow w' base v' (xs ++ [x]) := by
  refine ⟨rs ++ [r], by simp [hl], ?_, fun i hi hi' => ?_⟩
  · rw [flatK_append, List.length_append]
    show w'.ownsRow base 46 2 v' (xs.length + 1) (flatK rs ++ (r.cells ++ []))
    rw [List.append_nil]; exact h
  · by_cases e : i < xs.length
    · rw [List.getElem_append_left (by omega), List.getElem_append_left e]
      exact (hr i e (by omega)).kept hg (fun g cap _ ho => types_neK ho hown)
    · have : i = xs.length := by simp at hi; omega
      subst this
      have e1 : (rs ++ [r])[xs.length] = r := by rw [List.getElem_append_right (by omega)]; simp [hl]
      have e2 : (xs ++ [x])[xs.length] = x := by simp
      rw [e1, e2]
      exact hx.kept hg (fun g cap _ ho => types_neK ho hown)

theorem MkRow.ins {w w' : World} {base : Nat} {v v' : Value} {xs : List Mk} {r : RawK} {x : Mk} {rs : List RawK} {i : Nat} (hi : i ≤ xs.length) (hl : rs.length = xs.length) (hown : w.ownsRow base 46 2 v xs.length (flatK rs)) (hr : ∀ i (h : i < xs.length) (h' : i < rs.length), PickK w base rs[i] xs[i]) (hx : PickK w base r x) (hg : w.grownBy w' v.ownBlock)
    (h : w'.ownsRow base 46 2 v' (xs.length + 1) ((flatK rs).take (i * 2) ++ r.cells ++ (flatK rs).drop (i * 2))) : MkRow w' base v' (xs.take i ++ x :: xs.drop i) := by
  refine ⟨rs.take i ++ r :: rs.drop i, by simp [hl], ?_, fun k hk hk' => ?_⟩
  · have e1 : (xs.take i ++ x :: xs.drop i).length = xs.length + 1 := by simp; omega
    rw [e1, flatK_append]
    rw [flatK_take, flatK_drop, List.append_assoc] at h
    exact h
  · have hkl : k < xs.length + 1 := by simp at hk; omega
    rcases Nat.lt_trichotomy k i with hlt | heq | hgt
    · have e1 : (rs.take i ++ r :: rs.drop i)[k] = rs[k]'(by omega) := by rw [List.getElem_append_left (by simp; omega)]; simp
      have e2 : (xs.take i ++ x :: xs.drop i)[k] = xs[k]'(by omega) := by rw [List.getElem_append_left (by simp; omega)]; simp
      rw [e1, e2]
      exact (hr k (by omega) (by omega)).kept hg (fun g cap _ ho => types_neK ho hown)
    · subst heq
      have e1 : (rs.take k ++ r :: rs.drop k)[k] = r := by
        rw [List.getElem_append_right (by simp; omega)]
        simp [show k - min k rs.length = 0 by omega]
      have e2 : (xs.take k ++ x :: xs.drop k)[k] = x := by
        rw [List.getElem_append_right (by simp; omega)]
        simp [show k - min k xs.length = 0 by omega]
      rw [e1, e2]
      exact hx.kept hg (fun g cap _ ho => types_neK ho hown)
    · obtain ⟨j, rfl⟩ : ∃ j, k = j + 1 := ⟨k - 1, by omega⟩
      have e1 : (rs.take i ++ r :: rs.drop i)[j + 1] = rs[j]'(by omega) := by
        rw [List.getElem_append_right (by simp; omega)]
        simp only [List.length_take, show j + 1 - min i rs.length = (j - i) + 1 by omega, List.getElem_cons_succ, List.getElem_drop]
        congr 1; omega
      have e2 : (xs.take i ++ x :: xs.drop i)[j + 1] = xs[j]'(by omega) := by
        rw [List.getElem_append_right (by simp; omega)]
        simp only [List.length_take, show j + 1 - min i xs.length = (j - i) + 1 by omega, List.getElem_cons_succ, List.getElem_drop]
        congr 1; omega
      rw [e1, e2]
      exact (hr j (by omega) (by omega)).kept hg (fun g cap _ ho => types_neK ho hown)

/-- another block is written: the row stays -/
theorem MkRow.kept {w w' : World} {base : Nat} {row : Option Nat} {v : Value} {xs : List Mk} (h : MkRow w base v xs) (hg : w.grownBy w' row) (h1 : v.ownBlock = none ∨ v.ownBlock ≠ row) (h2 : ∀ g cur, w.heap[g]? = some (.cells cur 99 (0, 0)) → some g ≠ row) : MkRow w' base v xs := by
  obtain ⟨rs, hl, hown, hr⟩ := h
  refine ⟨rs, hl, hown.kept hg h1, fun i h h' => (hr i h h').kept hg fun g cap _ ho => ?_⟩
  rcases ho.2 with ⟨hc, _⟩ | ⟨g1, c1, cur, e1, _, e2, _⟩
  · simp at hc
  · simp at e1
    rw [e1.1]
    exact h2 g1 cur e2
theorem PickRow.kept {w w' : World} {base : Nat} {row : Option Nat} {v : Value} {xs : List At} (h : PickRow w base v xs) (hg : w.grownBy w' row) (h1 : v.ownBlock = none ∨ v.ownBlock ≠ row) (h2 : ∀ g cur, w.heap[g]? = some (.cells cur 99 (0, 0)) → some g ≠ row) : PickRow w' base v xs := by
  obtain ⟨rs, hl, hown, hr⟩ := h
  refine ⟨rs, hl, hown.kept hg h1, fun i h h' => (hr i h h').kept hg fun g cap _ ho => ?_⟩
  rcases ho.2 with ⟨hc, _⟩ | ⟨g1, c1, cur, e1, _, e2, _⟩
  · simp at hc
  · simp at e1
    rw [e1.1]
    exact h2 g1 cur e2
end Go.Proofs.YtnhjebdlcbhkcacGreat

namespace Go.Proofs.YtnhjebdlcbhkcacGreat
open Go.RowKit

/-- a mark goes where it is to stand -/
def insG (g : List Mk) (m : Mk) : List Mk := if hasGone g m.1 m.2 = true then g else g.take (lowM g m.1 m.2) ++ m :: g.drop (lowM g m.1 m.2)

theorem lowM_le (g : List Mk) (m : List (Int × Int)) (d : Int) : lowM g m d ≤ g.length := List.countP_le_length

theorem insG_len (g : List Mk) (m : Mk) : (insG g m).length ≤ g.length + 1 := by
  unfold insG
  split
  · omega
  · simp; have := lowM_le g m.1 m.2; omega

theorem up_all {x : Mk} {g : List Mk} (h : Up (x :: g)) {m : Mk} (h0 : 0 ≤ ordM x.1 x.2 m.1 m.2) : ∀ y ∈ g, 0 < ordM y.1 y.2 m.1 m.2 := by
  intro y hy
  have h1 : ordM x.1 x.2 y.1 y.2 < 0 := (List.pairwise_cons.1 h).1 y hy
  rcases Int.lt_or_le 0 (ordM y.1 y.2 m.1 m.2) with h2 | h2
  · exact h2
  · have h3 : ordM x.1 x.2 m.1 m.2 < 0 := cmpM.lt_le (a := x) (b := y) (c := m) h1 h2
    omega

/-- what stands ahead is less, what stands behind is not -/
theorem low_parts : ∀ {g : List Mk} (_ : Up g) (m : Mk), (∀ y ∈ g.take (lowM g m.1 m.2), ordM y.1 y.2 m.1 m.2 < 0) ∧ ∀ y ∈ g.drop (lowM g m.1 m.2), 0 ≤ ordM y.1 y.2 m.1 m.2
  | [], _, m => by simp
  | x :: g, h, m => by
    by_cases h0 : ordM x.1 x.2 m.1 m.2 < 0
    · have e : lowM (x :: g) m.1 m.2 = lowM g m.1 m.2 + 1 := by unfold lowM; rw [List.countP_cons]; simp [h0]
      have ih := low_parts (List.pairwise_cons.1 h).2 m
      rw [e, List.take_succ_cons, List.drop_succ_cons]
      refine ⟨fun y hy => ?_, ih.2⟩
      rcases List.mem_cons.1 hy with rfl | hy
      · exact h0
      · exact ih.1 y hy
    · have ha := up_all h (show 0 ≤ ordM x.1 x.2 m.1 m.2 by omega)
      have e : lowM (x :: g) m.1 m.2 = 0 := by
        unfold lowM
        rw [List.countP_eq_zero]
        intro y hy
        rcases List.mem_cons.1 hy with rfl | hy
        · simpa using h0
        · have := ha y hy; simp; omega
      rw [e]
      refine ⟨by simp, fun y hy => ?_⟩
      simp only [List.drop_zero] at hy
      rcases List.mem_cons.1 hy with rfl | hy
      · omega
      · have := ha y hy; omega

theorem insG_up {g : List Mk} (h : Up g) (m : Mk) : Up (insG g m) := by
  unfold insG
  split
  · exact h
  · rename_i hn
    obtain ⟨h1, h2⟩ := low_parts h m
    have hg : ∀ y ∈ g, ordM y.1 y.2 m.1 m.2 ≠ 0 := by
      intro y hy e
      apply hn
      unfold hasGone
      rw [List.any_eq_true]
      exact ⟨y, hy, by simpa using e⟩
    have h3 : ∀ y ∈ g.drop (lowM g m.1 m.2), ordM m.1 m.2 y.1 y.2 < 0 := by
      intro y hy
      have e1 := h2 y hy
      have e2 := hg y (List.mem_of_mem_drop hy)
      have e3 : ordM m.1 m.2 y.1 y.2 = - ordM y.1 y.2 m.1 m.2 := cmpM.anti m y
      omega
    have hs : Up (g.take (lowM g m.1 m.2) ++ g.drop (lowM g m.1 m.2)) := by rw [List.take_append_drop]; exact h
    have hs' := List.pairwise_append.1 hs
    refine List.pairwise_append.2 ⟨hs'.1, List.pairwise_cons.2 ⟨h3, hs'.2.1⟩, fun a ha b hb => ?_⟩
    rcases List.mem_cons.1 hb with rfl | hb
    · exact h1 a ha
    · exact hs'.2.2 a ha b hb

/-- marks go, one by one -/
theorem insAll_up {g : List Mk} (h : Up g) : ∀ (ms : List Mk), Up (ms.foldl insG g)
  | [] => h
  | m :: ms => insAll_up (insG_up h m) ms
theorem insAll_len : ∀ (ms : List Mk) (g : List Mk), (ms.foldl insG g).length ≤ g.length + ms.length
  | [], _ => by simp
  | m :: ms, g => by
    have := insAll_len ms (insG g m)
    have := insG_len g m
    simp only [List.foldl_cons, List.length_cons]
    omega
theorem insAll_take {g : List Mk} {ms : List Mk} {k : Nat} (h : k < ms.length) : (ms.take (k + 1)).foldl insG g = insG ((ms.take k).foldl insG g) ms[k] := by
  rw [List.take_succ_eq_append_getElem h, List.foldl_append]; rfl
end Go.Proofs.YtnhjebdlcbhkcacGreat

namespace Go.Proofs.YtnhjebdlcbhkcacGreat
open Go.RowKit

/-- who does deeds lies at D, with its atoms and the marks that are gone -/
structure DoerAt (w : World) (base D : Nat) (vA vG : Value) (l : List At) (g : List Mk) : Prop where
  ty : ∃ cur, w.heap[D]? = some (.cells cur 83 (0, 0))
  c0 : w.cell? ⟨D, 0, none⟩ = some vA
  c1 : w.cell? ⟨D, 1, none⟩ = some vG
  free : ∀ o, w.frozen? ⟨D, o, none⟩ = false
  lt : D < w.heap.size
  le : base ≤ D
  atoms : PickRow w base vA l
  gone : MkRow w base vG g

theorem heap_below {w w' : World} {B b : Nat} (hb : Below B w w') (h : b < B) : w'.heap[b]? = w.heap[b]? := hb.block b h

theorem DoerAt.below {w w' : World} {base D : Nat} {vA vG : Value} {l : List At} {g : List Mk} (h : DoerAt w base D vA vG l g) (hb : Below w.heap.size w w') : DoerAt w' base D vA vG l g := by
  obtain ⟨⟨cur, h1⟩, h2, h3, h4, h5, h6, h7, h8⟩ := h
  exact ⟨⟨cur, (hb.block D h5).trans h1⟩, (hb.cell (p := ⟨D, 0, none⟩) h5).trans h2, (hb.cell (p := ⟨D, 1, none⟩) h5).trans h3, fun o => (hb.frozen (p := ⟨D, o, none⟩) h5).trans (h4 o), Nat.lt_of_lt_of_le h5 hb.size, h6, h7.below hb, h8.below hb⟩

theorem owns_setD {w : World} {base D o : Nat} {e : TypeId} {size : Nat} {v u : Value} {n : Nat} {xs : List Value} (he : e ≠ 83) (hD : ∃ cur, w.heap[D]? = some (.cells cur 83 (0, 0))) (h : w.ownsRow base e size v n xs) : (w.setCell ⟨D, o, none⟩ u).ownsRow base e size v n xs := by
  obtain ⟨cur, hD⟩ := hD
  refine ownsRow_setCell_other h ?_ u
  rcases h.2 with ⟨rfl, _⟩ | ⟨g1, c1, cur1, rfl, _, h2, _⟩
  · simp [Value.ownBlock]
  · intro e1
    simp [Value.ownBlock] at e1
    subst e1
    rw [hD] at h2
    simp at h2
    exact he h2.2.symm

theorem PickRow.setD {w : World} {base D o : Nat} {v u : Value} {xs : List At} (hD : ∃ cur, w.heap[D]? = some (.cells cur 83 (0, 0))) (h : PickRow w base v xs) : PickRow (w.setCell ⟨D, o, none⟩ u) base v xs := by
  obtain ⟨rs, h1, h2, h3⟩ := h
  refine ⟨rs, h1, owns_setD (by decide) hD h2, fun i h h' => ?_⟩
  obtain ⟨g, cap, e, hown, h4⟩ := h3 i h h'
  exact ⟨g, cap, e, owns_setD (by decide) hD hown, h4⟩
theorem MkRow.setD {w : World} {base D o : Nat} {v u : Value} {xs : List Mk} (hD : ∃ cur, w.heap[D]? = some (.cells cur 83 (0, 0))) (h : MkRow w base v xs) : MkRow (w.setCell ⟨D, o, none⟩ u) base v xs := by
  obtain ⟨rs, h1, h2, h3⟩ := h
  refine ⟨rs, h1, owns_setD (by decide) hD h2, fun i h h' => ?_⟩
  obtain ⟨g, cap, e, hown, h4⟩ := h3 i h h'
  exact ⟨g, cap, e, owns_setD (by decide) hD hown, h4⟩

/-- the search answers the same in every world -/
theorem searchM_det (a a' : Option Addr) (cap cap' : Nat) (g : List Mk) (m : List (Int × Int)) (d : Int) (w : World) (hl : g.length ≤ 1000) (hm : m.length ≤ maxLen) (h : MarksAt w a g) (h' : StepsAt w a' m) (hu : Up g) :
    Calls Tryz.prog 136 #[.slice a g.length cap, .agg #[.slice a' m.length cap', .int .i64 d], .func (.func 46) #[] #[]] w fun e w' => e = .returned (.tuple #[.int .i64 (lowM g m d), .bool (hasGone g m d)]) ∧ Below w.heap.size w w' := by
  refine (searchM_any a a' cap cap' g m d w hl hm h h' (partsM_of hu m d)).mono ?_
  rintro e w1 ⟨i, hi, hc, f, rfl, hf, hb⟩
  exact ⟨by rw [lowM_cut hi hc, found_gone hu hc hf], hb⟩

set_option maxRecDepth 100000 in
set_option maxHeartbeats 4000000 in
theorem doerFind_any (D : Nat) (b a' : Option Addr) (cap cap' : Nat) (g : List Mk) (m : List (Int × Int)) (d : Int) (w : World) (hl : g.length ≤ 1000) (hm : m.length ≤ maxLen) (c1 : w.cell? ⟨D, 1, none⟩ = some (.slice b g.length cap)) (hD : D < w.heap.size) (h : MarksAt w b g) (h' : StepsAt w a' m) (hu : Up g) :
    Calls Tryz.prog 117 #[.pointer (some ⟨D, 0, none⟩), .agg #[.slice a' m.length cap', .int .i64 d]] w fun e w' => e = .returned (.tuple #[.int .i64 (lowM g m d), .bool (hasGone g m d)]) ∧ Below w.heap.size w w' := by
  have hb1 : Below w.heap.size w (w.alloc (Obj.cells #[.slice a' m.length cap', .int .i64 d] 46)) := (Below.refl _ _).alloc (Nat.le_refl _) _
  have c1' := (hb1.cell (p := ⟨D, 1, none⟩) hD).trans c1
  have m0 : (w.alloc (Obj.cells #[.slice a' m.length cap', .int .i64 d] 46)).cell? ⟨w.heap.size, 0, none⟩ = some (.slice a' m.length cap') := by simp
  have m1 : (w.alloc (Obj.cells #[.slice a' m.length cap', .int .i64 d] 46)).cell? ⟨w.heap.size, 1, none⟩ = some (.int .i64 d) := by simp
  have HU := hidE hu
  clear hu
  go_enter Tryz.func117, Tryz.ntmps117
  go_upto_region 1 with fail
  replace h := h.below hb1 (Nat.le_refl _)
  replace h' := h'.below hb1 (Nat.le_refl _)
  generalize w.alloc (Obj.cells #[.slice a' m.length cap', .int .i64 d] 46) = w1 at hb1 c1' m0 m1 h h' ⊢
  have k0 := cell_regrown c1'
  have k1 := cell_regrown m0
  have k2 := cell_regrown m1
  have S1 := hidE (fun d os => h.below (below_regrown w1 d os) (Nat.le_refl _))
  have S2 := hidE (fun d os => h'.below (below_regrown w1 d os) (Nat.le_refl _))
  refine wp_region_quiet_below (by kernel_rfl) (by kernel_rfl) ?_
  repeat (first | go_big_quiet_step ((go_at_call 136; exact Calls.regrown_of (searchM_det _ _ _ _ g m _ _ hl hm (S1.out _ _) (S2.out _ _) HU.out))) | quiet_step ((go_at_call 136; exact Calls.regrown_of (searchM_det _ _ _ _ g m _ _ hl hm (S1.out _ _) (S2.out _ _) HU.out))))
  refine wpQuiet_nil ?_
  intro _ hw'
  obtain ⟨⟨dq, osq⟩, hw''⟩ := hw'
  subst hw''
  go_wp2
  go_ret2
  exact ⟨rfl, hb1.thru (below_regrown _ _ _) hb1.size⟩
end Go.Proofs.YtnhjebdlcbhkcacGreat
