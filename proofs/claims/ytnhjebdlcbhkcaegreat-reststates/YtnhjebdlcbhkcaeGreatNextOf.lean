/- Rows of marks that are a call's own, their paths too. -/
import Derived.Test.YtnhjebdlcbhkcaeGreatGapA
import Derived.Test.YtnhjebdlcbhkcaeGreatRowC
import Derived.Test.YtnhjebdlcbhkcaeGreatAtomCk
import Derived.RangeFuncNested
import Derived.RangeFuncBound
import Derived.RangeFuncCalls
import Derived.RangeFuncLeaves
import Derived.Shelf.Abstract
import Derived.Shelf.RegionOpen
import Derived.OwnWalkIn
import Derived.TacticsInMore
import Derived.LoopNIn
import Derived.LoopIn
import Derived.Maps.AppendAt
import Derived.Sort.CutIn
import Derived.Test.YtnhjebdlcbhkcaeGreatPutA
namespace Go.Proofs.YtnhjebdlcbhkcaeGreat
open Go.RowKit

abbrev Mk := List (Int × Int) × Int

structure RawK where
  p : Option Addr
  n : Nat
  cap : Nat
  clock : Int

def RawK.cells (r : RawK) : List Value := [.slice r.p r.n r.cap, .int .i64 r.clock]
def flatK (l : List RawK) : List Value := l.flatMap RawK.cells

theorem flatK_append (l m : List RawK) : flatK (l ++ m) = flatK l ++ flatK m := by unfold flatK; simp
theorem flatK_get (l : List RawK) : ∀ i (h : i < l.length), (flatK l)[i * 2]? = some (.slice l[i].p l[i].n l[i].cap) ∧ (flatK l)[i * 2 + 1]? = some (.int .i64 l[i].clock) := by
  induction l with
  | nil => intro i h; simp at h
  | cons s l ih =>
    intro i h
    match i with
    | 0 => exact ⟨rfl, rfl⟩
    | i + 1 =>
      have := ih i (by simpa using h)
      rw [show (i + 1) * 2 = i * 2 + 2 by omega, show i * 2 + 2 + 1 = i * 2 + 1 + 2 by omega]
      exact this
theorem flatK_one (l : List RawK) : ∀ u ∈ flatK l, u.oneCell' = true := by
  intro u hu
  unfold flatK at hu
  rw [List.mem_flatMap] at hu
  obtain ⟨s, _, hs⟩ := hu
  simp [RawK.cells] at hs
  rcases hs with rfl | rfl <;> rfl
theorem flatK_take (rs : List RawK) : ∀ i, (flatK rs).take (i * 2) = flatK (rs.take i) := by
  induction rs with
  | nil => intro i; simp [flatK]
  | cons r rs ih =>
    intro i
    cases i with
    | zero => simp [flatK]
    | succ i =>
      have h1 : flatK (r :: rs) = r.cells ++ flatK rs := rfl
      have h2 : flatK ((r :: rs).take (i + 1)) = r.cells ++ flatK (rs.take i) := rfl
      rw [h1, h2, List.take_append, List.take_of_length_le (by show 2 ≤ _; omega), show (i + 1) * 2 - r.cells.length = i * 2 by show (i + 1) * 2 - 2 = _; omega, ih]
theorem flatK_drop (rs : List RawK) : ∀ i, (flatK rs).drop (i * 2) = flatK (rs.drop i) := by
  induction rs with
  | nil => intro i; simp [flatK]
  | cons r rs ih =>
    intro i
    cases i with
    | zero => simp [flatK]
    | succ i =>
      have h1 : flatK (r :: rs) = r.cells ++ flatK rs := rfl
      have h2 : flatK ((r :: rs).drop (i + 1)) = flatK (rs.drop i) := rfl
      rw [h1, h2, List.drop_append, List.drop_of_length_le (by show 2 ≤ _; omega), show (i + 1) * 2 - r.cells.length = i * 2 by show (i + 1) * 2 - 2 = _; omega, ih, List.nil_append]
theorem rawK_new (w : World) (r : RawK) : ∀ j u, r.cells[j]? = some u → (w.alloc (.cells #[.slice r.p r.n r.cap, .int .i64 r.clock] 42)).cell? ⟨w.heap.size, j, none⟩ = some u := by
  intro j u hj
  rw [World.cell?_alloc_new]
  simpa [RawK.cells] using hj

def PickK (w : World) (base : Nat) (r : RawK) (x : Mk) : Prop :=
  ∃ g cap, r = ⟨some ⟨g, 0, none⟩, x.1.length, cap, x.2⟩ ∧ w.ownsRow base 124 2 (.slice (some ⟨g, 0, none⟩) x.1.length cap) x.1.length (flatS x.1) ∧ x.1.length ≤ maxLen

theorem types_neK {w : World} {base base' g n cap m : Nat} {v : Value} {xs ys : List Value} (h : w.ownsRow base 124 2 (.slice (some ⟨g, 0, none⟩) n cap) n xs) (h' : w.ownsRow base' 42 2 v m ys) : some g ≠ v.ownBlock := by
  intro e
  rcases h.2 with ⟨hc, _⟩ | ⟨g1, c1, cur, h1, _, h2, _⟩
  · simp at hc
  have hg : g1 = g := by simp at h1; exact h1.1.symm
  subst hg
  rcases h'.2 with ⟨rfl, _⟩ | ⟨g2, c2, cur2, rfl, _, h3, _⟩
  · simp [Value.ownBlock] at e
  · simp [Value.ownBlock] at e
    subst e
    rw [h2] at h3
    simp at h3

theorem types_neA {w : World} {base base' m n : Nat} {u v : Value} {xs ys : List Value} (h : w.ownsRow base 108 3 u n xs) (h' : w.ownsRow base' 42 2 v m ys) : u.ownBlock = none ∨ u.ownBlock ≠ v.ownBlock := by
  rcases h.2 with ⟨rfl, _⟩ | ⟨g1, c1, cur, rfl, _, h2, _⟩
  · exact Or.inl rfl
  · refine Or.inr fun e => ?_
    rcases h'.2 with ⟨rfl, _⟩ | ⟨g2, c2, cur2, rfl, _, h3, _⟩
    · simp [Value.ownBlock] at e
    · simp [Value.ownBlock] at e
      subst e
      rw [h2] at h3
      simp at h3

theorem PickK.kept {w w' : World} {base : Nat} {row : Option Nat} {r : RawK} {x : Mk} (h : PickK w base r x) (hg : w.grownBy w' row) (hne : ∀ g cap, r.p = some ⟨g, 0, none⟩ → w.ownsRow base 124 2 (.slice (some ⟨g, 0, none⟩) x.1.length cap) x.1.length (flatS x.1) → some g ≠ row) : PickK w' base r x := by
  obtain ⟨g, cap, rfl, hown, h1⟩ := h
  exact ⟨g, cap, rfl, hown.kept hg (Or.inr (by have := hne g cap rfl hown; simpa [Value.ownBlock] using this)), h1⟩

theorem PickK.below {w w' : World} {base : Nat} {r : RawK} {x : Mk} (h : PickK w base r x) (hb : Below w.heap.size w w') : PickK w' base r x := by
  obtain ⟨g, cap, rfl, hown, h1⟩ := h
  exact ⟨g, cap, rfl, owns_below hown hb, h1⟩

def MkRow (w : World) (base : Nat) (v : Value) (xs : List Mk) : Prop :=
  ∃ rs : List RawK, rs.length = xs.length ∧ w.ownsRow base 42 2 v xs.length (flatK rs) ∧ ∀ i (h : i < xs.length) (h' : i < rs.length), PickK w base rs[i] xs[i]

theorem MkRow.nil (w : World) (base : Nat) : MkRow w base (.slice none 0 0) [] := ⟨[], rfl, World.ownsRow_nil w base 42 2, fun i h => by simp at h⟩

theorem MkRow.below {w w' : World} {base : Nat} {v : Value} {xs : List Mk} (h : MkRow w base v xs) (hb : Below w.heap.size w w') : MkRow w' base v xs := by
  obtain ⟨rs, h1, h2, h3⟩ := h
  exact ⟨rs, h1, owns_below h2 hb, fun i h h' => (h3 i h h').below hb⟩

theorem MkRow.mono {w : World} {base base' : Nat} {v : Value} {xs : List Mk} (h : MkRow w base v xs) (hb : base' ≤ base) : MkRow w base' v xs := by
  obtain ⟨rs, h1, h2, h3⟩ := h
  refine ⟨rs, h1, owns_base h2 hb, fun i h h' => ?_⟩
  obtain ⟨g, cap, e, hown, h4⟩ := h3 i h h'
  exact ⟨g, cap, e, owns_base hown hb, h4⟩

theorem MkRow.marks {w : World} {base : Nat} {v : Value} {xs : List Mk} (h : MkRow w base v xs) : ∃ p cap, v = .slice p xs.length cap ∧ MarksAt w p xs ∧ xs.length ≤ cap ∧ cap ≤ maxLen := by
  obtain ⟨rs, hl, hown, hr⟩ := h
  have hown' := hown
  rcases hown.2 with ⟨rfl, h0⟩ | ⟨g, cap, cur, rfl, _, _, hc, hm, _⟩
  · have e : xs = [] := List.length_eq_zero_iff.1 h0
    subst e
    exact ⟨none, 0, rfl, Or.inl rfl, Nat.le_refl _, Nat.zero_le _⟩
  refine ⟨some ⟨g, 0, none⟩, cap, rfl, ?_, hc, hm⟩
  by_cases e : xs = []
  · exact Or.inl e
  refine Or.inr ⟨g, 0, rfl, (hown'.lt g rfl).2, fun i hi => ?_⟩
  have c := flatK_get rs i (by omega)
  obtain ⟨g', cap', he, ho, hle⟩ := hr i hi (by omega)
  rw [Nat.zero_add]
  refine ⟨some ⟨g', 0, none⟩, cap', ?_, ?_, stepsAt_owns ho rfl, hle⟩
  · have := (hown'.cellAt (i * 2) (by omega)).trans c.1
    rw [he] at this; exact this
  · have := (hown'.cellAt (i * 2 + 1) (by omega)).trans c.2
    rw [he] at this; exact this

theorem MkRow.snoc {w w' : World} {base : Nat} {v v' : Value} {xs : List Mk} {r : RawK} {x : Mk} {rs : List RawK} (hl : rs.length = xs.length) (hown : w.ownsRow base 42 2 v xs.length (flatK rs)) (hr : ∀ i (h : i < xs.length) (h' : i < rs.length), PickK w base rs[i] xs[i]) (hx : PickK w base r x) (hg : w.grownBy w' v.ownBlock) (h : w'.ownsRow base 42 2 v' (xs.length + 1) (flatK rs ++ r.cells)) :
    MkRow w' base v' (xs ++ [x]) := by
  refine ⟨rs ++ [r], by simp [hl], ?_, fun i hi hi' => ?_⟩
  · rw [flatK_append, List.length_append]
    show w'.ownsRow base 42 2 v' (xs.length + 1) (flatK rs ++ (r.cells ++ []))
    rw [List.append_nil]; exact h
  · by_cases e : i < xs.length
    · rw [List.getElem_append_left (by omega), List.getElem_append_left e]
      exact (hr i e (by omega)).kept hg (fun g cap _ ho => types_neK ho hown)
    · have : i = xs.length := by simp at hi; omega
      subst this
      have e1 : (rs ++ [r])[xs.length] = r := by rw [List.getElem_append_right (by omega)]; simp [hl]
      have e2 : (xs ++ [x])[xs.length] = x := by simp
      rw [e1, e2]
      exact hx.kept hg (fun g cap _ ho => types_neK ho hown)

theorem MkRow.ins {w w' : World} {base : Nat} {v v' : Value} {xs : List Mk} {r : RawK} {x : Mk} {rs : List RawK} {i : Nat} (hi : i ≤ xs.length) (hl : rs.length = xs.length) (hown : w.ownsRow base 42 2 v xs.length (flatK rs)) (hr : ∀ i (h : i < xs.length) (h' : i < rs.length), PickK w base rs[i] xs[i]) (hx : PickK w base r x) (hg : w.grownBy w' v.ownBlock)
    (h : w'.ownsRow base 42 2 v' (xs.length + 1) ((flatK rs).take (i * 2) ++ r.cells ++ (flatK rs).drop (i * 2))) : MkRow w' base v' (xs.take i ++ x :: xs.drop i) := by
  refine ⟨rs.take i ++ r :: rs.drop i, by simp [hl], ?_, fun k hk hk' => ?_⟩
  · have e1 : (xs.take i ++ x :: xs.drop i).length = xs.length + 1 := by simp; omega
    rw [e1, flatK_append]
    rw [flatK_take, flatK_drop, List.append_assoc] at h
    exact h
  · have hkl : k < xs.length + 1 := by simp at hk; omega
    rcases Nat.lt_trichotomy k i with hlt | heq | hgt
    · have e1 : (rs.take i ++ r :: rs.drop i)[k] = rs[k]'(by omega) := by rw [List.getElem_append_left (by simp; omega)]; simp
      have e2 : (xs.take i ++ x :: xs.drop i)[k] = xs[k]'(by omega) := by rw [List.getElem_append_left (by simp; omega)]; simp
      rw [e1, e2]
      exact (hr k (by omega) (by omega)).kept hg (fun g cap _ ho => types_neK ho hown)
    · subst heq
      have e1 : (rs.take k ++ r :: rs.drop k)[k] = r := by
        rw [List.getElem_append_right (by simp; omega)]
        simp [show k - min k rs.length = 0 by omega]
      have e2 : (xs.take k ++ x :: xs.drop k)[k] = x := by
        rw [List.getElem_append_right (by simp; omega)]
        simp [show k - min k xs.length = 0 by omega]
      rw [e1, e2]
      exact hx.kept hg (fun g cap _ ho => types_neK ho hown)
    · obtain ⟨j, rfl⟩ : ∃ j, k = j + 1 := ⟨k - 1, by omega⟩
      have e1 : (rs.take i ++ r :: rs.drop i)[j + 1] = rs[j]'(by omega) := by
        rw [List.getElem_append_right (by simp; omega)]
        simp only [List.length_take, show j + 1 - min i rs.length = (j - i) + 1 by omega, List.getElem_cons_succ, List.getElem_drop]
        congr 1; omega
      have e2 : (xs.take i ++ x :: xs.drop i)[j + 1] = xs[j]'(by omega) := by
        rw [List.getElem_append_right (by simp; omega)]
        simp only [List.length_take, show j + 1 - min i xs.length = (j - i) + 1 by omega, List.getElem_cons_succ, List.getElem_drop]
        congr 1; omega
      rw [e1, e2]
      exact (hr j (by omega) (by omega)).kept hg (fun g cap _ ho => types_neK ho hown)

theorem MkRow.kept {w w' : World} {base : Nat} {row : Option Nat} {v : Value} {xs : List Mk} (h : MkRow w base v xs) (hg : w.grownBy w' row) (h1 : v.ownBlock = none ∨ v.ownBlock ≠ row) (h2 : ∀ g cur, w.heap[g]? = some (.cells cur 124 (0, 0)) → some g ≠ row) : MkRow w' base v xs := by
  obtain ⟨rs, hl, hown, hr⟩ := h
  refine ⟨rs, hl, hown.kept hg h1, fun i h h' => (hr i h h').kept hg fun g cap _ ho => ?_⟩
  rcases ho.2 with ⟨hc, _⟩ | ⟨g1, c1, cur, e1, _, e2, _⟩
  · simp at hc
  · simp at e1
    rw [e1.1]
    exact h2 g1 cur e2
theorem PickRow.kept {w w' : World} {base : Nat} {row : Option Nat} {v : Value} {xs : List At} (h : PickRow w base v xs) (hg : w.grownBy w' row) (h1 : v.ownBlock = none ∨ v.ownBlock ≠ row) (h2 : ∀ g cur, w.heap[g]? = some (.cells cur 124 (0, 0)) → some g ≠ row) : PickRow w' base v xs := by
  obtain ⟨rs, hl, hown, hr⟩ := h
  refine ⟨rs, hl, hown.kept hg h1, fun i h h' => (hr i h h').kept hg fun g cap _ ho => ?_⟩
  rcases ho.2 with ⟨hc, _⟩ | ⟨g1, c1, cur, e1, _, e2, _⟩
  · simp at hc
  · simp at e1
    rw [e1.1]
    exact h2 g1 cur e2
end Go.Proofs.YtnhjebdlcbhkcaeGreat

namespace Go.Proofs.YtnhjebdlcbhkcaeGreat
open Go.RowKit Go.Shelf

def SeqW {α : Type} (F : Fence) (n : Nat) (P : Program) (g : Nat) (lb : Array Value) (encs : α → Array Value) (Kp : World → World → Prop) (S : List α → World → Prop) (N : Nat) (w : World) : Prop :=
  ∀ (l : Nat) (J : List α → World → Prop) (W : World), Below w.heap.size w W → AbidesFrom W.heap.size J →
    (∀ pre x W1, J pre W1 → pre.length < N → YieldAt F (n - 1) P l (encs x) W1 fun e W' => e = .returned (.bool true) ∧ J (pre ++ [x]) W' ∧ Kp W1 W') →
    J [] W → CallsIn F n P g (#[.func (.yield l) #[] #[]] ++ lb) W fun e W' => (∃ v, e = .returned v) ∧ ∃ xs, S xs W' ∧ J xs W'

def goesOn (B : Nat) (Kp : World → World → Prop) (R : World → Prop) (W : World) : Exit → Act → World → Prop
  | .normal, _, W' => KeepsFrom B W W' ∧ Kp W W' ∧ R W'
  | _, _, _ => False

theorem rangeFunc_w {F : Fence} {n : Nat} {P : Program} {α : Type} {g : Operand} {ps : Array Tmp} {assign body : Code} {Q : Exit → Act → World → Prop} {a : Act} {w : World}
    (hro : F.round = none) (h1 : 1 ≤ n) {gf : Nat} {lb : Array Value} (hg : a.eval g = .func (.func gf) #[] lb) (hFg : F.fn gf) (eg : ∀ args w, (callFunc gf args).run P w = .ok (.enter gf args) w)
    {encs : α → Array Value} {Kp : World → World → Prop} {S : List α → World → Prop} {N : Nat} {w0 : World} (hseq : SeqW F (n - 1) P gf lb encs Kp S N w0)
    (hKt : ∀ {A B C : World}, Kp A B → Kp B C → Kp A C) (hKb : ∀ (W : World) (l : Nat) (o o' : Obj), w.heap.size ≤ l → W.heap[l]? = some o → o.isCells = false → o.isWalk = false → Kp W (W.putObj l o'))
    (hS : OwnFrom w.heap.size S) (hb0 : Below w0.heap.size w0 w) (hps : ∀ x, (encs x).size = ps.size)
    (I : List α → World → Prop) (hI : OwnFrom w.heap.size I) (h0 : I [] w) (Ax : α → Act → World → Prop) (hAx : ∀ x a', OwnFrom w.heap.size (fun (_ : Unit) W => Ax x a' W))
    (hassign : ∀ (l : Nat) (pre : List α) (x : α) (W : World) (K : Act → World → Prop), I pre W → (∀ a' W', KeepsFrom w.heap.size W W' → Kp W W' → I pre W' → Ax x a' W' → K a' W') →
      assign.wpIn (F.inRound l) (n - 1 - 1) P (Exit.then K (fun _ _ _ => False)) { tmps := (ps.zip (encs x)).foldl (fun t (p, v) => t.setIfInBounds p v) a.tmps, defers := [] } W)
    (hbody : ∀ (l : Nat) (pre : List α) (x : α) (a' : Act) (W : World), w.heap.size ≤ l → I pre W → Ax x a' W → pre.length < N → body.wpIn (F.inRound l) (n - 1 - 1) P (goesOn w.heap.size Kp (I (pre ++ [x])) W) a' W)
    (hdone : ∀ (D : Nat) (xs : List α) (W : World), w.heap.size ≤ D → S xs W → I xs W → W.heap[D]? = some (.deferred (some [])) → Q .normal { a with defers := { target := .collected D, args := #[] } :: a.defers } W) :
    (Code.rangeFunc g ps assign body).wpIn F n P Q a w := by
  refine wpIn_rangeFunc ?_
  intro fn hfn
  rw [hro]
  -- the record of the loop, and the world in which the iterator is called
  obtain ⟨rc, hrc⟩ : ∃ rc : LoopState → Loop, rc = fun st => { state := st, pending := none, fn, tmps := a.tmps, params := ps, assign, body, defers := w.heap.size } := ⟨_, rfl⟩
  obtain ⟨W1, hW1⟩ : ∃ W1, (w.alloc (.deferred (some []))).alloc (.loop (rc .ready)) = W1 := ⟨_, rfl⟩
  have hz0 : (w.alloc (.deferred (some []))).heap.size = w.heap.size + 1 := by simp
  have hL1 : W1.heap[w.heap.size + 1]? = some (.loop (rc .ready)) := by
    rw [← hW1, ← hz0]; exact World.alloc_heap_new _ _
  have hK1 : W1.heap[w.heap.size]? = some (.deferred (some [])) := by
    rw [← hW1]; exact (Below.heap_alloc _ _ _ (by simp)).trans (World.alloc_heap_new w _)
  have hI1 : I [] W1 := by rw [← hW1]; exact hI.alloc _ (hI.alloc _ h0)
  have hb1 : Below w0.heap.size w0 W1 := by
    rw [← hW1]; exact hb0.trans ((((Below.refl _ w).alloc (Nat.le_refl _) _).alloc (by simp) _).mono hb0.size)
  have hsz : W1.heap.size = w.heap.size + 2 := by rw [← hW1]; simp
  refine ⟨w.heap.size + 1, [{ target := .collected w.heap.size, args := #[] }], W1, { target := .fn (.func gf) lb, args := #[.func (.yield (w.heap.size + 1)) #[] #[]] }, W1, gf,
    #[.func (.yield (w.heap.size + 1)) #[] #[]] ++ lb, W1, ?_, ?_, ?_, ?_, fun _ => h1, ?_⟩
  · rw [← hW1, hrc]; exact run_enterLoop_outer _ _ _ _ _
  · simp only [resolve, hg]
    simp [go_sem]
  · intro f' hf'; simp [Target.leads] at hf'; subst hf'; exact hFg
  · simp [invoke, go_sem, eg]
  · clear hW1
    have hr' : ∀ {A : World} {row : Option Nat}, (∀ r, row = some r → W1.heap.size ≤ r ∧ ∃ o : Obj, A.heap[r]? = some o ∧ o.isWalk = true) → (∀ r, row = some r → w.heap.size ≤ r ∧ ∃ o : Obj, A.heap[r]? = some o ∧ o.isCells = false) :=
      fun hr r e => by obtain ⟨hB, o, ho, hw⟩ := hr r e; exact ⟨by omega, o, ho, Obj.not_cells_of_walk hw⟩
    refine (hseq (w.heap.size + 1) (fun pre W => I pre W ∧ W.heap[w.heap.size + 1]? = some (.loop (rc .ready)) ∧ W.heap[w.heap.size]? = some (.deferred (some []))) W1 hb1 ?_ ?_ ⟨hI1, hL1, hK1⟩).mono ?_
    · intro s A B row hs hgr hr
      exact ⟨hI s A B row hs.1 hgr (hr' hr), (grownBy_keeps hgr (fun r e => (hr r e).2) hs.2.1 rfl).trans hs.2.1, (grownBy_keeps hgr (fun r e => (hr r e).2) hs.2.2 rfl).trans hs.2.2⟩
    · rintro pre x W ⟨hi, hl, hk⟩ hlen
      have hy := run_yield (P := P) (args := encs x) hl (by rw [hrc]; exact hps x)
      rw [hrc] at hy
      refine ⟨fn, _, assign, body, hy, roundIn_of_wpIn hfn (hassign _ pre x W _ hi ?_)⟩
      intro a' V kv kpv hiv hax
      have hlv := kv.same _ _ (Nat.le_succ _) hl rfl
      have hkv := kv.same _ _ (Nat.le_refl _) hk rfl
      have hlt : w.heap.size + 1 < V.heap.size := (Array.getElem?_eq_some_iff.1 hlv).1
      refine ⟨_, run_beginRound hlv (by rw [hrc]), ?_⟩
      have hl2 : (V.putObj (w.heap.size + 1) (.loop { rc .ready with state := .busy })).heap[w.heap.size + 1]? = some (.loop { rc .ready with state := .busy }) := World.putObj_heap_same hlt
      have hk2 : (V.putObj (w.heap.size + 1) (.loop { rc .ready with state := .busy })).heap[w.heap.size]? = some (.deferred (some [])) := (World.putObj_heap_other (by omega)).trans hkv
      refine wpIn_mono (hbody _ pre x a' _ (Nat.le_succ _) (hI.putObj _ hiv (Nat.le_succ _) hlv rfl) ((hAx x a').putObj (s := ()) _ hax (Nat.le_succ _) hlv rfl) hlen) ?_
      rintro e a3 V3 hp
      cases e with
      | normal =>
        obtain ⟨k3, kp3, hi3⟩ := hp
        have hl3 := k3.same _ _ (Nat.le_succ _) hl2 rfl
        have hk3 := k3.same _ _ (Nat.le_refl _) hk2 rfl
        have hend := run_endRound (P := P) none hl3
        rw [hrc] at hend
        refine ⟨_, _, hend, rfl, ⟨?_, ?_, ?_⟩, ?_⟩
        · exact hI.putObj _ hi3 (Nat.le_succ _) hl3 rfl
        · rw [hrc]; exact World.putObj_heap_same (Array.getElem?_eq_some_iff.1 hl3).1
        · exact (World.putObj_heap_other (by omega)).trans hk3
        · exact hKt kpv (hKt (hKt (hKb _ _ _ _ (Nat.le_succ _) hlv rfl rfl) kp3) (hKb _ _ _ _ (Nat.le_succ _) hl3 rfl rfl))
      | _ => exact hp.elim
    · rintro e W2 ⟨⟨v, rfl⟩, xs, hs, hi, hl, hk⟩
      have hend := run_endLoop (P := P) hl (by rw [hrc]; simp)
      rw [hrc] at hend
      exact ⟨none, _, hend, hdone _ xs _ (Nat.le_refl _) (hS.putObj _ hs (Nat.le_succ _) hl rfl) (hI.putObj _ hi (Nat.le_succ _) hl rfl) ((World.putObj_heap_other (by omega)).trans hk)⟩
end Go.Proofs.YtnhjebdlcbhkcaeGreat

namespace Go.Proofs.YtnhjebdlcbhkcaeGreat
open Go.RowKit

set_option maxHeartbeats 1000000 in
theorem nextOf_bad (a : Option Addr) (cap : Nat) (l : List (Int × Int)) (c n : Int) (w : World) (hl : l.length ≤ maxLen) (h : StepsAt w a l) (hbad : chk l c ≠ 0) :
    Calls Tryz.prog 160 #[.agg #[.slice a l.length cap, .int .i64 c], .int .i64 n] w (NextGives w l c n) := by
  have hn : Hid (nxt l c n = ([], 0, chk l c)) := by show _ = _; unfold nxt; rw [if_pos hbad]
  have hx : (chk l c != 0) = true := by rw [bne_iff_ne]; exact hbad
  clear hbad
  go_enter Tryz.func160, Tryz.ntmps160
  go_wp2_with (go_at_call 156; refine (checkMark_any _ _ _ _ _ hl (by exact h.below (((Below.refl _ _).alloc (Nat.le_refl _) _).alloc (by simp) _) (Nat.le_refl _))).mono ?_; rintro e w' ⟨rfl, hb⟩; obtain ⟨hcc, hff⟩ := bcellN hb (w.heap.size + 2) (by simp))
  refine bodyPost_ret (v := .tuple #[.agg #[.slice none 0 0, .int .i64 0], .int .i64 (chk l c)]) (by simp [results, Tryz.results160, go_sem, hcc]) rfl ?_
  refine ⟨none, 0, by rw [hn.out]; rfl, Or.inl (by rw [hn.out]), ?_⟩
  exact ((((Below.refl _ _).alloc (Nat.le_refl _) _).alloc (by simp) _).thru hb (by simp; omega)).setCell (by simp) _ |>.setCell (by simp) _

set_option maxHeartbeats 1000000 in
theorem nextOf_range (a : Option Addr) (cap : Nat) (l : List (Int × Int)) (c n : Int) (w : World) (hl : l.length ≤ maxLen) (h : StepsAt w a l) (hok : chk l c = 0) (hr : n < 0 ∨ 60 < n) :
    Calls Tryz.prog 160 #[.agg #[.slice a l.length cap, .int .i64 c], .int .i64 n] w (NextGives w l c n) := by
  have hn : Hid (nxt l c n = ([], 0, 3)) := by show _ = _; unfold nxt; rw [if_neg (by omega), if_pos hr]
  have H0 : Hid (chk l c = 0) := hok
  have HI : Hid (inB n 0 60 = false) := by show _ = _; rw [Bool.eq_false_iff]; intro e; simp [inB] at e; omega
  clear hok hr
  go_enter Tryz.func160, Tryz.ntmps160
  go_wp2_with (first | (go_at_call 156; refine (checkMark_any _ _ _ _ _ hl (by exact h.below (((Below.refl _ _).alloc (Nat.le_refl _) _).alloc (by simp) _) (Nat.le_refl _))).mono ?_; rintro e w' ⟨rfl, hb⟩; rw [H0.out]; obtain ⟨hcc, hff⟩ := bcellN hb (w.heap.size + 2) (by simp)) | (go_at_call 101; refine (between_any _ _ _ _).mono ?_; rintro e w'' ⟨rfl, rfl⟩; rw [HI.out]))
  refine bodyPost_ret (v := .tuple #[.agg #[.slice none 0 0, .int .i64 0], .int .i64 3]) (by simp [results, Tryz.results160, go_sem, hcc]) rfl ?_
  refine ⟨none, 0, by rw [hn.out]; rfl, Or.inl (by rw [hn.out]), ?_⟩
  exact ((((Below.refl _ _).alloc (Nat.le_refl _) _).alloc (by simp) _).thru hb (by simp; omega)).setCell (by simp) _ |>.setCell (by simp) _

set_option maxRecDepth 100000 in
set_option maxHeartbeats 1000000 in
theorem nextOf_in (b off : Nat) (cap : Nat) (l : List (Int × Int)) (c n : Int) (w : World) (h : StepsAt w (some ⟨b, off, none⟩) l) (hok : chk l c = 0) (h0 : 0 ≤ n) (h60 : n ≤ 60) :
    Calls Tryz.prog 160 #[.agg #[.slice (some ⟨b, off, none⟩) l.length cap, .int .i64 c], .int .i64 n] w (NextGives w l c n) := by
  have hn : Hid (nxt l c n = if chk (bump l n) (c + n) ≠ 0 then ([], 0, 3) else (bump l n, c + n, 0)) := by show _ = _; unfold nxt; rw [if_neg (by omega), if_neg (by omega)]
  obtain ⟨hl0, hl10, _, _, hc1, hc2⟩ := chk_ok hok
  have H0 : Hid (chk l c = 0) := hok
  have HI : Hid (inB n 0 60 = true) := by show _ = _; simp [inB]; omega
  have hml : l.length ≤ maxLen := by unfold maxLen; omega
  have HLB : Hid ((bump l n).length = l.length) := by show _ = _; unfold bump setL; simp
  have hmlb : (bump l n).length ≤ maxLen := by rw [HLB.out]; exact hml
  clear hok
  obtain ⟨q0, q1, q3, q4, hz, hb1⟩ := boxes2 w (.slice (some ⟨b, off, none⟩) l.length cap) (.int .i64 c) (.slice none 0 0) (.int .i64 0) 42 42
  have q2 : ∀ o, ((w.alloc (Obj.cells #[.slice (some ⟨b, off, none⟩) l.length cap, .int .i64 c] 42)).alloc (Obj.cells #[.slice none 0 0, .int .i64 0] 42)).frozen? ⟨w.heap.size + 1, o, none⟩ = false := by intro o; go_simp
  go_enter Tryz.func160, Tryz.ntmps160
  go_upto_region 1 with fail
  generalize (w.alloc (Obj.cells #[.slice (some ⟨b, off, none⟩) l.length cap, .int .i64 c] 42)).alloc (Obj.cells #[.slice none 0 0, .int .i64 0] 42) = w1 at q0 q1 q2 q3 q4 hz hb1 ⊢
  have z1 : w.heap.size < w1.heap.size := by omega
  have z2 : w.heap.size + 1 < w1.heap.size := by omega
  clear hz
  go_wp2_with fail
  refine (checkMark_any _ _ l _ _ hml (h.below hb1 (Nat.le_refl _))).mono ?_
  rintro e w2 ⟨rfl, hb2⟩
  rw [H0.out]
  have p0 := (hb2.cell (p := ⟨w.heap.size, 0, none⟩) z1).trans q0
  have p1 := (hb2.cell (p := ⟨w.heap.size, 1, none⟩) z1).trans q1
  go_wp2_with fail
  refine (between_any _ _ _ _).mono ?_
  rintro e w2' ⟨rfl, rfl⟩
  rw [HI.out]
  go_wp2_with fail
  have hbb := hb1.thru hb2 hb1.size
  refine (afterOf_any b off _ l c n _ (h.below hbb (Nat.le_refl _)) H0.out h0 h60).mono ?_
  rintro e w3 ⟨g, cap2, rfl, hs3, hb3, _⟩
  have hb4 : Below w1.heap.size w1 (w3.alloc (Obj.cells #[.slice (some ⟨g, 0, none⟩) l.length cap2, .int .i64 (c + n)] 42)) := (hb2.thru hb3 hb2.size).alloc (Nat.le_trans hb2.size hb3.size) _
  have n0 : (w3.alloc (Obj.cells #[.slice (some ⟨g, 0, none⟩) l.length cap2, .int .i64 (c + n)] 42)).cell? ⟨w3.heap.size, 0, none⟩ = some (.slice (some ⟨g, 0, none⟩) l.length cap2) := by go_simp
  have n1 : (w3.alloc (Obj.cells #[.slice (some ⟨g, 0, none⟩) l.length cap2, .int .i64 (c + n)] 42)).cell? ⟨w3.heap.size, 1, none⟩ = some (.int .i64 (c + n)) := by go_simp
  have zN : w3.heap.size < (w3.alloc (Obj.cells #[.slice (some ⟨g, 0, none⟩) l.length cap2, .int .i64 (c + n)] 42)).heap.size := by simp
  have hs4 := hs3.below ((Below.refl _ w3).alloc (Nat.le_refl _) (Obj.cells #[.slice (some ⟨g, 0, none⟩) l.length cap2, .int .i64 (c + n)] 42)) (Nat.le_refl _)
  have gnz : g ≠ w.heap.size + 1 := by
    intro e
    rcases id hs3 with h1 | ⟨b1, o1, he, _, hc1⟩
    · have := HLB.out; rw [h1] at this; simp at this; omega
    · simp only [Option.some.injEq, Addr.mk.injEq] at he
      obtain ⟨rfl, rfl, _⟩ := he
      have hx := (hc1 0 (by rw [HLB.out]; exact hl0)).1
      rw [Nat.zero_mul, Nat.add_zero, e, (hb2.thru hb3 hb2.size).cell (p := ⟨w.heap.size + 1, 0, none⟩) z2, q3] at hx
      simp at hx
  clear hs3 hb3 hb2 p0 p1
  go_wp2_with fail
  generalize w3.alloc (Obj.cells #[.slice (some ⟨g, 0, none⟩) l.length cap2, .int .i64 (c + n)] 42) = V at hb4 n0 n1 zN hs4 ⊢
  refine (checkMark_n _ _ _ (bump l n) _ _ HLB.out.symm hmlb hs4).mono ?_
  rintro e w5 ⟨rfl, hb5⟩
  have hb6 := hb4.thru hb5 hb4.size
  have m0 := (hb5.cell (p := ⟨w3.heap.size, 0, none⟩) zN).trans n0
  have m1 := (hb5.cell (p := ⟨w3.heap.size, 1, none⟩) zN).trans n1
  have y2 := (hb6.cell (p := ⟨w.heap.size + 1, 0, none⟩) z2).trans q3
  have y3 := (hb6.cell (p := ⟨w.heap.size + 1, 1, none⟩) z2).trans q4
  have y4 : ∀ o, w5.frozen? ⟨w.heap.size + 1, o, none⟩ = false := fun o => (hb6.frozen (p := ⟨w.heap.size + 1, o, none⟩) z2).trans (q2 o)
  have hs5 := hs4.below hb5 (Nat.le_refl _)
  clear q0 q1 q2 q3 q4 n0 n1 hs4 hb5
  by_cases hk : chk (bump l n) (c + n) = 0
  · have hn' : Hid (nxt l c n = (bump l n, c + n, 0)) := by show _ = _; rw [hn.out, if_neg (by omega)]
    rw [hk]
    clear hk
    go_wp2_with fail
    refine bodyPost_ret (v := .tuple #[.agg #[.slice (some ⟨g, 0, none⟩) l.length cap2, .int .i64 (c + n)], .int .i64 0]) (by simp [results, Tryz.results160, go_sem, y2, y3]) rfl ?_
    refine ⟨some ⟨g, 0, none⟩, cap2, by rw [hn'.out]; show _ = Ending.returned (.tuple #[.agg #[.slice _ (bump l n).length _, _], _]); rw [HLB.out], ?_, ?_⟩
    · rw [hn'.out]
      exact (hs5.setOld gnz).setOld gnz
    · exact ((hb1.thru hb6 hb1.size).setCell (by simp) _).setCell (by simp) _
  · have hn' : Hid (nxt l c n = ([], 0, 3)) := by show _ = _; rw [hn.out, if_pos hk]
    have hk' : (chk (bump l n) (c + n) != 0) = true := by rw [bne_iff_ne]; exact hk
    clear hk
    go_wp2_with fail
    refine bodyPost_ret (v := .tuple #[.agg #[.slice none 0 0, .int .i64 0], .int .i64 3]) (by simp [results, Tryz.results160, go_sem, y2, y3]) rfl ?_
    refine ⟨none, 0, by rw [hn'.out]; rfl, Or.inl (by rw [hn'.out]), ?_⟩
    exact ((hb1.thru hb6 hb1.size).setCell (by simp) _).setCell (by simp) _

theorem nextOf_any (a : Option Addr) (cap : Nat) (l : List (Int × Int)) (c n : Int) (w : World) (hl : l.length ≤ maxLen) (h : StepsAt w a l) :
    Calls Tryz.prog 160 #[.agg #[.slice a l.length cap, .int .i64 c], .int .i64 n] w (NextGives w l c n) := by
  by_cases hok : chk l c = 0
  · by_cases hr : n < 0 ∨ 60 < n
    · exact nextOf_range a cap l c n w hl h hok hr
    · rcases id h with hs | ⟨b, off, rfl, _⟩
      · have := (chk_ok hok).1
        simp [hs] at this
      · exact nextOf_in b off cap l c n w h hok (by omega) (by omega)
  · exact nextOf_bad a cap l c n w hl h hok
end Go.Proofs.YtnhjebdlcbhkcaeGreat
