/- Pure and frames: the walk through two texts, step by step. -/
import Derived.Test.YtnhjebdlcbhkcadDStepC
import Derived.Test.YtnhjebdlcbhkcadDTab
namespace Go.Proofs.Ytnhjebdlcbhkcad
open Go.RowKit

/-- the walk from these places on -/
def walkA (a b : ByteArray) (i j : Nat) : List Nat × List Nat := walkT (a.data.toList.drop i) (b.data.toList.drop j) i j

theorem drop_end (a : ByteArray) (i : Nat) (h : a.size ≤ i) : a.data.toList.drop i = [] := List.drop_eq_nil_of_le (by simpa using h)

theorem walkA_same {a b : ByteArray} {i j : Nat} (hi : i < a.size) (hj : j < b.size) (h : a[i] = b[j]) : walkA a b i j = walkA a b (i + 1) (j + 1) := by
  unfold walkA
  rw [drop_at a i hi, drop_at b j hj]
  conv => lhs; unfold walkT
  rw [if_pos h]
theorem walkA_take {a b : ByteArray} {i j : Nat} (hi : i < a.size) (hj : j < b.size) (h : a[i] ≠ b[j]) (hc : comm a b i (j + 1) ≤ comm a b (i + 1) j) : walkA a b i j = (i :: (walkA a b (i + 1) j).1, (walkA a b (i + 1) j).2) := by
  have ha := drop_at a i hi
  have hb := drop_at b j hj
  unfold comm at hc
  unfold walkA
  rw [ha, hb] at hc ⊢
  conv => lhs; unfold walkT
  rw [if_neg h, if_pos hc]
theorem walkA_put {a b : ByteArray} {i j : Nat} (hi : i < a.size) (hj : j < b.size) (h : a[i] ≠ b[j]) (hc : ¬ comm a b i (j + 1) ≤ comm a b (i + 1) j) : walkA a b i j = ((walkA a b i (j + 1)).1, j :: (walkA a b i (j + 1)).2) := by
  have ha := drop_at a i hi
  have hb := drop_at b j hj
  unfold comm at hc
  unfold walkA
  rw [ha, hb] at hc ⊢
  conv => lhs; unfold walkT
  rw [if_neg h, if_neg hc]
theorem walkA_takeE {a b : ByteArray} {i j : Nat} (hi : i < a.size) (hj : b.size ≤ j) : walkA a b i j = (i :: (walkA a b (i + 1) j).1, (walkA a b (i + 1) j).2) := by
  unfold walkA
  rw [drop_at a i hi, drop_end b j hj]
  conv => lhs; unfold walkT
theorem walkA_putE {a b : ByteArray} {i j : Nat} (hi : a.size ≤ i) (hj : j < b.size) : walkA a b i j = ((walkA a b i (j + 1)).1, j :: (walkA a b i (j + 1)).2) := by
  unfold walkA
  rw [drop_at b j hj, drop_end a i hi]
  conv => lhs; unfold walkT
theorem walkA_end {a b : ByteArray} {i j : Nat} (hi : a.size ≤ i) (hj : b.size ≤ j) : walkA a b i j = ([], []) := by
  unfold walkA
  rw [drop_end b j hj, drop_end a i hi]
  unfold walkT
  rfl

/-- one sign comes -/
def ptB (b : ByteArray) (R : List (Nat × List UInt8)) (p : Nat) : List (Nat × List UInt8) := ptR R p (b.data.toList.getD p 0)
theorem ptB_at {b : ByteArray} {R : List (Nat × List UInt8)} {p : Nat} (h : p < b.size) : ptR R p b[p] = ptB b R p := by
  unfold ptB
  congr 1
  have h' : p < b.data.toList.length := by simpa using h
  rw [List.getD_eq_getElem?_getD, List.getElem?_eq_getElem h']
  rfl

/-- the rows are small -/
structure WalkB (i j : Nat) (RT : List (Nat × Nat)) (RP : List (Nat × List UInt8)) : Prop where
  t : ∀ g ∈ RT, g.1 + g.2 ≤ i
  tl : RT.length ≤ i
  p : ∀ g ∈ RP, g.1 ≤ j ∧ g.2.length ≤ 60
  pl : RP.length ≤ j

theorem WalkB.zero : WalkB 0 0 [] [] := ⟨by simp, by simp, by simp, by simp⟩
theorem WalkB.both {i j : Nat} {RT : List (Nat × Nat)} {RP : List (Nat × List UInt8)} (h : WalkB i j RT RP) : WalkB (i + 1) (j + 1) RT RP :=
  ⟨fun g hg => Nat.le_succ_of_le (h.t g hg), Nat.le_succ_of_le h.tl, fun g hg => ⟨Nat.le_succ_of_le (h.p g hg).1, (h.p g hg).2⟩, Nat.le_succ_of_le h.pl⟩
theorem WalkB.take {i j : Nat} {RT : List (Nat × Nat)} {RP : List (Nat × List UInt8)} (h : WalkB i j RT RP) : WalkB (i + 1) j (tkR RT i) RP := by
  refine ⟨?_, ?_, h.p, h.pl⟩
  · have ht := h.t
    rcases RT with _ | ⟨⟨q, n⟩, R⟩
    · simp [tkR]
    · rw [tkR_cons]
      split
      · rename_i e
        intro g hg
        rcases List.mem_cons.1 hg with rfl | hg
        · show q + (n + 1) ≤ i + 1; omega
        · exact Nat.le_succ_of_le (ht g (List.mem_cons_of_mem _ hg))
      · intro g hg
        rcases List.mem_cons.1 hg with rfl | hg
        · exact Nat.le_refl _
        · exact Nat.le_succ_of_le (ht g hg)
  · have hl := h.tl
    rcases RT with _ | ⟨⟨q, n⟩, R⟩
    · simp [tkR]
    · rw [tkR_cons]
      simp only [List.length_cons] at hl
      split <;> simp only [List.length_cons] <;> omega
theorem WalkB.put {i j : Nat} {RT : List (Nat × Nat)} {RP : List (Nat × List UInt8)} (h : WalkB i j RT RP) (b : ByteArray) : WalkB i (j + 1) RT (ptB b RP j) := by
  unfold ptB
  generalize b.data.toList.getD j 0 = cc
  refine ⟨h.t, h.tl, ?_, ?_⟩
  · have ht := h.p
    rcases RP with _ | ⟨⟨q, t⟩, R⟩
    · simp [ptR]
    · rw [ptR_cons]
      split
      · rename_i e
        intro g hg
        rcases List.mem_cons.1 hg with rfl | hg
        · refine ⟨?_, ?_⟩
          · show q ≤ j + 1; omega
          · show (t ++ [cc]).length ≤ 60; rw [List.length_append]; simp only [List.length_cons, List.length_nil]; omega
        · have := ht g (List.mem_cons_of_mem _ hg)
          exact ⟨by omega, this.2⟩
      · intro g hg
        rcases List.mem_cons.1 hg with rfl | hg
        · exact ⟨Nat.le_succ _, by simp⟩
        · have := ht g hg
          exact ⟨by omega, this.2⟩
  · have hl := h.pl
    rcases RP with _ | ⟨⟨q, t⟩, R⟩
    · simp [ptR]
    · rw [ptR_cons]
      simp only [List.length_cons] at hl
      split <;> simp only [List.length_cons] <;> omega

/-- how far the walk is -/
structure WalkI (w1 wr : World) (T1 T2 : Nat) (a b : ByteArray) (FT : List (Nat × Nat)) (FP : List (Nat × List UInt8)) (i j : Nat) (v u : Value) (RT : List (Nat × Nat)) (RP : List (Nat × List UInt8)) : Prop where
  st : DiffSt wr T1 T2 w1.heap.size v u RT RP
  small : WalkB i j RT RP
  ft : (walkA a b i j).1.foldl tkR RT = FT
  fp : (walkA a b i j).2.foldl (ptB b) RP = FP
  kept : KeptD T1 T2 w1.heap.size w1 wr

section
variable {w1 wr : World} {T1 T2 : Nat} {a b : ByteArray} {FT : List (Nat × Nat)} {FP : List (Nat × List UInt8)} {i j : Nat} {v u : Value} {RT : List (Nat × Nat)} {RP : List (Nat × List UInt8)}
theorem WalkI.drew (h : WalkI w1 wr T1 T2 a b FT FP i j v u RT RP) : WalkI w1 wr.drew T1 T2 a b FT FP i j v u RT RP :=
  ⟨h.st.drew, h.small, h.ft, h.fp, ⟨h.kept.os, h.kept.tape, h.kept.output, h.kept.size, h.kept.block⟩⟩
theorem WalkI.same (h : WalkI w1 wr T1 T2 a b FT FP i j v u RT RP) (hi : i < a.size) (hj : j < b.size) (e : a[i] = b[j]) : WalkI w1 wr T1 T2 a b FT FP (i + 1) (j + 1) v u RT RP :=
  ⟨h.st, h.small.both, by rw [← walkA_same hi hj e]; exact h.ft, by rw [← walkA_same hi hj e]; exact h.fp, h.kept⟩
theorem WalkI.take (h : WalkI w1 wr T1 T2 a b FT FP i j v u RT RP) (e : walkA a b i j = (i :: (walkA a b (i + 1) j).1, (walkA a b (i + 1) j).2)) {w2 : World} {v' : Value} (hs : DiffSt w2 T1 T2 w1.heap.size v' u (tkR RT i) RP) (hk : KeptD T1 T2 w1.heap.size wr w2) : WalkI w1 w2 T1 T2 a b FT FP (i + 1) j v' u (tkR RT i) RP :=
  ⟨hs, h.small.take, by have := h.ft; rw [e] at this; exact this, by have := h.fp; rw [e] at this; exact this, h.kept.trans hk⟩
theorem WalkI.put (h : WalkI w1 wr T1 T2 a b FT FP i j v u RT RP) (e : walkA a b i j = ((walkA a b i (j + 1)).1, j :: (walkA a b i (j + 1)).2)) {w2 : World} {u' : Value} (hs : DiffSt w2 T1 T2 w1.heap.size v u' RT (ptB b RP j)) (hk : KeptD T1 T2 w1.heap.size wr w2) : WalkI w1 w2 T1 T2 a b FT FP i (j + 1) v u' RT (ptB b RP j) :=
  ⟨hs, h.small.put b, by have := h.ft; rw [e] at this; exact this, by have := h.fp; rw [e] at this; exact this, h.kept.trans hk⟩
theorem WalkI.done (h : WalkI w1 wr T1 T2 a b FT FP i j v u RT RP) (hi : a.size ≤ i) (hj : b.size ≤ j) : RT = FT ∧ RP = FP := by
  have h1 := h.ft
  have h2 := h.fp
  rw [walkA_end hi hj] at h1 h2
  exact ⟨h1, h2⟩
end

theorem DiffSt.below {w w' : World} {T1 T2 base : Nat} {v u : Value} {RT : List (Nat × Nat)} {RP : List (Nat × List UInt8)} (h : DiffSt w T1 T2 base v u RT RP) (hb : Below w.heap.size w w') : DiffSt w' T1 T2 base v u RT RP :=
  have l1 := Nat.lt_of_lt_of_le h.b1 h.bw
  have l2 := Nat.lt_of_lt_of_le h.b2 h.bw
  ⟨(hb.cell (p := ⟨T1, 0, none⟩) l1).trans h.c1, (hb.cell (p := ⟨T2, 0, none⟩) l2).trans h.c2, (hb.frozen (p := ⟨T1, 0, none⟩) l1).trans h.f1, (hb.frozen (p := ⟨T2, 0, none⟩) l2).trans h.f2, owns_below h.o1 hb, owns_below h.o2 hb, h.ne, h.b1, h.b2, h.b12, Nat.le_trans h.bw hb.size⟩
theorem KeptD.below {T1 T2 base : Nat} {w w' w2 : World} (h : KeptD T1 T2 base w w') (hw : base ≤ w'.heap.size) (hb : Below w'.heap.size w' w2) : KeptD T1 T2 base w w2 :=
  h.trans ⟨hb.os, hb.tape, hb.output, hb.size, fun k hk _ _ => hb.block k (Nat.lt_of_lt_of_le hk hw)⟩
theorem KeptD.weak {T1 T2 base base' : Nat} {w w' : World} (h : KeptD T1 T2 base w w') (hb : base' ≤ base) : KeptD T1 T2 base' w w' :=
  ⟨h.os, h.tape, h.output, h.size, fun k hk h1 h2 => h.block k (Nat.lt_of_lt_of_le hk hb) h1 h2⟩
theorem KeptD.cell {T1 T2 base : Nat} {w w' : World} {x : Value} (h : KeptD T1 T2 base w w') {p : Addr} (hp : p.block < base) (h1 : p.block ≠ T1) (h2 : p.block ≠ T2) (hc : w.cell? p = some x) : w'.cell? p = some x :=
  (World.cell?_of_block (w := w) (h.block p.block hp h1 h2)).trans hc
theorem KeptD.row {T1 T2 base : Nat} {w w' : World} {k : Nat} {t : TypeId} {n : Nat} {f : Nat → Value} (h : KeptD T1 T2 base w w') (hr : w.rowIs k t n f) (hk : k < base) (h1 : k ≠ T1) (h2 : k ≠ T2) : w'.rowIs k t n f :=
  hr.of_block (h.block k hk h1 h2)
theorem WalkI.below {w1 wr : World} {T1 T2 : Nat} {a b : ByteArray} {FT : List (Nat × Nat)} {FP : List (Nat × List UInt8)} {i j : Nat} {v u : Value} {RT : List (Nat × Nat)} {RP : List (Nat × List UInt8)} (h : WalkI w1 wr T1 T2 a b FT FP i j v u RT RP) {w' : World} (hb : Below wr.heap.size wr w') : WalkI w1 w' T1 T2 a b FT FP i j v u RT RP :=
  ⟨h.st.below hb, h.small, h.ft, h.fp, h.kept.below h.st.bw hb⟩
end Go.Proofs.Ytnhjebdlcbhkcad
