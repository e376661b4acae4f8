/- Contracts of Diff's literals: a sign that goes, a sign that comes. -/
import Derived.Test.YtnhjebdlcbhkcadDSign
import Derived.Test.YtnhjebdlcbhkcadOwnsF
namespace Go.Proofs.Ytnhjebdlcbhkcad
open Go.RowKit

/-- all below base is kept, but for two boxes -/
structure KeptD (T1 T2 base : Nat) (w w' : World) : Prop where
  os : w'.os = w.os
  tape : w'.tape = w.tape
  output : w'.output = w.output
  size : w.heap.size ≤ w'.heap.size
  block : ∀ k, k < base → k ≠ T1 → k ≠ T2 → w'.heap[k]? = w.heap[k]?

theorem KeptD.refl (T1 T2 base : Nat) (w : World) : KeptD T1 T2 base w w := ⟨rfl, rfl, rfl, Nat.le_refl _, fun _ _ _ _ => rfl⟩
theorem KeptD.trans {T1 T2 base : Nat} {a b c : World} (h : KeptD T1 T2 base a b) (k : KeptD T1 T2 base b c) : KeptD T1 T2 base a c :=
  ⟨k.os.trans h.os, k.tape.trans h.tape, k.output.trans h.output, Nat.le_trans h.size k.size, fun i h1 h2 h3 => (k.block i h1 h2 h3).trans (h.block i h1 h2 h3)⟩
theorem KeptD.of_below {T1 T2 base : Nat} {a b : World} (h : Below base a b) : KeptD T1 T2 base a b := ⟨h.os, h.tape, h.output, h.size, fun k hk _ _ => h.block k hk⟩

/-- the boxes of Diff: what goes, what comes -/
structure DiffSt (w : World) (T1 T2 base : Nat) (v u : Value) (RT : List (Nat × Nat)) (RP : List (Nat × List UInt8)) : Prop where
  c1 : w.cell? ⟨T1, 0, none⟩ = some v
  c2 : w.cell? ⟨T2, 0, none⟩ = some u
  f1 : w.frozen? ⟨T1, 0, none⟩ = false
  f2 : w.frozen? ⟨T2, 0, none⟩ = false
  o1 : OwnsE w base v (RT.map tkEd).reverse
  o2 : OwnsE w base u (RP.map ptEd).reverse
  ne : ∀ g, v.ownBlock = some g → u.ownBlock ≠ some g
  b1 : T1 < base
  b2 : T2 < base
  b12 : T1 ≠ T2
  bw : base ≤ w.heap.size

theorem owns_ge {w : World} {base : Nat} {e : TypeId} {size : Nat} {v : Value} {n : Nat} {xs : List Value} (h : w.ownsRow base e size v n xs) {g : Nat} (hg : v.ownBlock = some g) : base ≤ g ∧ g < w.heap.size := by
  rcases h.2 with ⟨rfl, _⟩ | ⟨g', cap, cur, rfl, hb, hh, _⟩
  · cases hg
  · have : g' = g := by simpa [Value.ownBlock] using hg
    subst this
    exact ⟨hb, (Array.getElem?_eq_some_iff.1 hh).1⟩

theorem OwnsE.kept {w w' : World} {base : Nat} {r : Option Nat} {u : Value} {l : List Ed} (h : OwnsE w base u l) (hg : w.grownBy w' r) (hne : ∀ g, r = some g → u.ownBlock ≠ some g) : OwnsE w' base u l := by
  refine World.ownsRow.kept h hg ?_
  cases e : u.ownBlock with
  | none => exact Or.inl rfl
  | some k => exact Or.inr fun e2 => hne k e2.symm e

theorem DiffSt.take {w w1 : World} {T1 T2 base : Nat} {v u v' : Value} {RT RT' : List (Nat × Nat)} {RP : List (Nat × List UInt8)} (h : DiffSt w T1 T2 base v u RT RP) (ho : OwnsE w1 base v' (RT'.map tkEd).reverse) (hg : w.grownBy w1 v.ownBlock) (hl : v'.ownBlock = v.ownBlock ∨ ∃ g, v'.ownBlock = some g ∧ w.heap.size ≤ g) :
    DiffSt (w1.setCell ⟨T1, 0, none⟩ v') T1 T2 base v' u RT' RP ∧ KeptD T1 T2 base w (w1.setCell ⟨T1, 0, none⟩ v') ∧ w1.cell? ⟨T1, 0, none⟩ = some v ∧ w1.frozen? ⟨T1, 0, none⟩ = false := by
  have hv1 : some T1 ≠ v.ownBlock := fun e => by have := (owns_ge h.o1 e.symm).1; have := h.b1; omega
  have hv2 : some T2 ≠ v.ownBlock := fun e => by have := (owns_ge h.o1 e.symm).1; have := h.b2; omega
  have l1 : T1 < w.heap.size := Nat.lt_of_lt_of_le h.b1 h.bw
  have l2 : T2 < w.heap.size := Nat.lt_of_lt_of_le h.b2 h.bw
  have c1 : w1.cell? ⟨T1, 0, none⟩ = some v := (hg.cell_far ⟨T1, 0, none⟩ l1 hv1).trans h.c1
  have c2 : w1.cell? ⟨T2, 0, none⟩ = some u := (hg.cell_far ⟨T2, 0, none⟩ l2 hv2).trans h.c2
  have f1 : w1.frozen? ⟨T1, 0, none⟩ = false := (hg.frozen_far ⟨T1, 0, none⟩ l1 hv1).trans h.f1
  have f2 : w1.frozen? ⟨T2, 0, none⟩ = false := (hg.frozen_far ⟨T2, 0, none⟩ l2 hv2).trans h.f2
  have hu := h.o2.kept hg (fun g e => h.ne g e)
  refine ⟨⟨World.cell?_setCell_same _ _ _ c1, (World.cell?_setCell_other _ _ _ _ (by have := h.b12; simp <;> omega)).trans c2, by rw [World.frozen?_setCell]; exact f1, by rw [World.frozen?_setCell]; exact f2, ?_, ?_, ?_, h.b1, h.b2, h.b12, ?_⟩, ⟨hg.os, hg.tape, hg.output, ?_, ?_⟩, c1, f1⟩
  · exact ownsRow_setCell_other ho (fun e => Nat.lt_irrefl _ (Nat.lt_of_lt_of_le h.b1 (owns_ge ho e).1)) _
  · exact ownsRow_setCell_other hu (fun e => Nat.lt_irrefl _ (Nat.lt_of_lt_of_le h.b1 (owns_ge hu e).1)) _
  · intro g e e2
    rcases hl with e3 | ⟨g2, e3, hge⟩
    · exact h.ne g (e3 ▸ e) e2
    · have : g2 = g := by rw [e3] at e; simpa using e
      subst this
      have := (owns_ge h.o2 e2).2
      omega
  · have := hg.size; have := h.bw; simp [World.setCell]; omega
  · have := hg.size; simpa [World.setCell] using this
  · intro k hk h1 h2
    rw [Below.heap_setCell _ _ _ k (fun e => h1 e)]
    exact hg.block k (by have := h.bw; omega) (fun e => by have := (owns_ge h.o1 e.symm).1; omega)

theorem DiffSt.put {w w1 : World} {T1 T2 base : Nat} {v u u' : Value} {RT : List (Nat × Nat)} {RP RP' : List (Nat × List UInt8)} (h : DiffSt w T1 T2 base v u RT RP) (ho : OwnsE w1 base u' (RP'.map ptEd).reverse) (hg : w.grownBy w1 u.ownBlock) (hl : u'.ownBlock = u.ownBlock ∨ ∃ g, u'.ownBlock = some g ∧ w.heap.size ≤ g) :
    DiffSt (w1.setCell ⟨T2, 0, none⟩ u') T1 T2 base v u' RT RP' ∧ KeptD T1 T2 base w (w1.setCell ⟨T2, 0, none⟩ u') ∧ w1.cell? ⟨T2, 0, none⟩ = some u ∧ w1.frozen? ⟨T2, 0, none⟩ = false := by
  have hv1 : some T1 ≠ u.ownBlock := fun e => by have := (owns_ge h.o2 e.symm).1; have := h.b1; omega
  have hv2 : some T2 ≠ u.ownBlock := fun e => by have := (owns_ge h.o2 e.symm).1; have := h.b2; omega
  have l1 : T1 < w.heap.size := Nat.lt_of_lt_of_le h.b1 h.bw
  have l2 : T2 < w.heap.size := Nat.lt_of_lt_of_le h.b2 h.bw
  have c1 : w1.cell? ⟨T1, 0, none⟩ = some v := (hg.cell_far ⟨T1, 0, none⟩ l1 hv1).trans h.c1
  have c2 : w1.cell? ⟨T2, 0, none⟩ = some u := (hg.cell_far ⟨T2, 0, none⟩ l2 hv2).trans h.c2
  have f1 : w1.frozen? ⟨T1, 0, none⟩ = false := (hg.frozen_far ⟨T1, 0, none⟩ l1 hv1).trans h.f1
  have f2 : w1.frozen? ⟨T2, 0, none⟩ = false := (hg.frozen_far ⟨T2, 0, none⟩ l2 hv2).trans h.f2
  have hu := h.o1.kept hg (fun g e e2 => h.ne g e2 e)
  refine ⟨⟨(World.cell?_setCell_other _ _ _ _ (by have := h.b12; simp <;> omega)).trans c1, World.cell?_setCell_same _ _ _ c2, by rw [World.frozen?_setCell]; exact f1, by rw [World.frozen?_setCell]; exact f2, ?_, ?_, ?_, h.b1, h.b2, h.b12, ?_⟩, ⟨hg.os, hg.tape, hg.output, ?_, ?_⟩, c2, f2⟩
  · exact ownsRow_setCell_other hu (fun e => Nat.lt_irrefl _ (Nat.lt_of_lt_of_le h.b2 (owns_ge hu e).1)) _
  · exact ownsRow_setCell_other ho (fun e => Nat.lt_irrefl _ (Nat.lt_of_lt_of_le h.b2 (owns_ge ho e).1)) _
  · intro g e e2
    rcases hl with e3 | ⟨g2, e3, hge⟩
    · exact h.ne g e (e3 ▸ e2)
    · have : g2 = g := by rw [e3] at e2; simpa using e2
      subst this
      have := (owns_ge h.o1 e).2
      omega
  · have := hg.size; have := h.bw; simp [World.setCell]; omega
  · have := hg.size; simpa [World.setCell] using this
  · intro k hk h1 h2
    rw [Below.heap_setCell _ _ _ k (fun e => h2 e)]
    exact hg.block k (by have := h.bw; omega) (fun e => by have := (owns_ge h.o2 e.symm).1; omega)

theorem DiffSt.drew {w : World} {T1 T2 base : Nat} {v u : Value} {RT : List (Nat × Nat)} {RP : List (Nat × List UInt8)} (h : DiffSt w T1 T2 base v u RT RP) : DiffSt w.drew T1 T2 base v u RT RP :=
  ⟨h.c1, h.c2, h.f1, h.f2, h.o1, h.o2, h.ne, h.b1, h.b2, h.b12, h.bw⟩

end Go.Proofs.Ytnhjebdlcbhkcad
