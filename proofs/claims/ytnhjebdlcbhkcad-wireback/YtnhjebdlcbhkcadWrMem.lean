/- The memory of wire's writer. -/
import Derived.Test.YtnhjebdlcbhkcadBlk
import Derived.Test.YtnhjebdlcbhkcadWirePu
namespace Go.Proofs.Ytnhjebdlcbhkcad
open Go.RowKit

/-- the writer at R holds these bytes; its row is its own, behind base -/
structure WrSt (w : World) (R base : Nat) (v : Value) (l : List Int) : Prop where
  box : Blk w R #[v] 88
  own : w.ownsRow base 5 1 v l.length (l.map (Value.int .u8))
  lt : R < base
  le : base ≤ w.heap.size

/-- all stays but the writer and rows of bytes behind base -/
structure KeptW (R base : Nat) (w w' : World) : Prop where
  os : w'.os = w.os
  tape : w'.tape = w.tape
  output : w'.output = w.output
  size : w.heap.size ≤ w'.heap.size
  block : ∀ k, k < w.heap.size → k ≠ R → (k < base ∨ ∀ cs z, w.heap[k]? ≠ some (.cells cs 5 z)) → w'.heap[k]? = w.heap[k]?

section
variable {w w' w1 : World} {R base : Nat} {v v' : Value} {l : List Int}
theorem KeptW.refl (R base : Nat) (w : World) : KeptW R base w w := ⟨rfl, rfl, rfl, Nat.le_refl _, fun _ _ _ _ => rfl⟩
theorem KeptW.trans (h : KeptW R base w w1) (k : KeptW R base w1 w') : KeptW R base w w' :=
  ⟨k.os.trans h.os, k.tape.trans h.tape, k.output.trans h.output, Nat.le_trans h.size k.size, fun i h1 h2 h3 => by
    have e := h.block i h1 h2 h3
    refine (k.block i (Nat.lt_of_lt_of_le h1 h.size) h2 (h3.imp id fun h3 cs z => ?_)).trans e
    rw [e]; exact h3 cs z⟩
theorem KeptW.below (h : KeptW R base w w') (hR : R < base) (hs : R ≤ w.heap.size) : Below R w w' :=
  ⟨h.os, h.tape, h.output, h.size, fun k hk => h.block k (by omega) (by omega) (Or.inl (by omega))⟩
theorem KeptW.blk {Z : Nat} {cs : Array Value} {t : TypeId} (h : KeptW R base w w') (hb : Blk w Z cs t) (hZ : Z ≠ R) (ht : t ≠ 5) : Blk w' Z cs t := by
  refine (h.block Z hb.lt hZ (Or.inr fun cs' z e => ?_)).trans hb
  unfold Blk at hb
  rw [hb] at e
  simp only [Option.some.injEq, Obj.cells.injEq] at e
  exact ht e.2.1
theorem KeptW.of_below (h : Below w.heap.size w w') : KeptW R base w w' := ⟨h.os, h.tape, h.output, h.size, fun k hk _ _ => h.block k hk⟩
theorem KeptW.alloc (h : KeptW R base w w') (o : Obj) : KeptW R base w (w'.alloc o) := h.trans (KeptW.of_below ((Below.refl _ _).alloc (Nat.le_refl _) _))
theorem KeptW.drew (h : KeptW R base w w') : KeptW R base w w'.drew := ⟨h.os, h.tape, h.output, h.size, h.block⟩

theorem WrSt.below (h : WrSt w R base v l) (hb : Below w.heap.size w w') : WrSt w' R base v l :=
  ⟨h.box.below hb h.box.lt, owns_below h.own hb, h.lt, Nat.le_trans h.le hb.size⟩
theorem WrSt.alloc (h : WrSt w R base v l) (o : Obj) : WrSt (w.alloc o) R base v l := h.below ((Below.refl _ _).alloc (Nat.le_refl _) _)
theorem WrSt.form (h : WrSt w R base v l) : ∃ p c, v = .slice p l.length c := by
  rcases h.own.2 with ⟨rfl, h0⟩ | ⟨g, cap, cur, rfl, _⟩
  · exact ⟨none, 0, by rw [h0]⟩
  · exact ⟨_, _, rfl⟩
theorem WrSt.push {x : Int} (h : WrSt w R base v l) (ho : w1.ownsRow base 5 1 v' (l.length + 1) (l.map (Value.int .u8) ++ [.int .u8 x])) (hg : w.grownBy w1 v.ownBlock) :
    WrSt (w1.setCell ⟨R, 0, none⟩ v') R base v' (l ++ [x]) ∧ KeptW R base w (w1.setCell ⟨R, 0, none⟩ v') ∧ Blk w1 R #[v] 88 := by
  have hRv : some R ≠ v.ownBlock := fun e => by
    rcases h.own.2 with ⟨rfl, _⟩ | ⟨g, cap, cur, rfl, hb, _⟩
    · cases e
    · have : R = g := by simpa [Value.ownBlock] using e
      have := h.lt; omega
  have hRv' : v'.ownBlock ≠ some R := fun e => by
    rcases ho.2 with ⟨rfl, _⟩ | ⟨g, cap, cur, rfl, hb, _⟩
    · cases e
    · have : g = R := by simpa [Value.ownBlock] using e
      have := h.lt; omega
  have hB := h.box.grown hg hRv
  have hS := hB.set 0 v'
  refine ⟨⟨hS, ?_, h.lt, ?_⟩, ⟨hg.os, hg.tape, hg.output, ?_, ?_⟩, hB⟩
  · have := ownsRow_setCell_other ho (a := ⟨R, 0, none⟩) hRv' v'
    rw [List.map_append, List.length_append]
    exact this
  · have := hg.size; have := h.le; simp [World.setCell]; omega
  · have := hg.size; simpa [World.setCell] using this
  · intro k hk hkR hc
    rw [Below.heap_setCell _ _ _ k (fun e => hkR e)]
    refine hg.block k hk fun e => ?_
    rcases h.own.2 with ⟨rfl, _⟩ | ⟨g, cap, cur, rfl, hb, hh, _⟩
    · cases e
    · have : k = g := by simpa [Value.ownBlock] using e
      subst this
      rcases hc with hc | hc
      · omega
      · exact hc _ _ hh
end
end Go.Proofs.Ytnhjebdlcbhkcad
