/- Blocks whose cells are known. -/
import Derived.Test.YtnhjebdlcbhkcafOwnsF
namespace Go.Proofs.Ytnhjebdlcbhkcaf
open Go.RowKit

/-- a block holds just these cells -/
def Blk (w : World) (R : Nat) (cs : Array Value) (t : TypeId) : Prop := w.heap[R]? = some (.cells cs t (0, 0))

section
variable {w w' : World} {R : Nat} {cs : Array Value} {t : TypeId}
theorem Blk.cell (h : Blk w R cs t) (i : Nat) : w.cell? ⟨R, i, none⟩ = cs[i]? := by
  unfold Blk at h; simp [World.cell?, h]
theorem Blk.is (h : Blk w R cs t) (i : Nat) {v : Value} (hv : cs[i]? = some v) : w.cell? ⟨R, i, none⟩ = some v := (h.cell i).trans hv
theorem Blk.frozen (h : Blk w R cs t) (i : Nat) : w.frozen? ⟨R, i, none⟩ = false := by
  unfold Blk at h; simp [World.frozen?, h]
theorem Blk.lt (h : Blk w R cs t) : R < w.heap.size := (Array.getElem?_eq_some_iff.1 h).1
theorem Blk.new (w : World) (cs : Array Value) (t : TypeId) : Blk (w.alloc (.cells cs t)) w.heap.size cs t := by
  unfold Blk World.alloc; simp
theorem Blk.alloc (h : Blk w R cs t) (o : Obj) : Blk (w.alloc o) R cs t := by
  have := h.lt
  unfold Blk World.alloc at *
  simp only
  rw [Array.getElem?_push_lt this]
  rw [Array.getElem?_eq_getElem this] at h
  exact h
theorem Blk.drew (h : Blk w R cs t) : Blk w.drew R cs t := h
theorem Blk.setOther (h : Blk w R cs t) {a : Addr} (ha : a.block ≠ R) (v : Value) : Blk (w.setCell a v) R cs t := by
  unfold Blk
  rw [Below.heap_setCell _ _ _ _ (fun e => ha e.symm)]; exact h
theorem Blk.set (h : Blk w R cs t) (i : Nat) (v : Value) : Blk (w.setCell ⟨R, i, none⟩ v) R (cs.setIfInBounds i v) t := by
  have hl := h.lt
  unfold Blk World.setCell at *
  simp only
  rw [Array.getElem?_modify]
  simp [h]
theorem Blk.grown (h : Blk w R cs t) {row : Option Nat} (hg : w.grownBy w' row) (hne : some R ≠ row) : Blk w' R cs t := (hg.block R h.lt hne).trans h
theorem Blk.below (h : Blk w R cs t) {B : Nat} (hb : Below B w w') (hB : R < B) : Blk w' R cs t := (hb.block R hB).trans h
end
theorem grownBy_trans' {a w w' : World} {row : Option Nat} (h : a.grownBy w row) (k : w.grownBy w' row) : a.grownBy w' row :=
  ⟨k.os.trans h.os, k.tape.trans h.tape, k.output.trans h.output, Nat.le_trans h.size k.size, fun i h1 h2 => (k.block i (Nat.lt_of_lt_of_le h1 h.size) h2).trans (h.block i h1 h2)⟩
theorem grownBy_of_below {w w' : World} {row : Option Nat} (h : Below w.heap.size w w') : w.grownBy w' row := ⟨h.os, h.tape, h.output, h.size, fun k hk _ => h.block k hk⟩
theorem below_of_grown {B R : Nat} {w w' : World} (h : w.grownBy w' (some R)) (hB : B ≤ R) (hs : B ≤ w.heap.size) : Below B w w' :=
  ⟨h.os, h.tape, h.output, h.size, fun k hk => h.block k (Nat.lt_of_lt_of_le hk hs) (fun e => by cases e; omega)⟩
theorem grownBy_set' (w : World) (R i : Nat) (v : Value) : w.grownBy (w.setCell ⟨R, i, none⟩ v) (some R) :=
  ⟨rfl, rfl, rfl, by simp [World.setCell], fun k _ hne => Below.heap_setCell _ _ _ k (fun e => hne (by rw [e]))⟩
/-- what is the call's own, and new, may grow -/
theorem grownBy_own {a w w' : World} {row r : Option Nat} (h : a.grownBy w row) (k : w.grownBy w' r) (hr : ∀ g, r = some g → a.heap.size ≤ g ∨ some g = row) : a.grownBy w' row :=
  ⟨k.os.trans h.os, k.tape.trans h.tape, k.output.trans h.output, Nat.le_trans h.size k.size, fun i h1 h2 => (k.block i (Nat.lt_of_lt_of_le h1 h.size) (fun e => by
    rcases hr i e.symm with h3 | h3
    · omega
    · exact h2 h3)).trans (h.block i h1 h2)⟩
theorem owns_sl {w : World} {base : Nat} {e : TypeId} {size : Nat} {v : Value} {n : Nat} {xs : List Value} (h : w.ownsRow base e size v n xs) : ∃ p cap, v = .slice p n cap := by
  rcases h.2 with ⟨rfl, rfl⟩ | ⟨g, cap, cur, rfl, _⟩
  · exact ⟨none, 0, rfl⟩
  · exact ⟨_, _, rfl⟩
end Go.Proofs.Ytnhjebdlcbhkcaf

namespace Go.Proofs.Ytnhjebdlcbhkcaf
open Go.RowKit

/-- a row of own cells; what each thing of it reaches besides is as E says -/
structure RowOwn {α : Type} (T : TypeId) (K : Nat) (cells : α → List Value) (E : World → Nat → α → Prop) (w : World) (base : Nat) (v : Value) (xs : List α) : Prop where
  own : w.ownsRow base T K v xs.length (xs.flatMap cells)
  each : ∀ x ∈ xs, E w base x

/-- what stays where other blocks change -/
structure Stays {α : Type} (T : TypeId) (R : Nat) (E : World → Nat → α → Prop) : Prop where
  far : ∀ w w' base x, E w base x → R < base → w.grownBy w' (some R) → E w' base x
  row : ∀ w w' base K v n ys x, E w base x → w.ownsRow base T K v n ys → w.grownBy w' v.ownBlock → E w' base x

theorem Stays.free {α : Type} (T : TypeId) (R : Nat) : Stays (α := α) T R (fun _ _ _ => True) := ⟨fun _ _ _ _ _ _ _ => trivial, fun _ _ _ _ _ _ _ _ _ _ _ => trivial⟩

section
variable {α : Type} {T : TypeId} {K R : Nat} {cells : α → List Value} {E : World → Nat → α → Prop} {w w' : World} {base : Nat} {v : Value} {xs : List α}
theorem RowOwn.nil : RowOwn T K cells E w base (.slice none 0 0) ([] : List α) := ⟨World.ownsRow_nil w base T K, fun x h => by simp at h⟩
theorem own_apart {w : World} {base : Nat} {e : TypeId} {size : Nat} {v : Value} {n : Nat} {ys : List Value} {R : Nat} (h : w.ownsRow base e size v n ys) (hR : R < base) : v.ownBlock ≠ some R := fun e => by have := (h.lt R e).1; omega
theorem RowOwn.far (h : RowOwn T K cells E w base v xs) (hE : Stays T R E) (hR : R < base) (hg : w.grownBy w' (some R)) : RowOwn T K cells E w' base v xs :=
  ⟨h.own.kept hg (Or.inr (own_apart h.own hR)), fun x hx => hE.far _ _ _ _ (h.each x hx) hR hg⟩
theorem RowOwn.snoc {x : α} {v' : Value} (h : RowOwn T K cells E w base v xs) (hE : Stays T R E) (hx : E w base x) (ho : w'.ownsRow base T K v' (xs.length + 1) (xs.flatMap cells ++ cells x)) (hg : w.grownBy w' v.ownBlock) : RowOwn T K cells E w' base v' (xs ++ [x]) := by
  refine ⟨?_, fun y hy => ?_⟩
  · rw [List.length_append, List.flatMap_append, List.flatMap_cons, List.flatMap_nil, List.append_nil]; exact ho
  · rcases List.mem_append.1 hy with hy | hy
    · exact hE.row _ _ _ _ _ _ _ _ (h.each y hy) h.own hg
    · rw [List.mem_singleton.1 hy]; exact hE.row _ _ _ _ _ _ _ _ hx h.own hg
end
theorem grownBy_none {w w' : World} (h : Below w.heap.size w w') {row : Option Nat} : w.grownBy w' row := grownBy_of_below h
theorem alloc_below (w : World) (o : Obj) : Below w.heap.size w (w.alloc o) := (Below.refl _ _).alloc (Nat.le_refl _) _
theorem Blk.thruB {w w' : World} {R : Nat} {cs : Array Value} {t : TypeId} (h : Blk w R cs t) (hb : Below w.heap.size w w') : Blk w' R cs t := h.below hb h.lt
/-- rows of different types lie apart -/
theorem types_apart {w : World} {b b' K K' n m : Nat} {T T' : TypeId} {v v' : Value} {xs ys : List Value} (h : w.ownsRow b T K v n xs) (h' : w.ownsRow b' T' K' v' m ys) (hT : T ≠ T') : v.ownBlock = none ∨ v.ownBlock ≠ v'.ownBlock := by
  rcases h.2 with ⟨rfl, _⟩ | ⟨g, c, cur, rfl, _, h2, _⟩
  · exact Or.inl rfl
  · refine Or.inr fun e => ?_
    rcases h'.2 with ⟨rfl, _⟩ | ⟨g2, c2, cur2, rfl, _, h3, _⟩
    · simp [Value.ownBlock] at e
    · simp only [Value.ownBlock, Option.some.injEq] at e
      subst e
      rw [h2] at h3
      simp only [Option.some.injEq, Obj.cells.injEq] at h3
      exact hT h3.2.1
end Go.Proofs.Ytnhjebdlcbhkcaf
