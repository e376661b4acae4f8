/- Blocks whose cells are known. -/
import Derived.Test.YtnhjebdlcbhkcadOwnsF
namespace Go.Proofs.Ytnhjebdlcbhkcad
open Go.RowKit

/-- a block holds just these cells -/
def Blk (w : World) (R : Nat) (cs : Array Value) (t : TypeId) : Prop := w.heap[R]? = some (.cells cs t (0, 0))

section
variable {w w' : World} {R : Nat} {cs : Array Value} {t : TypeId}
theorem Blk.cell (h : Blk w R cs t) (i : Nat) : w.cell? ⟨R, i, none⟩ = cs[i]? := by
  unfold Blk at h; simp [World.cell?, h]
theorem Blk.is (h : Blk w R cs t) (i : Nat) {v : Value} (hv : cs[i]? = some v) : w.cell? ⟨R, i, none⟩ = some v := (h.cell i).trans hv
theorem Blk.frozen (h : Blk w R cs t) (i : Nat) : w.frozen? ⟨R, i, none⟩ = false := by
  unfold Blk at h; simp [World.frozen?, h]
theorem Blk.lt (h : Blk w R cs t) : R < w.heap.size := (Array.getElem?_eq_some_iff.1 h).1
theorem Blk.new (w : World) (cs : Array Value) (t : TypeId) : Blk (w.alloc (.cells cs t)) w.heap.size cs t := by
  unfold Blk World.alloc; simp
theorem Blk.alloc (h : Blk w R cs t) (o : Obj) : Blk (w.alloc o) R cs t := by
  have := h.lt
  unfold Blk World.alloc at *
  simp only
  rw [Array.getElem?_push_lt this]
  rw [Array.getElem?_eq_getElem this] at h
  exact h
theorem Blk.drew (h : Blk w R cs t) : Blk w.drew R cs t := h
theorem Blk.setOther (h : Blk w R cs t) {a : Addr} (ha : a.block ≠ R) (v : Value) : Blk (w.setCell a v) R cs t := by
  unfold Blk
  rw [Below.heap_setCell _ _ _ _ (fun e => ha e.symm)]; exact h
theorem Blk.set (h : Blk w R cs t) (i : Nat) (v : Value) : Blk (w.setCell ⟨R, i, none⟩ v) R (cs.setIfInBounds i v) t := by
  have hl := h.lt
  unfold Blk World.setCell at *
  simp only
  rw [Array.getElem?_modify]
  simp [h]
theorem Blk.grown (h : Blk w R cs t) {row : Option Nat} (hg : w.grownBy w' row) (hne : some R ≠ row) : Blk w' R cs t := (hg.block R h.lt hne).trans h
theorem Blk.below (h : Blk w R cs t) {B : Nat} (hb : Below B w w') (hB : R < B) : Blk w' R cs t := (hb.block R hB).trans h
end
theorem grownBy_trans' {a w w' : World} {row : Option Nat} (h : a.grownBy w row) (k : w.grownBy w' row) : a.grownBy w' row :=
  ⟨k.os.trans h.os, k.tape.trans h.tape, k.output.trans h.output, Nat.le_trans h.size k.size, fun i h1 h2 => (k.block i (Nat.lt_of_lt_of_le h1 h.size) h2).trans (h.block i h1 h2)⟩
theorem grownBy_of_below {w w' : World} {row : Option Nat} (h : Below w.heap.size w w') : w.grownBy w' row := ⟨h.os, h.tape, h.output, h.size, fun k hk _ => h.block k hk⟩
theorem below_of_grown {B R : Nat} {w w' : World} (h : w.grownBy w' (some R)) (hB : B ≤ R) (hs : B ≤ w.heap.size) : Below B w w' :=
  ⟨h.os, h.tape, h.output, h.size, fun k hk => h.block k (Nat.lt_of_lt_of_le hk hs) (fun e => by cases e; omega)⟩
theorem grownBy_set' (w : World) (R i : Nat) (v : Value) : w.grownBy (w.setCell ⟨R, i, none⟩ v) (some R) :=
  ⟨rfl, rfl, rfl, by simp [World.setCell], fun k _ hne => Below.heap_setCell _ _ _ k (fun e => hne (by rw [e]))⟩
/-- what is the call's own, and new, may grow -/
theorem grownBy_own {a w w' : World} {row r : Option Nat} (h : a.grownBy w row) (k : w.grownBy w' r) (hr : ∀ g, r = some g → a.heap.size ≤ g ∨ some g = row) : a.grownBy w' row :=
  ⟨k.os.trans h.os, k.tape.trans h.tape, k.output.trans h.output, Nat.le_trans h.size k.size, fun i h1 h2 => (k.block i (Nat.lt_of_lt_of_le h1 h.size) (fun e => by
    rcases hr i e.symm with h3 | h3
    · omega
    · exact h2 h3)).trans (h.block i h1 h2)⟩
theorem owns_sl {w : World} {base : Nat} {e : TypeId} {size : Nat} {v : Value} {n : Nat} {xs : List Value} (h : w.ownsRow base e size v n xs) : ∃ p cap, v = .slice p n cap := by
  rcases h.2 with ⟨rfl, rfl⟩ | ⟨g, cap, cur, rfl, _⟩
  · exact ⟨none, 0, rfl⟩
  · exact ⟨_, _, rfl⟩
end Go.Proofs.Ytnhjebdlcbhkcad
