/- Contract of run.pieces and its iterator. -/
import Derived.Test.YtnhjebdlcbhkcadRfLaw
import Derived.Test.YtnhjebdlcbhkcadJoin
namespace Go.Proofs.Ytnhjebdlcbhkcad
open Go.RowKit Go.Shelf
attribute [local go_sem] Oper.semAt_some

/-- does the piece from f go on behind place k? -/
def goesB (l : List At) (f k : Nat) : Bool := decide (k + 1 < l.length) && (decide (k + 1 - f < 60) && (match l[k]?, l[k + 1]? with
  | some x, some y => flw x.path x.clock y.path y.clock
  | _, _ => false))
/-- behind k places: the pieces that are shut, and where the open one begins -/
def pst (l : List At) : Nat → List (Nat × Nat) × Nat
  | 0 => ([], 0)
  | k + 1 => if goesB l (pst l k).2 k = true then pst l k else ((pst l k).1 ++ [((pst l k).2, k + 1)], k + 1)

theorem pst_le (l : List At) : ∀ k, (pst l k).2 ≤ k
  | 0 => Nat.le_refl _
  | k + 1 => by
    have := pst_le l k
    unfold pst
    split
    · omega
    · exact Nat.le_refl _

/-- a piece of the list -/
abbrev Pc (l : List At) := { p : Nat × Nat // p.1 < p.2 ∧ p.2 ≤ l.length }
def encP (b off cap : Nat) {l : List At} (x : Pc l) : Array Value := #[.slice (some ⟨b, off + x.1.1 * 3, none⟩) (x.1.2 - x.1.1) (cap - x.1.1)]

/-- what a round keeps: all below n₀, and every cell but those of two types -/
def KpX (t1 t2 : TypeId) (n₀ : Nat) (W W' : World) : Prop := Below n₀ W W' ∧ ∀ (k : Nat) (cur : Array Value) (t : TypeId), t ≠ t1 → t ≠ t2 → W.heap[k]? = some (Obj.cells cur t (0, 0)) → W'.heap[k]? = some (Obj.cells cur t (0, 0))

theorem KpX.trans {t1 t2 : TypeId} {n₀ : Nat} {A B C : World} (h : KpX t1 t2 n₀ A B) (k : KpX t1 t2 n₀ B C) : KpX t1 t2 n₀ A C := ⟨h.1.trans k.1, fun i cur t h1 h2 h3 => k.2 i cur t h1 h2 (h.2 i cur t h1 h2 h3)⟩
theorem KpX.put {t1 t2 : TypeId} {n₀ B : Nat} (hn : n₀ ≤ B) (W : World) (l : Nat) (o o' : Obj) (hl : B ≤ l) (h : W.heap[l]? = some o) (hc : o.isCells = false) (_ : o.isWalk = false) : KpX t1 t2 n₀ W (W.putObj l o') := by
  refine ⟨⟨rfl, rfl, rfl, by simp [World.putObj], fun k hk => World.putObj_heap_other (by omega)⟩, fun k cur t _ _ hk => ?_⟩
  by_cases e : k = l
  · subst e; rw [h] at hk; cases hk; cases hc
  · rw [World.putObj_heap_other e]; exact hk
theorem KpX.below {t1 t2 : TypeId} {n₀ : Nat} {W W' : World} (hb : Below W.heap.size W W') (hn : n₀ ≤ W.heap.size) : KpX t1 t2 n₀ W W' := by
  refine ⟨hb.mono hn, fun k cur t _ _ hk => ?_⟩
  have hlt : k < W.heap.size := (Array.getElem?_eq_some_iff.1 hk).1
  rw [hb.block k hlt]; exact hk
theorem cell_ofX {W : World} {B j : Nat} {cs : Array Value} {t : TypeId} {v : Value} (h : W.heap[B]? = some (.cells cs t (0, 0))) (hj : cs[j]? = some v) : W.cell? ⟨B, j, none⟩ = some v := by
  simp [World.cell?, h, hj]
theorem below_grownX {W W' : World} (hb : Below W.heap.size W W') : W.grownBy W' none := ⟨hb.os, hb.tape, hb.output, hb.size, fun k hk _ => hb.block k hk⟩

/-- atoms that lie below n₀ lie as they lay -/
theorem AtomsAt.low {n₀ : Nat} {w w' : World} {a : Option Addr} {l : List At} (h : ∀ W, Below n₀ w W → AtomsAt W a l) (hb : Below n₀ w w') : AtomsAt w' a l := h w' hb

end Go.Proofs.Ytnhjebdlcbhkcad
