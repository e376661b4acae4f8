/- General words: hidden facts, rows of marks in memory, cells that are held. -/
import Derived.Test.YtnhjebdlcbhkcafRefC
import Derived.Lib.QuietBelow
namespace Go.Proofs.Ytnhjebdlcbhkcaf
open Go.RowKit

theorem hidE {p : Prop} (h : p) : Hid p := h

/-- the cells behind a slice's address hold these marks -/
def MarksAt (w : World) (a : Option Addr) (ms : List (List (Int × Int) × Int)) : Prop :=
  ms = [] ∨ ∃ b off, a = some ⟨b, off, none⟩ ∧ b < w.heap.size ∧ ∀ i (h : i < ms.length), ∃ p cap, w.cell? ⟨b, off + i * 2, none⟩ = some (.slice p ms[i].1.length cap) ∧ w.cell? ⟨b, off + i * 2 + 1, none⟩ = some (.int .i64 ms[i].2) ∧ StepsAt w p ms[i].1 ∧ ms[i].1.length ≤ maxLen

theorem MarksAt.below {w w' : World} {a : Option Addr} {l : List (List (Int × Int) × Int)} {B : Nat} (h : MarksAt w a l) (hb : Below B w w') (hB : w.heap.size ≤ B) : MarksAt w' a l := by
  rcases h with h | ⟨b, off, rfl, hlt, hc⟩
  · exact Or.inl h
  · refine Or.inr ⟨b, off, rfl, Nat.lt_of_lt_of_le hlt hb.size, fun i hi => ?_⟩
    obtain ⟨p, cap, h1, h2, h3, h4⟩ := hc i hi
    exact ⟨p, cap, (hb.cell (p := ⟨b, off + i * 2, none⟩) (by show b < B; omega)).trans h1, (hb.cell (p := ⟨b, off + i * 2 + 1, none⟩) (by show b < B; omega)).trans h2, h3.below hb hB, h4⟩

theorem cellSome_set {w : World} {a p : Addr} {u v : Value} (h : w.cell? p = some v) : ∃ v', (w.setCell a u).cell? p = some v' := by
  by_cases e : a = p
  · subst e; exact ⟨u, World.cell?_setCell_same _ _ _ h⟩
  · exact ⟨v, (World.cell?_setCell_other _ _ _ _ e).trans h⟩

theorem stepsAt_new (w : World) (l : List (Int × Int)) : StepsAt (w.alloc (.cells (flatS l).toArray 77)) (some ⟨w.heap.size, 0, none⟩) l := by
  refine Or.inr ⟨w.heap.size, 0, rfl, by simp, fun i hi => ?_⟩
  have := flatS_get l i hi
  rw [World.cell?_alloc_new, World.cell?_alloc_new, Nat.zero_add]
  simpa using this

/-- these cells hold these values -/
def Holds (w : World) (l : List (Nat × Nat × Value)) : Prop := ∀ x ∈ l, x.1 < w.heap.size ∧ w.cell? ⟨x.1, x.2.1, none⟩ = some x.2.2
theorem Holds.below {w w' : World} {l : List (Nat × Nat × Value)} {B : Nat} (h : Holds w l) (hb : Below B w w') (hB : w.heap.size ≤ B) : Holds w' l := fun x hx =>
  ⟨Nat.lt_of_lt_of_le (h x hx).1 hb.size, (hb.cell (p := ⟨x.1, x.2.1, none⟩) (Nat.lt_of_lt_of_le (h x hx).1 hB)).trans (h x hx).2⟩
theorem holds_cons {w : World} {b o : Nat} {v : Value} {l : List (Nat × Nat × Value)} : Holds w ((b, o, v) :: l) ↔ (b < w.heap.size ∧ w.cell? ⟨b, o, none⟩ = some v) ∧ Holds w l := by
  unfold Holds; simp
theorem holds_nil {w : World} : Holds w [] ↔ True := by unfold Holds; simp
theorem holds_at {w : World} {b o : Nat} {v : Value} (h : w.cell? ⟨b, o, none⟩ = some v) : b < w.heap.size ∧ w.cell? ⟨b, o, none⟩ = some v := ⟨block_lt_of_cell h, h⟩

end Go.Proofs.Ytnhjebdlcbhkcaf

namespace Go.Proofs.Ytnhjebdlcbhkcaf
open Go.RowKit

set_option maxHeartbeats 1000000 in
theorem at_any (d s c : Int) (w : World) :
    Calls Try.prog 43 #[.int .i64 d, .int .i64 s, .int .i64 c] w fun e w' => e = .returned (.agg #[.slice (some ⟨w.heap.size + 1, 0, none⟩) 1 1, .int .i64 c]) ∧ StepsAt w' (some ⟨w.heap.size + 1, 0, none⟩) [(d, s)] ∧ Below w.heap.size w w' := by
  go_enter Try.func43, Try.ntmps43
  go_wp2
  refine bodyPost_ret (v := .agg #[.slice (some ⟨w.heap.size + 1, 0, none⟩) 1 1, .int .i64 c]) (by simp [results, Try.results43, go_sem]) rfl ⟨rfl, ?_, ?_⟩
  · have := stepsAt_new (w.alloc (Obj.cells #[.slice (some ⟨w.heap.size + 1, 0, none⟩) 1 1, .int .i64 c] 50)) [(d, s)]
    simpa [flatS] using this
  · exact ((Below.refl _ _).alloc (Nat.le_refl _) _).alloc (by simp) _

theorem next_n (a : Option Addr) (cap k : Nat) (l : List (Int × Int)) (c n : Int) (w : World) (hk : k = l.length) (hl : l.length ≤ maxLen) (h : StepsAt w a l) :
    Calls Try.prog 48 #[.agg #[.slice a k cap, .int .i64 c], .int .i64 n] w (NextGives w l c n) := by
  subst hk; exact next_any a cap l c n w hl h
end Go.Proofs.Ytnhjebdlcbhkcaf

namespace Go.Proofs.Ytnhjebdlcbhkcaf
open Go.RowKit

theorem owns_form {w : World} {base : Nat} {e : TypeId} {size : Nat} {v : Value} {n : Nat} {xs : List Value} (h : w.ownsRow base e size v n xs) (hn : 0 < n) : ∃ g cap, v = .slice (some ⟨g, 0, none⟩) n cap := by
  rcases h.2 with ⟨_, h0⟩ | ⟨g, cap, cur, rfl, _⟩
  · omega
  · exact ⟨g, cap, rfl⟩

theorem keepB {w1 w' : World} {z : Nat} {v0 v1 : Value} (hb : Below w1.heap.size w1 w') (q0 : w1.cell? ⟨z, 0, none⟩ = some v0) (q1 : w1.cell? ⟨z, 1, none⟩ = some v1) (hz : z < w1.heap.size) :
    Below w1.heap.size w1 w' ∧ w'.cell? ⟨z, 0, none⟩ = some v0 ∧ w'.cell? ⟨z, 1, none⟩ = some v1 :=
  ⟨hb, (hb.cell (p := ⟨z, 0, none⟩) hz).trans q0, (hb.cell (p := ⟨z, 1, none⟩) hz).trans q1⟩

end Go.Proofs.Ytnhjebdlcbhkcaf
