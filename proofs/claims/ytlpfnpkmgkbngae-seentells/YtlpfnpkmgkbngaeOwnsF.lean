/- Rows that are the call's own. -/
import Derived.Test.YtlpfnpkmgkbngaeHolds
namespace Go.Proofs.Ytlpfnpkmgkbngae
open Go.RowKit

theorem owns_form {w : World} {base : Nat} {e : TypeId} {size : Nat} {v : Value} {n : Nat} {xs : List Value} (h : w.ownsRow base e size v n xs) (hn : 0 < n) : ∃ g cap, v = .slice (some ⟨g, 0, none⟩) n cap := by
  rcases h.2 with ⟨_, h0⟩ | ⟨g, cap, cur, rfl, _⟩
  · omega
  · exact ⟨g, cap, rfl⟩

theorem keepB {w1 w' : World} {z : Nat} {v0 v1 : Value} (hb : Below w1.heap.size w1 w') (q0 : w1.cell? ⟨z, 0, none⟩ = some v0) (q1 : w1.cell? ⟨z, 1, none⟩ = some v1) (hz : z < w1.heap.size) :
    Below w1.heap.size w1 w' ∧ w'.cell? ⟨z, 0, none⟩ = some v0 ∧ w'.cell? ⟨z, 1, none⟩ = some v1 :=
  ⟨hb, (hb.cell (p := ⟨z, 0, none⟩) hz).trans q0, (hb.cell (p := ⟨z, 1, none⟩) hz).trans q1⟩

end Go.Proofs.Ytlpfnpkmgkbngae
