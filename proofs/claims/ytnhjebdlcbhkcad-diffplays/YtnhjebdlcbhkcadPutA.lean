import Derived.Test.YtnhjebdlcbhkcadAtomCk
import Derived.Test.YtnhjebdlcbhkcadText
import Derived.Test.YtnhjebdlcbhkcadRawA
namespace Go.Proofs.Ytnhjebdlcbhkcad
open Go.RowKit

/-- is the mark in the list? -/
def hasGone (l : List (List (Int × Int) × Int)) (p : List (Int × Int)) (c : Int) : Bool := l.any fun x => ordM x.1 x.2 p c == 0

theorem any_split {α : Type} {l : List α} {f : α → Bool} {k : Nat} (h : k < l.length) : (l.drop k).any f = (f l[k] || (l.drop (k + 1)).any f) := by
  rw [List.drop_eq_getElem_cons h, List.any_cons]

end Go.Proofs.Ytnhjebdlcbhkcad

namespace Go.Proofs.Ytnhjebdlcbhkcad
open Go.RowKit

def takeL (l : List At) (ms : List (List (Int × Int) × Int)) : List At := l.filter fun x => !hasGone ms x.path x.clock

end Go.Proofs.Ytnhjebdlcbhkcad

namespace Go.Proofs.Ytnhjebdlcbhkcad
open Go.RowKit

def lessSign (a x : At) : At := { x with sign := if a.sign < x.sign then a.sign else x.sign }
/-- what one atom of the row becomes when a is put, and whether a is there then -/
def stepPut (a x : At) (put : Bool) : List At × Bool :=
  if 0 < ordA x a then (if put then [x] else [a, x], true) else if ordA x a = 0 then ([lessSign a x], true) else ([x], put)
def putA (a : At) : List At → Bool → List At
  | [], put => if put then [] else [a]
  | x :: l, put => (stepPut a x put).1 ++ putA a l (stepPut a x put).2

theorem putA_drop {a : At} {l : List At} {k : Nat} (h : k < l.length) (put : Bool) : putA a (l.drop k) put = (stepPut a l[k] put).1 ++ putA a (l.drop (k + 1)) (stepPut a l[k] put).2 := by
  rw [List.drop_eq_getElem_cons h]; rfl

theorem grown_cell {w w' : World} {row : Option Nat} (h : w.grownBy w' row) {b : Nat} (hb : b < w.heap.size) (hne : some b ≠ row) (o : Nat) : w'.cell? ⟨b, o, none⟩ = w.cell? ⟨b, o, none⟩ :=
  World.cell?_of_block (w := w) (a := ⟨b, o, none⟩) (h.block b hb hne)

theorem own_ne {w : World} {base : Nat} {e : TypeId} {size : Nat} {v : Value} {n : Nat} {xs : List Value} (h : w.ownsRow base e size v n xs) {b : Nat} (hb : b < base ∨ w.heap.size ≤ b) : some b ≠ v.ownBlock := by
  intro e
  have := h.lt b e.symm
  omega

end Go.Proofs.Ytnhjebdlcbhkcad
