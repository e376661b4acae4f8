import Derived.Test.YtnhjebdlcbhkcafAtomCkR
import Derived.Test.YtnhjebdlcbhkcafAfter
import Derived.Deep.RegionHeldLaw
namespace Go.Proofs.Ytnhjebdlcbhkcaf
open Go.RowKit

/-- an atom's three cells -/
structure Raw where
  p : Option Addr
  n : Nat
  cap : Nat
  clock : Int
  sign : Int

def Raw.cells (r : Raw) : List Value := [.slice r.p r.n r.cap, .int .i64 r.clock, .int .u8 r.sign]
def flatR (l : List Raw) : List Value := l.flatMap Raw.cells

theorem flatR_length (l : List Raw) : (flatR l).length = l.length * 3 := by
  unfold flatR; induction l with
  | nil => rfl
  | cons s l ih => simp only [List.flatMap_cons, List.length_append, ih, List.length_cons, Raw.cells, List.length_nil]; omega
theorem flatR_append (l m : List Raw) : flatR (l ++ m) = flatR l ++ flatR m := by unfold flatR; simp
theorem flatR_get (l : List Raw) : ∀ i (h : i < l.length), (flatR l)[i * 3]? = some (.slice l[i].p l[i].n l[i].cap) ∧ (flatR l)[i * 3 + 1]? = some (.int .i64 l[i].clock) ∧ (flatR l)[i * 3 + 2]? = some (.int .u8 l[i].sign) := by
  induction l with
  | nil => intro i h; simp at h
  | cons s l ih =>
    intro i h
    match i with
    | 0 => exact ⟨rfl, rfl, rfl⟩
    | i + 1 =>
      have := ih i (by simpa using h)
      rw [show (i + 1) * 3 = i * 3 + 3 by omega, show i * 3 + 3 + 1 = i * 3 + 1 + 3 by omega, show i * 3 + 3 + 2 = i * 3 + 2 + 3 by omega]
      exact this
theorem flatR_one (l : List Raw) : ∀ u ∈ flatR l, u.oneCell' = true := by
  intro u hu
  unfold flatR at hu
  rw [List.mem_flatMap] at hu
  obtain ⟨s, _, hs⟩ := hu
  simp [Raw.cells] at hs
  rcases hs with rfl | rfl | rfl <;> rfl

/-- the cells tell this atom -/
structure RawOf (w : World) (r : Raw) (x : At) : Prop where
  n : r.n = x.path.length
  clock : r.clock = x.clock
  sign : r.sign = x.sign
  steps : StepsAt w r.p x.path
  len : x.path.length ≤ maxLen
  cap : x.path.length ≤ r.cap
  s0 : 0 ≤ x.sign
  s1 : x.sign ≤ 255

theorem RawOf.below {w w' : World} {r : Raw} {x : At} {B : Nat} (h : RawOf w r x) (hb : Below B w w') (hB : w.heap.size ≤ B) : RawOf w' r x :=
  ⟨h.n, h.clock, h.sign, h.steps.below hb hB, h.len, h.cap, h.s0, h.s1⟩

theorem AtomsAt.raw {w : World} {a : Option Addr} {l : List At} (h : AtomsAt w a l) (hne : 0 < l.length) : ∃ b off, a = some ⟨b, off, none⟩ ∧ b < w.heap.size ∧ ∀ i (h : i < l.length), ∃ r, RawOf w r l[i] ∧ w.cell? ⟨b, off + i * 3, none⟩ = some (.slice r.p r.n r.cap) ∧ w.cell? ⟨b, off + i * 3 + 1, none⟩ = some (.int .i64 r.clock) ∧ w.cell? ⟨b, off + i * 3 + 2, none⟩ = some (.int .u8 r.sign) := by
  rcases h with h | ⟨b, off, rfl, hlt, hc⟩
  · simp [h] at hne
  · refine ⟨b, off, rfl, hlt, fun i hi => ?_⟩
    obtain ⟨p, cap, h1, h2, h3, h4, h5, h6, h7, h8⟩ := hc i hi
    exact ⟨⟨p, _, cap, _, _⟩, ⟨rfl, rfl, rfl, h4, h5, h6, h7, h8⟩, h1, h2, h3⟩

end Go.Proofs.Ytnhjebdlcbhkcaf

namespace Go.Proofs.Ytnhjebdlcbhkcaf
open Go.RowKit

def lessSign (a x : At) : At := { x with sign := if a.sign < x.sign then a.sign else x.sign }
/-- what one atom of the row becomes when a is put, and whether a is there then -/
def stepPut (a x : At) (put : Bool) : List At × Bool :=
  if 0 < ordA x a then (if put then [x] else [a, x], true) else if ordA x a = 0 then ([lessSign a x], true) else ([x], put)
def putA (a : At) : List At → Bool → List At
  | [], put => if put then [] else [a]
  | x :: l, put => (stepPut a x put).1 ++ putA a l (stepPut a x put).2

theorem putA_drop {a : At} {l : List At} {k : Nat} (h : k < l.length) (put : Bool) : putA a (l.drop k) put = (stepPut a l[k] put).1 ++ putA a (l.drop (k + 1)) (stepPut a l[k] put).2 := by
  rw [List.drop_eq_getElem_cons h]; rfl

theorem grown_cell {w w' : World} {row : Option Nat} (h : w.grownBy w' row) {b : Nat} (hb : b < w.heap.size) (hne : some b ≠ row) (o : Nat) : w'.cell? ⟨b, o, none⟩ = w.cell? ⟨b, o, none⟩ :=
  World.cell?_of_block (w := w) (a := ⟨b, o, none⟩) (h.block b hb hne)

theorem own_ne {w : World} {base : Nat} {e : TypeId} {size : Nat} {v : Value} {n : Nat} {xs : List Value} (h : w.ownsRow base e size v n xs) {b : Nat} (hb : b < base ∨ w.heap.size ≤ b) : some b ≠ v.ownBlock := by
  intro e
  have := h.lt b e.symm
  omega

end Go.Proofs.Ytnhjebdlcbhkcaf

namespace Go.Proofs.Ytnhjebdlcbhkcaf
open Go.RowKit

theorem step_append_own {P : Program} {ops : Array Oper} {o : Oper} {a : Act} {w : World} {K : Act → World → Prop} {Q : Exit → Act → World → Prop} {E : Prop}
    (hg : o.guard = none) (s x : Operand) (t : TypeId) (hop : o.op = Op.call { callee := Callee.builtin Builtin.append, args := #[s, x], argTypes := #[t, t] }) (base : Nat)
    (e : TypeId) (i : TypeInfo) (z : Value) (size bytes : Nat) (h1 : P.underlying t = some (.slice e)) (h2 : P.info? e = some i) (h3 : i.zero = some z) (h4 : i.size = size) (h5 : i.bytes = bytes) (h6 : z.cells.size = size) (h7 : 0 < size)
    (v : Value) (n : Nat) (olds : List Value) (hs : a.eval s = v) (hown : w.ownsRow base e size v n olds)
    (ad : Addr) (m c : Nat) (news : List Value) (hx : a.eval x = .slice (some ad) m c) (hn : news.length = m * size) (hc : ∀ j u, news[j]? = some u → w.cell? (ad.add j) = some u) (h1c : ∀ u ∈ news, u.oneCell' = true)
    (b1 : n + m ≤ maxLen) (b2 : (n + m) * bytes ≤ 140737488355328) (hb : base ≤ w.heap.size)
    (hK : ∀ v' w', w'.ownsRow base e size v' (n + m) (olds ++ news) → w.grownBy w' v.ownBlock → K (a.put o.dst v') w') :
    if Region.wanted o (yielded ops a.tmps) = true then Oper.wp P o a w K Q else E := by
  have hw : Region.wanted o (yielded ops a.tmps) = true := by simp [Region.wanted, hg]
  rw [if_pos hw]
  obtain ⟨v', w', hrun, r1, r2, _⟩ := run_append_own (P := P) w base t o.type e i z size bytes h1 h2 h3 h4 h5 h6 h7 v n olds hown ad m c news hn hc h1c b1 b2 hb
  unfold Oper.wp
  simp [execOp, hop, resolve, invoke, builtin, hs, hx, hrun, Result.andThen]
  exact hK v' w' r1 r2

/-- an atom's cells whose path is the call's own -/
def PickRaw (w : World) (base : Nat) (r : Raw) (x : At) : Prop :=
  ∃ g cap, r = ⟨some ⟨g, 0, none⟩, x.path.length, cap, x.clock, x.sign⟩ ∧ w.ownsRow base 77 2 (.slice (some ⟨g, 0, none⟩) x.path.length cap) x.path.length (flatS x.path) ∧ x.path.length ≤ maxLen ∧ 0 ≤ x.sign ∧ x.sign ≤ 255

theorem PickRaw.kept {w w' : World} {base : Nat} {row : Option Nat} {r : Raw} {x : At} (h : PickRaw w base r x) (hg : w.grownBy w' row) (hne : ∀ g cap, r.p = some ⟨g, 0, none⟩ → w.ownsRow base 77 2 (.slice (some ⟨g, 0, none⟩) x.path.length cap) x.path.length (flatS x.path) → some g ≠ row) : PickRaw w' base r x := by
  obtain ⟨g, cap, rfl, hown, h1⟩ := h
  exact ⟨g, cap, rfl, hown.kept hg (Or.inr (by have := hne g cap rfl hown; simpa [Value.ownBlock] using this)), h1⟩

theorem PickRaw.below {w w' : World} {base : Nat} {r : Raw} {x : At} (h : PickRaw w base r x) (hb : Below w.heap.size w w') : PickRaw w' base r x := by
  obtain ⟨g, cap, rfl, hown, h1⟩ := h
  exact ⟨g, cap, rfl, owns_below hown hb, h1⟩

theorem PickRaw.raw {w : World} {base : Nat} {r : Raw} {x : At} (h : PickRaw w base r x) : RawOf w r x := by
  obtain ⟨g, cap, rfl, hown, h1, h2, h3⟩ := h
  refine ⟨rfl, rfl, rfl, stepsAt_owns hown rfl, h1, ?_, h2, h3⟩
  rcases hown.2 with ⟨hc, _⟩ | ⟨g1, c1, cur, e1, _, _, hc, _⟩
  · simp at hc
  · simp at e1; rw [e1.2]; exact hc

/-- the atoms at wanted places -/
def pickTo (f : Nat → Bool) (l : List At) : Nat → List At
  | 0 => []
  | k + 1 => pickTo f l k ++ if f k then l[k]?.toList else []
theorem pickTo_len (f : Nat → Bool) (l : List At) : ∀ k, (pickTo f l k).length ≤ k
  | 0 => Nat.le_refl _
  | k + 1 => by
    have := pickTo_len f l k
    unfold pickTo
    rw [List.length_append]
    split
    · have : (l[k]?.toList).length ≤ 1 := by cases l[k]? <;> simp
      omega
    · simp; omega
end Go.Proofs.Ytnhjebdlcbhkcaf
