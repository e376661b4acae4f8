import Derived.Test.YtnhjebdlcbhkcadAtomCkR
import Derived.Test.YtnhjebdlcbhkcadAfter
namespace Go.Proofs.Ytnhjebdlcbhkcad
open Go.RowKit

/-- an atom's three cells -/
structure Raw where
  p : Option Addr
  n : Nat
  cap : Nat
  clock : Int
  sign : Int

def Raw.cells (r : Raw) : List Value := [.slice r.p r.n r.cap, .int .i64 r.clock, .int .u8 r.sign]
def flatR (l : List Raw) : List Value := l.flatMap Raw.cells

theorem flatR_length (l : List Raw) : (flatR l).length = l.length * 3 := by
  unfold flatR; induction l with
  | nil => rfl
  | cons s l ih => simp only [List.flatMap_cons, List.length_append, ih, List.length_cons, Raw.cells, List.length_nil]; omega
theorem flatR_append (l m : List Raw) : flatR (l ++ m) = flatR l ++ flatR m := by unfold flatR; simp
theorem flatR_get (l : List Raw) : ∀ i (h : i < l.length), (flatR l)[i * 3]? = some (.slice l[i].p l[i].n l[i].cap) ∧ (flatR l)[i * 3 + 1]? = some (.int .i64 l[i].clock) ∧ (flatR l)[i * 3 + 2]? = some (.int .u8 l[i].sign) := by
  induction l with
  | nil => intro i h; simp at h
  | cons s l ih =>
    intro i h
    match i with
    | 0 => exact ⟨rfl, rfl, rfl⟩
    | i + 1 =>
      have := ih i (by simpa using h)
      rw [show (i + 1) * 3 = i * 3 + 3 by omega, show i * 3 + 3 + 1 = i * 3 + 1 + 3 by omega, show i * 3 + 3 + 2 = i * 3 + 2 + 3 by omega]
      exact this
theorem flatR_one (l : List Raw) : ∀ u ∈ flatR l, u.oneCell' = true := by
  intro u hu
  unfold flatR at hu
  rw [List.mem_flatMap] at hu
  obtain ⟨s, _, hs⟩ := hu
  simp [Raw.cells] at hs
  rcases hs with rfl | rfl | rfl <;> rfl

/-- the cells tell this atom -/
structure RawOf (w : World) (r : Raw) (x : At) : Prop where
  n : r.n = x.path.length
  clock : r.clock = x.clock
  sign : r.sign = x.sign
  steps : StepsAt w r.p x.path
  len : x.path.length ≤ maxLen
  cap : x.path.length ≤ r.cap
  s0 : 0 ≤ x.sign
  s1 : x.sign ≤ 255

theorem RawOf.below {w w' : World} {r : Raw} {x : At} {B : Nat} (h : RawOf w r x) (hb : Below B w w') (hB : w.heap.size ≤ B) : RawOf w' r x :=
  ⟨h.n, h.clock, h.sign, h.steps.below hb hB, h.len, h.cap, h.s0, h.s1⟩

/-- a row of atoms that the call has made; their paths lie in the world w0 -/
def OwnsA (w0 w : World) (base : Nat) (v : Value) (xs : List At) : Prop :=
  ∃ rs : List Raw, rs.length = xs.length ∧ w.ownsRow base 72 3 v xs.length (flatR rs) ∧ ∀ i (h : i < xs.length) (h' : i < rs.length), RawOf w0 rs[i] xs[i]

theorem OwnsA.nil (w0 w : World) (base : Nat) : OwnsA w0 w base (.slice none 0 0) [] := ⟨[], rfl, World.ownsRow_nil w base 72 3, fun i h => by simp at h⟩

theorem OwnsA.atoms {w0 w : World} {base : Nat} {v : Value} {xs : List At} (h : OwnsA w0 w base v xs) (hb : Below w0.heap.size w0 w) : ∃ p cap, v = .slice p xs.length cap ∧ AtomsAt w p xs ∧ xs.length ≤ cap := by
  obtain ⟨rs, hl, hown, hr⟩ := h
  by_cases e : xs = []
  · subst e
    rcases hown.2 with ⟨rfl, _⟩ | ⟨g, cap, cur, rfl, _⟩
    · exact ⟨none, 0, rfl, Or.inl rfl, Nat.le_refl _⟩
    · exact ⟨some ⟨g, 0, none⟩, cap, rfl, Or.inl rfl, Nat.zero_le _⟩
  have hpos : 0 < xs.length := by
    rcases Nat.eq_zero_or_pos xs.length with h0 | h0
    · exact absurd (List.length_eq_zero_iff.1 h0) e
    · exact h0
  have hown' := hown
  rcases hown.2 with ⟨_, h0⟩ | ⟨g, cap, cur, rfl, _, _, hc, _⟩
  · omega
  refine ⟨some ⟨g, 0, none⟩, cap, rfl, Or.inr ⟨g, 0, rfl, (hown'.lt g rfl).2, fun i hi => ?_⟩, hc⟩
  have c := flatR_get rs i (by omega)
  have r := hr i hi (by omega)
  rw [Nat.zero_add]
  refine ⟨rs[i].p, rs[i].cap, ?_, ?_, ?_, (r.below hb (Nat.le_refl _)).steps, r.len, r.cap, r.s0, r.s1⟩
  · rw [← r.n]; exact (hown'.cellAt _ (by omega)).trans c.1
  · rw [← r.clock]; exact (hown'.cellAt _ (by omega)).trans c.2.1
  · rw [← r.sign]; exact (hown'.cellAt _ (by omega)).trans c.2.2

theorem ownsA_snoc {w0 w : World} {base : Nat} {v : Value} {xs : List At} {rs : List Raw} {r : Raw} {x : At} (hl : rs.length = xs.length) (hr : ∀ i (h : i < xs.length) (h' : i < rs.length), RawOf w0 rs[i] xs[i]) (hx : RawOf w0 r x) (h : w.ownsRow base 72 3 v (xs.length + 1) (flatR rs ++ r.cells)) :
    OwnsA w0 w base v (xs ++ [x]) := by
  refine ⟨rs ++ [r], by simp [hl], ?_, fun i hi hi' => ?_⟩
  · rw [flatR_append, List.length_append]
    show w.ownsRow base 72 3 v (xs.length + 1) (flatR rs ++ (r.cells ++ []))
    rw [List.append_nil]; exact h
  · by_cases e : i < xs.length
    · rw [List.getElem_append_left (by omega), List.getElem_append_left e]; exact hr i e (by omega)
    · have : i = xs.length := by simp at hi; omega
      subst this
      have e1 : (rs ++ [r])[xs.length] = r := by rw [List.getElem_append_right (by omega)]; simp [hl]
      have e2 : (xs ++ [x])[xs.length] = x := by simp
      rw [e1, e2]; exact hx

theorem AtomsAt.raw {w : World} {a : Option Addr} {l : List At} (h : AtomsAt w a l) (hne : 0 < l.length) : ∃ b off, a = some ⟨b, off, none⟩ ∧ b < w.heap.size ∧ ∀ i (h : i < l.length), ∃ r, RawOf w r l[i] ∧ w.cell? ⟨b, off + i * 3, none⟩ = some (.slice r.p r.n r.cap) ∧ w.cell? ⟨b, off + i * 3 + 1, none⟩ = some (.int .i64 r.clock) ∧ w.cell? ⟨b, off + i * 3 + 2, none⟩ = some (.int .u8 r.sign) := by
  rcases h with h | ⟨b, off, rfl, hlt, hc⟩
  · simp [h] at hne
  · refine ⟨b, off, rfl, hlt, fun i hi => ?_⟩
    obtain ⟨p, cap, h1, h2, h3, h4, h5, h6, h7, h8⟩ := hc i hi
    exact ⟨⟨p, _, cap, _, _⟩, ⟨rfl, rfl, rfl, h4, h5, h6, h7, h8⟩, h1, h2, h3⟩

theorem raw_new (w : World) (r : Raw) : ∀ j u, r.cells[j]? = some u → (w.alloc (.cells #[.slice r.p r.n r.cap, .int .i64 r.clock, .int .u8 r.sign] 72)).cell? ⟨w.heap.size, j, none⟩ = some u := by
  intro j u hj
  rw [World.cell?_alloc_new]
  simpa [Raw.cells] using hj

theorem Try.info72 : ∃ i, Try.prog.info? 72 = some i ∧ i.zero = some (.agg #[.slice none 0 0, .int .i64 0, .int .u8 0]) ∧ i.size = 3 ∧ i.bytes = 40 := by
  have h : (Try.prog.info? 72).map (fun i => (i.zero, i.size, i.bytes)) = some (some (.agg #[.slice none 0 0, .int .i64 0, .int .u8 0]), 3, 40) := by kernel_rfl
  rw [Option.map_eq_some_iff] at h
  obtain ⟨i, hi, he⟩ := h
  simp only [Prod.mk.injEq] at he
  exact ⟨i, hi, he⟩
end Go.Proofs.Ytnhjebdlcbhkcad

namespace Go.Proofs.Ytnhjebdlcbhkcad
open Go.RowKit

def lessSign (a x : At) : At := { x with sign := if a.sign < x.sign then a.sign else x.sign }
/-- what one atom of the row becomes when a is put, and whether a is there then -/
def stepPut (a x : At) (put : Bool) : List At × Bool :=
  if 0 < ordA x a then (if put then [x] else [a, x], true) else if ordA x a = 0 then ([lessSign a x], true) else ([x], put)
def putA (a : At) : List At → Bool → List At
  | [], put => if put then [] else [a]
  | x :: l, put => (stepPut a x put).1 ++ putA a l (stepPut a x put).2

theorem putA_drop {a : At} {l : List At} {k : Nat} (h : k < l.length) (put : Bool) : putA a (l.drop k) put = (stepPut a l[k] put).1 ++ putA a (l.drop (k + 1)) (stepPut a l[k] put).2 := by
  rw [List.drop_eq_getElem_cons h]; rfl

theorem grown_cell {w w' : World} {row : Option Nat} (h : w.grownBy w' row) {b : Nat} (hb : b < w.heap.size) (hne : some b ≠ row) (o : Nat) : w'.cell? ⟨b, o, none⟩ = w.cell? ⟨b, o, none⟩ :=
  World.cell?_of_block (w := w) (a := ⟨b, o, none⟩) (h.block b hb hne)

theorem own_ne {w : World} {base : Nat} {e : TypeId} {size : Nat} {v : Value} {n : Nat} {xs : List Value} (h : w.ownsRow base e size v n xs) {b : Nat} (hb : b < base ∨ w.heap.size ≤ b) : some b ≠ v.ownBlock := by
  intro e
  have := h.lt b e.symm
  omega

end Go.Proofs.Ytnhjebdlcbhkcad
