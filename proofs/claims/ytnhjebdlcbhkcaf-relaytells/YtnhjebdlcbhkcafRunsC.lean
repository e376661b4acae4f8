/- Contract of run.Runs. -/
import Derived.Test.YtnhjebdlcbhkcafPieces
import Derived.Test.YtnhjebdlcbhkcafPickR
namespace Go.Proofs.Ytnhjebdlcbhkcaf
open Go.RowKit Go.Shelf
attribute [local go_sem] Oper.semAt_some

/-- a run: its first mark's path and clock, its text -/
structure Rn where
  path : List (Int × Int)
  clock : Int
  text : ByteArray

/-- the three cells of a run -/
structure RawN where
  p : Option Addr
  n : Nat
  cap : Nat
  clock : Int
  text : ByteArray
def RawN.cells (r : RawN) : List Value := [.slice r.p r.n r.cap, .int .i64 r.clock, .string r.text]
def flatN (l : List RawN) : List Value := l.flatMap RawN.cells
theorem flatN_length (l : List RawN) : (flatN l).length = l.length * 3 := by
  induction l with
  | nil => rfl
  | cons r l ih => show (r.cells ++ flatN l).length = _; rw [List.length_append, ih]; simp [RawN.cells]; omega
theorem flatN_append (l m : List RawN) : flatN (l ++ m) = flatN l ++ flatN m := by unfold flatN; simp
theorem flatN_get (l : List RawN) : ∀ i (h : i < l.length), (flatN l)[i * 3]? = some (.slice l[i].p l[i].n l[i].cap) ∧ (flatN l)[i * 3 + 1]? = some (.int .i64 l[i].clock) ∧ (flatN l)[i * 3 + 2]? = some (.string l[i].text) := by
  induction l with
  | nil => intro i h; simp at h
  | cons r l ih =>
    intro i h
    have e : flatN (r :: l) = r.cells ++ flatN l := rfl
    cases i with
    | zero => exact ⟨rfl, rfl, rfl⟩
    | succ i =>
      have h' : i < l.length := by simpa using h
      rw [e, List.getElem?_append_right (by show 3 ≤ _; omega), List.getElem?_append_right (by show 3 ≤ _; omega), List.getElem?_append_right (by show 3 ≤ _; omega)]
      have e1 : (i + 1) * 3 - r.cells.length = i * 3 := by show (i + 1) * 3 - 3 = _; omega
      have e2 : (i + 1) * 3 + 1 - r.cells.length = i * 3 + 1 := by show (i + 1) * 3 + 1 - 3 = _; omega
      have e3 : (i + 1) * 3 + 2 - r.cells.length = i * 3 + 2 := by show (i + 1) * 3 + 2 - 3 = _; omega
      rw [e1, e2, e3]
      exact ih i h'
theorem flatN_one (l : List RawN) : ∀ u ∈ flatN l, u.oneCell' = true := by
  intro u hu
  obtain ⟨r, _, hr⟩ := List.mem_flatMap.1 hu
  simp [RawN.cells] at hr
  rcases hr with rfl | rfl | rfl <;> rfl

/-- the cells behind a slice's address hold these runs -/
def RunsAt (w : World) (a : Option Addr) (l : List Rn) : Prop :=
  l = [] ∨ ∃ b off, a = some ⟨b, off, none⟩ ∧ b < w.heap.size ∧ ∀ i (h : i < l.length), ∃ p cap, w.cell? ⟨b, off + i * 3, none⟩ = some (.slice p l[i].path.length cap) ∧ w.cell? ⟨b, off + i * 3 + 1, none⟩ = some (.int .i64 l[i].clock) ∧ w.cell? ⟨b, off + i * 3 + 2, none⟩ = some (.string l[i].text) ∧ StepsAt w p l[i].path ∧ l[i].path.length ≤ maxLen ∧ l[i].text.size ≤ maxLen

theorem RunsAt.below {w w' : World} {a : Option Addr} {l : List Rn} {B : Nat} (h : RunsAt w a l) (hb : Below B w w') (hB : w.heap.size ≤ B) : RunsAt w' a l := by
  rcases h with h | ⟨b, off, rfl, hlt, hc⟩
  · exact Or.inl h
  · refine Or.inr ⟨b, off, rfl, Nat.lt_of_lt_of_le hlt hb.size, fun i hi => ?_⟩
    obtain ⟨p, cap, h1, h2, h3, h4, h5⟩ := hc i hi
    exact ⟨p, cap, (hb.cell (p := ⟨b, off + i * 3, none⟩) (by show b < B; omega)).trans h1, (hb.cell (p := ⟨b, off + i * 3 + 1, none⟩) (by show b < B; omega)).trans h2, (hb.cell (p := ⟨b, off + i * 3 + 2, none⟩) (by show b < B; omega)).trans h3, h4.below hb hB, h5⟩

/-- a run's cells whose path is the call's own -/
def PickRn (w : World) (base : Nat) (r : RawN) (x : Rn) : Prop :=
  ∃ g cap, r = ⟨some ⟨g, 0, none⟩, x.path.length, cap, x.clock, x.text⟩ ∧ w.ownsRow base 77 2 (.slice (some ⟨g, 0, none⟩) x.path.length cap) x.path.length (flatS x.path) ∧ x.path.length ≤ maxLen ∧ x.text.size ≤ maxLen

/-- a row of runs, all of it the call's own -/
def RunRow (w : World) (base : Nat) (v : Value) (xs : List Rn) : Prop :=
  ∃ rs : List RawN, rs.length = xs.length ∧ w.ownsRow base 52 3 v xs.length (flatN rs) ∧ ∀ i (h : i < xs.length) (h' : i < rs.length), PickRn w base rs[i] xs[i]

theorem PickRn.kept {w w' : World} {base : Nat} {row : Option Nat} {r : RawN} {x : Rn} (h : PickRn w base r x) (hg : w.grownBy w' row) (hne : ∀ g cur, w.heap[g]? = some (.cells cur 77 (0, 0)) → some g ≠ row) : PickRn w' base r x := by
  obtain ⟨g, cap, rfl, hown, h1⟩ := h
  refine ⟨g, cap, rfl, hown.kept hg (Or.inr ?_), h1⟩
  rcases hown.2 with ⟨hc, _⟩ | ⟨g1, c1, cur, e1, _, e2, _⟩
  · simp at hc
  · simp at e1
    obtain ⟨rfl, _⟩ := e1
    simpa [Value.ownBlock] using hne g cur e2

theorem row_typed {w : World} {base : Nat} {t : TypeId} {k : Nat} {v : Value} {n : Nat} {xs : List Value} (h : w.ownsRow base t k v n xs) {g : Nat} {cur : Array Value} {t' : TypeId} (hg : w.heap[g]? = some (.cells cur t' (0, 0))) (ht : t' ≠ t) : some g ≠ v.ownBlock := by
  intro e
  rcases h.2 with ⟨rfl, _⟩ | ⟨g2, c2, cur2, rfl, _, h3, _⟩
  · simp [Value.ownBlock] at e
  · simp [Value.ownBlock] at e
    subst e
    rw [hg] at h3
    cases h3
    exact ht rfl

theorem RunRow.snoc {w w' : World} {base : Nat} {v v' : Value} {xs : List Rn} {r : RawN} {x : Rn} {rs : List RawN} (hl : rs.length = xs.length) (hown : w.ownsRow base 52 3 v xs.length (flatN rs)) (hr : ∀ i (h : i < xs.length) (h' : i < rs.length), PickRn w base rs[i] xs[i]) (hx : PickRn w base r x) (hg : w.grownBy w' v.ownBlock) (h : w'.ownsRow base 52 3 v' (xs.length + 1) (flatN rs ++ r.cells)) :
    RunRow w' base v' (xs ++ [x]) := by
  have hne : ∀ g cur, w.heap[g]? = some (.cells cur 77 (0, 0)) → some g ≠ v.ownBlock := fun g cur e => row_typed hown e (by decide)
  refine ⟨rs ++ [r], by simp [hl], ?_, fun i hi hi' => ?_⟩
  · rw [flatN_append, List.length_append]
    show w'.ownsRow base _ 3 v' (xs.length + 1) (flatN rs ++ (r.cells ++ []))
    rw [List.append_nil]; exact h
  · by_cases e : i < xs.length
    · rw [List.getElem_append_left (by omega), List.getElem_append_left e]
      exact (hr i e (by omega)).kept hg hne
    · have : i = xs.length := by simp at hi; omega
      subst this
      have e1 : (rs ++ [r])[xs.length] = r := by rw [List.getElem_append_right (by omega)]; simp [hl]
      have e2 : (xs ++ [x])[xs.length] = x := by simp
      rw [e1, e2]
      exact hx.kept hg hne

theorem RunRow.kept {w w' : World} {base : Nat} {row : Option Nat} {v : Value} {xs : List Rn} (h : RunRow w base v xs) (hg : w.grownBy w' row) (hne : ∀ (g : Nat) cur t, w.heap[g]? = some (.cells cur t (0, 0)) → t = 77 ∨ t = 52 → some g ≠ row) : RunRow w' base v xs := by
  obtain ⟨rs, h1, h2, h3⟩ := h
  refine ⟨rs, h1, h2.kept hg ?_, fun i hi hi' => (h3 i hi hi').kept hg (fun g cur e => hne g cur _ e (Or.inl rfl))⟩
  rcases h2.2 with ⟨rfl, _⟩ | ⟨g, c, cur, rfl, _, hh, _⟩
  · exact Or.inl rfl
  · exact Or.inr (by simpa [Value.ownBlock] using hne g cur _ hh (Or.inr rfl))

theorem RunRow.below {w w' : World} {base : Nat} {v : Value} {xs : List Rn} (h : RunRow w base v xs) (hb : Below w.heap.size w w') : RunRow w' base v xs := h.kept (below_grownX hb) (fun g cur t _ _ => by simp)

theorem RunRow.runs {w : World} {base : Nat} {v : Value} {xs : List Rn} (h : RunRow w base v xs) : ∃ p cap, v = .slice p xs.length cap ∧ RunsAt w p xs ∧ xs.length ≤ cap := by
  obtain ⟨rs, h1, h2, h3⟩ := h
  rcases h2.2 with ⟨rfl, h0⟩ | ⟨g, c, cur, rfl, hb, hh, hc, _⟩
  · have : xs = [] := List.length_eq_zero_iff.1 h0
    subst this
    exact ⟨none, 0, rfl, Or.inl rfl, Nat.le_refl _⟩
  · refine ⟨_, c, rfl, Or.inr ⟨g, 0, rfl, (Array.getElem?_eq_some_iff.1 hh).1, fun i hi => ?_⟩, hc⟩
    obtain ⟨g2, cap2, e, hown, h4, h5⟩ := h3 i hi (by omega)
    obtain ⟨f0, f1, f2⟩ := flatN_get rs i (by omega)
    rw [e] at f0 f1 f2
    rw [Nat.zero_add]
    exact ⟨_, _, (h2.cellAt (i * 3) (by omega)).trans f0, (h2.cellAt (i * 3 + 1) (by omega)).trans f1, (h2.cellAt (i * 3 + 2) (by omega)).trans f2, stepsAt_owns hown rfl, h4, h5⟩

/-- the run of a piece -/
def runOf (l : List At) (p : Nat × Nat) : Rn := ⟨(l[p.1]?.getD ⟨[], 0, 0⟩).path, (l[p.1]?.getD ⟨[], 0, 0⟩).clock, txtS (part l p.1 (p.2 - p.1))⟩
/-- the runs of atoms -/
def runsL (l : List At) : List Rn := (pst l l.length).1.map (runOf l)

theorem Try.info52 : ∃ i, Try.prog.info? 52 = some i ∧ i.zero = some (.agg #[.slice none 0 0, .int .i64 0, .string ⟨#[]⟩]) ∧ i.size = 3 ∧ i.bytes = 48 := by
  have h : (Try.prog.info? 52).map (fun i => (i.zero, i.size, i.bytes)) = some (some (.agg #[.slice none 0 0, .int .i64 0, .string ⟨#[]⟩]), 3, 48) := by kernel_rfl
  rw [Option.map_eq_some_iff] at h
  obtain ⟨i, hi, he⟩ := h
  simp only [Prod.mk.injEq] at he
  exact ⟨i, hi, he⟩

end Go.Proofs.Ytnhjebdlcbhkcaf
