/- Contract of run.Runs. -/
import Derived.Test.YtnhjebdlcbhkcacGreatPieces
import Derived.Test.YtnhjebdlcbhkcacGreatGapA
import Derived.Test.YtnhjebdlcbhkcacGreatSearch
import Derived.Test.YtnhjebdlcbhkcacGreatRunCk
namespace Go.Proofs.YtnhjebdlcbhkcacGreat
open Go.RowKit Go.Shelf
attribute [local go_sem] Oper.semAt_some

/-- a run: its first mark's path and clock, its text -/
structure Rn where
  path : List (Int × Int)
  clock : Int
  text : ByteArray

/-- the three cells of a run -/
structure RawN where
  p : Option Addr
  n : Nat
  cap : Nat
  clock : Int
  text : ByteArray
def RawN.cells (r : RawN) : List Value := [.slice r.p r.n r.cap, .int .i64 r.clock, .string r.text]
def flatN (l : List RawN) : List Value := l.flatMap RawN.cells
theorem flatN_length (l : List RawN) : (flatN l).length = l.length * 3 := by
  induction l with
  | nil => rfl
  | cons r l ih => show (r.cells ++ flatN l).length = _; rw [List.length_append, ih]; simp [RawN.cells]; omega
theorem flatN_append (l m : List RawN) : flatN (l ++ m) = flatN l ++ flatN m := by unfold flatN; simp
theorem flatN_get (l : List RawN) : ∀ i (h : i < l.length), (flatN l)[i * 3]? = some (.slice l[i].p l[i].n l[i].cap) ∧ (flatN l)[i * 3 + 1]? = some (.int .i64 l[i].clock) ∧ (flatN l)[i * 3 + 2]? = some (.string l[i].text) := by
  induction l with
  | nil => intro i h; simp at h
  | cons r l ih =>
    intro i h
    have e : flatN (r :: l) = r.cells ++ flatN l := rfl
    cases i with
    | zero => exact ⟨rfl, rfl, rfl⟩
    | succ i =>
      have h' : i < l.length := by simpa using h
      rw [e, List.getElem?_append_right (by show 3 ≤ _; omega), List.getElem?_append_right (by show 3 ≤ _; omega), List.getElem?_append_right (by show 3 ≤ _; omega)]
      have e1 : (i + 1) * 3 - r.cells.length = i * 3 := by show (i + 1) * 3 - 3 = _; omega
      have e2 : (i + 1) * 3 + 1 - r.cells.length = i * 3 + 1 := by show (i + 1) * 3 + 1 - 3 = _; omega
      have e3 : (i + 1) * 3 + 2 - r.cells.length = i * 3 + 2 := by show (i + 1) * 3 + 2 - 3 = _; omega
      rw [e1, e2, e3]
      exact ih i h'
theorem flatN_one (l : List RawN) : ∀ u ∈ flatN l, u.oneCell' = true := by
  intro u hu
  obtain ⟨r, _, hr⟩ := List.mem_flatMap.1 hu
  simp [RawN.cells] at hr
  rcases hr with rfl | rfl | rfl <;> rfl

/-- the cells behind a slice's address hold these runs -/
def RunsAt (w : World) (a : Option Addr) (l : List Rn) : Prop :=
  l = [] ∨ ∃ b off, a = some ⟨b, off, none⟩ ∧ b < w.heap.size ∧ ∀ i (h : i < l.length), ∃ p cap, w.cell? ⟨b, off + i * 3, none⟩ = some (.slice p l[i].path.length cap) ∧ w.cell? ⟨b, off + i * 3 + 1, none⟩ = some (.int .i64 l[i].clock) ∧ w.cell? ⟨b, off + i * 3 + 2, none⟩ = some (.string l[i].text) ∧ StepsAt w p l[i].path ∧ l[i].path.length ≤ maxLen ∧ l[i].text.size ≤ maxLen

theorem RunsAt.below {w w' : World} {a : Option Addr} {l : List Rn} {B : Nat} (h : RunsAt w a l) (hb : Below B w w') (hB : w.heap.size ≤ B) : RunsAt w' a l := by
  rcases h with h | ⟨b, off, rfl, hlt, hc⟩
  · exact Or.inl h
  · refine Or.inr ⟨b, off, rfl, Nat.lt_of_lt_of_le hlt hb.size, fun i hi => ?_⟩
    obtain ⟨p, cap, h1, h2, h3, h4, h5⟩ := hc i hi
    exact ⟨p, cap, (hb.cell (p := ⟨b, off + i * 3, none⟩) (by show b < B; omega)).trans h1, (hb.cell (p := ⟨b, off + i * 3 + 1, none⟩) (by show b < B; omega)).trans h2, (hb.cell (p := ⟨b, off + i * 3 + 2, none⟩) (by show b < B; omega)).trans h3, h4.below hb hB, h5⟩

/-- a run's cells whose path is the call's own -/
def PickRn (w : World) (base : Nat) (r : RawN) (x : Rn) : Prop :=
  ∃ g cap, r = ⟨some ⟨g, 0, none⟩, x.path.length, cap, x.clock, x.text⟩ ∧ w.ownsRow base 99 2 (.slice (some ⟨g, 0, none⟩) x.path.length cap) x.path.length (flatS x.path) ∧ x.path.length ≤ maxLen ∧ x.text.size ≤ maxLen

/-- a row of runs, all of it the call's own -/
def RunRow (w : World) (base : Nat) (v : Value) (xs : List Rn) : Prop :=
  ∃ rs : List RawN, rs.length = xs.length ∧ w.ownsRow base 48 3 v xs.length (flatN rs) ∧ ∀ i (h : i < xs.length) (h' : i < rs.length), PickRn w base rs[i] xs[i]

theorem PickRn.kept {w w' : World} {base : Nat} {row : Option Nat} {r : RawN} {x : Rn} (h : PickRn w base r x) (hg : w.grownBy w' row) (hne : ∀ g cur, w.heap[g]? = some (.cells cur 99 (0, 0)) → some g ≠ row) : PickRn w' base r x := by
  obtain ⟨g, cap, rfl, hown, h1⟩ := h
  refine ⟨g, cap, rfl, hown.kept hg (Or.inr ?_), h1⟩
  rcases hown.2 with ⟨hc, _⟩ | ⟨g1, c1, cur, e1, _, e2, _⟩
  · simp at hc
  · simp at e1
    obtain ⟨rfl, _⟩ := e1
    simpa [Value.ownBlock] using hne g cur e2

theorem row_typed {w : World} {base : Nat} {t : TypeId} {k : Nat} {v : Value} {n : Nat} {xs : List Value} (h : w.ownsRow base t k v n xs) {g : Nat} {cur : Array Value} {t' : TypeId} (hg : w.heap[g]? = some (.cells cur t' (0, 0))) (ht : t' ≠ t) : some g ≠ v.ownBlock := by
  intro e
  rcases h.2 with ⟨rfl, _⟩ | ⟨g2, c2, cur2, rfl, _, h3, _⟩
  · simp [Value.ownBlock] at e
  · simp [Value.ownBlock] at e
    subst e
    rw [hg] at h3
    cases h3
    exact ht rfl

theorem RunRow.snoc {w w' : World} {base : Nat} {v v' : Value} {xs : List Rn} {r : RawN} {x : Rn} {rs : List RawN} (hl : rs.length = xs.length) (hown : w.ownsRow base 48 3 v xs.length (flatN rs)) (hr : ∀ i (h : i < xs.length) (h' : i < rs.length), PickRn w base rs[i] xs[i]) (hx : PickRn w base r x) (hg : w.grownBy w' v.ownBlock) (h : w'.ownsRow base 48 3 v' (xs.length + 1) (flatN rs ++ r.cells)) :
    RunRow w' base v' (xs ++ [x]) := by
  have hne : ∀ g cur, w.heap[g]? = some (.cells cur 99 (0, 0)) → some g ≠ v.ownBlock := fun g cur e => row_typed hown e (by decide)
  refine ⟨rs ++ [r], by simp [hl], ?_, fun i hi hi' => ?_⟩
  · rw [flatN_append, List.length_append]
    show w'.ownsRow base _ 3 v' (xs.length + 1) (flatN rs ++ (r.cells ++ []))
    rw [List.append_nil]; exact h
  · by_cases e : i < xs.length
    · rw [List.getElem_append_left (by omega), List.getElem_append_left e]
      exact (hr i e (by omega)).kept hg hne
    · have : i = xs.length := by simp at hi; omega
      subst this
      have e1 : (rs ++ [r])[xs.length] = r := by rw [List.getElem_append_right (by omega)]; simp [hl]
      have e2 : (xs ++ [x])[xs.length] = x := by simp
      rw [e1, e2]
      exact hx.kept hg hne

theorem RunRow.kept {w w' : World} {base : Nat} {row : Option Nat} {v : Value} {xs : List Rn} (h : RunRow w base v xs) (hg : w.grownBy w' row) (hne : ∀ (g : Nat) cur t, w.heap[g]? = some (.cells cur t (0, 0)) → t = 99 ∨ t = 48 → some g ≠ row) : RunRow w' base v xs := by
  obtain ⟨rs, h1, h2, h3⟩ := h
  refine ⟨rs, h1, h2.kept hg ?_, fun i hi hi' => (h3 i hi hi').kept hg (fun g cur e => hne g cur _ e (Or.inl rfl))⟩
  rcases h2.2 with ⟨rfl, _⟩ | ⟨g, c, cur, rfl, _, hh, _⟩
  · exact Or.inl rfl
  · exact Or.inr (by simpa [Value.ownBlock] using hne g cur _ hh (Or.inr rfl))

theorem RunRow.below {w w' : World} {base : Nat} {v : Value} {xs : List Rn} (h : RunRow w base v xs) (hb : Below w.heap.size w w') : RunRow w' base v xs := h.kept (below_grownX hb) (fun g cur t _ _ => by simp)

theorem RunRow.runs {w : World} {base : Nat} {v : Value} {xs : List Rn} (h : RunRow w base v xs) : ∃ p cap, v = .slice p xs.length cap ∧ RunsAt w p xs ∧ xs.length ≤ cap := by
  obtain ⟨rs, h1, h2, h3⟩ := h
  rcases h2.2 with ⟨rfl, h0⟩ | ⟨g, c, cur, rfl, hb, hh, hc, _⟩
  · have : xs = [] := List.length_eq_zero_iff.1 h0
    subst this
    exact ⟨none, 0, rfl, Or.inl rfl, Nat.le_refl _⟩
  · refine ⟨_, c, rfl, Or.inr ⟨g, 0, rfl, (Array.getElem?_eq_some_iff.1 hh).1, fun i hi => ?_⟩, hc⟩
    obtain ⟨g2, cap2, e, hown, h4, h5⟩ := h3 i hi (by omega)
    obtain ⟨f0, f1, f2⟩ := flatN_get rs i (by omega)
    rw [e] at f0 f1 f2
    rw [Nat.zero_add]
    exact ⟨_, _, (h2.cellAt (i * 3) (by omega)).trans f0, (h2.cellAt (i * 3 + 1) (by omega)).trans f1, (h2.cellAt (i * 3 + 2) (by omega)).trans f2, stepsAt_owns hown rfl, h4, h5⟩

/-- the run of a piece -/
def runOf (l : List At) (p : Nat × Nat) : Rn := ⟨(l[p.1]?.getD ⟨[], 0, 0⟩).path, (l[p.1]?.getD ⟨[], 0, 0⟩).clock, txtS (part l p.1 (p.2 - p.1))⟩
/-- the runs of atoms -/
def runsL (l : List At) : List Rn := (pst l l.length).1.map (runOf l)

theorem Tryz.info48 : ∃ i, Tryz.prog.info? 48 = some i ∧ i.zero = some (.agg #[.slice none 0 0, .int .i64 0, .string ⟨#[]⟩]) ∧ i.size = 3 ∧ i.bytes = 48 := by
  have h : (Tryz.prog.info? 48).map (fun i => (i.zero, i.size, i.bytes)) = some (some (.agg #[.slice none 0 0, .int .i64 0, .string ⟨#[]⟩]), 3, 48) := by kernel_rfl
  rw [Option.map_eq_some_iff] at h
  obtain ⟨i, hi, he⟩ := h
  simp only [Prod.mk.injEq] at he
  exact ⟨i, hi, he⟩

set_option maxRecDepth 100000 in
set_option maxHeartbeats 2000000 in
theorem runs_bad (a : Option Addr) (cap : Nat) (l : List At) (w : World) (hl : l.length ≤ maxLen) (h : AtomsAt w a l) (h0 : chkL l ≠ 0) :
    Calls Tryz.prog 48 #[.slice a l.length cap] w fun e w' => e = .returned (.tuple #[.slice none 0 0, .int .i64 (chkL l)]) ∧ Below w.heap.size w w' := by
  have hx : (chkL l != 0) = true := bne_iff_ne.2 h0
  clear h0
  go_enter Tryz.func48, Tryz.ntmps48
  go_wp2_with fail
  refine (atomCheck_any _ _ l _ hl h).mono ?_
  rintro e w2 ⟨rfl, hb2⟩
  go_wp2_with fail
  refine bodyPost_ret (v := .tuple #[.slice none 0 0, .int .i64 (chkL l)]) (by simp [results, Tryz.results48, go_sem]) rfl ?_
  exact ⟨rfl, hb2⟩
end Go.Proofs.YtnhjebdlcbhkcacGreat

namespace Go.Proofs.YtnhjebdlcbhkcacGreat
open Go.RowKit Go.Shelf
attribute [local go_sem] Oper.semAt_some

/-- the i-th atom of a run -/
def runAt (l : List (Int × Int)) (c : Int) (t : ByteArray) (i : Nat) : At := ⟨bump l i, c + i, (t.data.toList.getD i 0).toNat⟩
/-- its atoms -/
def atomsR (l : List (Int × Int)) (c : Int) (t : ByteArray) : List At := (List.range t.size).map (runAt l c t)

theorem bump_len (l : List (Int × Int)) (n : Int) : (bump l n).length = l.length := bump_len' l n
theorem lastS_bump {l : List (Int × Int)} (h : 0 < l.length) (n : Int) : lastS (bump l n) = ((lastS l).1 + n, (lastS l).2) := by
  unfold lastS bump setL
  rw [List.length_set, List.getD_eq_getElem?_getD, List.getElem?_set_self (by omega)]; rfl

theorem okSteps_bump {l : List (Int × Int)} {n m : Int} (h : 0 < l.length) (h0 : okSteps l = true) (hm : okSteps (bump l m) = true) (hn0 : 0 ≤ n) (hnm : n ≤ m) : okSteps (bump l n) = true := by
  refine okSteps_true (fun i hi => ?_)
  rw [bump_len] at hi
  by_cases e : i = l.length - 1
  · subst e
    have h1 := okStep_iff.1 (okSteps_get h0 (i := l.length - 1) (by omega))
    have h2 := okStep_iff.1 (okSteps_get hm (i := l.length - 1) (by rw [bump_len]; omega))
    have e1 : (bump l m)[l.length - 1]'(by rw [bump_len]; omega) = ((lastS l).1 + m, (lastS l).2) := by unfold bump setL; simp
    have e2 : (bump l n)[l.length - 1]'(by rw [bump_len]; omega) = ((lastS l).1 + n, (lastS l).2) := by unfold bump setL; simp
    have e3 : l[l.length - 1]'(by omega) = lastS l := (lastS_eq h).symm
    rw [e1] at h2
    rw [e3] at h1
    rw [e2]
    exact okStep_iff.2 ⟨by simp only; omega, by simp only at h2 ⊢; omega, h2.2.2.1, h2.2.2.2⟩
  · have e2 : (bump l n)[i]'(by rw [bump_len]; omega) = l[i] := by unfold bump setL; rw [List.getElem_set_ne (by omega)]
    rw [e2]
    exact okSteps_get h0 hi

theorem chk_mk {l : List (Int × Int)} {c : Int} (h1 : 0 < l.length) (h2 : l.length ≤ 10) (h3 : okSteps l = true) (h4 : (lastS l).1 ≠ 0) (h5 : 1 ≤ c) (h6 : c ≤ 10000) : chk l c = 0 := by
  unfold chk
  rw [if_neg (by omega), if_neg (by omega), if_pos]
  simp [h3, h4, inB, h5, h6]

theorem chk_bump {l : List (Int × Int)} {c n m : Int} (h : chk l c = 0) (hm : chk (bump l m) (c + m) = 0) (h0 : 0 ≤ n) (hnm : n ≤ m) : chk (bump l n) (c + n) = 0 := by
  obtain ⟨a1, a2, a3, a4, a5, a6⟩ := chk_ok h
  obtain ⟨b1, b2, b3, b4, b5, b6⟩ := chk_ok hm
  refine chk_mk (by rw [bump_len]; exact a1) (by rw [bump_len]; exact a2) (okSteps_bump a1 a3 b3 h0 hnm) ?_ (by omega) (by omega)
  rw [lastS_bump a1]
  have h1 := okStep_iff.1 (okSteps_get a3 (i := l.length - 1) (by omega))
  rw [← lastS_eq a1] at h1
  simp only
  omega

/-- what Check of a run lets through -/
structure OkRun (l : List (Int × Int)) (c : Int) (t : ByteArray) : Prop where
  mark : chk l c = 0
  len0 : 0 < t.size
  len : t.size ≤ 60
  signs : allS t.data.toList = true
  each : ∀ i : Nat, i < t.size → chk (bump l i) (c + i) = 0

theorem okRun_of {l : List (Int × Int)} {c : Int} {t : ByteArray} (h : chkRun l c t = 0) : OkRun l c t := by
  unfold chkRun at h
  by_cases h0 : chk l c = 0
  rotate_left
  · rw [if_pos h0] at h; exact absurd h h0
  rw [if_neg (by omega)] at h
  by_cases h1 : t.size = 0
  · rw [if_pos h1] at h; exact absurd h (by decide)
  rw [if_neg h1] at h
  by_cases h2 : 60 < t.size
  · rw [if_pos h2] at h; exact absurd h (by decide)
  rw [if_neg h2] at h
  cases h3 : allS t.data.toList
  · rw [if_pos h3] at h; exact absurd h (by decide)
  rw [if_neg (by rw [h3]; decide)] at h
  unfold nxt at h
  rw [if_neg (by omega), if_neg (by omega)] at h
  by_cases h4 : chk (bump l ((t.size : Int) - 1)) (c + ((t.size : Int) - 1)) = 0
  rotate_left
  · rw [if_pos h4] at h; exact absurd h (by decide)
  exact ⟨h0, by omega, by omega, h3, fun i hi => chk_bump h0 h4 (by omega) (by omega)⟩

/-- what a round keeps: all below n₀, and every cell that is no atom's and no list's of atoms -/
def KpA (n₀ : Nat) (W W' : World) : Prop := Below n₀ W W' ∧ ∀ (k : Nat) (cur : Array Value) (t : TypeId), t ≠ 66 → t ≠ 22 → W.heap[k]? = some (Obj.cells cur t (0, 0)) → W'.heap[k]? = some (Obj.cells cur t (0, 0))

theorem KpA.trans {n₀ : Nat} {A B C : World} (h : KpA n₀ A B) (k : KpA n₀ B C) : KpA n₀ A C := ⟨h.1.trans k.1, fun i cur t h1 h2 h3 => k.2 i cur t h1 h2 (h.2 i cur t h1 h2 h3)⟩
theorem KpA.put {n₀ B : Nat} (hn : n₀ ≤ B) (W : World) (l : Nat) (o o' : Obj) (hl : B ≤ l) (h : W.heap[l]? = some o) (hc : o.isCells = false) (_ : o.isWalk = false) : KpA n₀ W (W.putObj l o') := by
  refine ⟨⟨rfl, rfl, rfl, by simp [World.putObj], fun k hk => World.putObj_heap_other (by omega)⟩, fun k cur t _ _ hk => ?_⟩
  by_cases e : k = l
  · subst e; rw [h] at hk; cases hk; cases hc
  · rw [World.putObj_heap_other e]; exact hk
theorem PickRaw.keptA {n₀ base : Nat} {W W' : World} {r : Raw} {x : At} (h : PickRaw W base r x) (hk : KpA n₀ W W') : PickRaw W' base r x := by
  obtain ⟨g, cap, rfl, ⟨h1, h2⟩, h3⟩ := h
  refine ⟨g, cap, rfl, ⟨h1, ?_⟩, h3⟩
  rcases h2 with h2 | ⟨g', c', cur, hv, hb, hg, r⟩
  · exact Or.inl h2
  · exact Or.inr ⟨g', c', cur, hv, hb, hk.2 _ _ _ (by decide) (by decide) hg, r⟩
theorem KpA.below {n₀ : Nat} {W W' : World} (hb : Below W.heap.size W W') (hn : n₀ ≤ W.heap.size) : KpA n₀ W W' := by
  refine ⟨hb.mono hn, fun k cur t _ _ hk => ?_⟩
  have hlt : k < W.heap.size := (Array.getElem?_eq_some_iff.1 hk).1
  rw [hb.block k hlt]; exact hk

/-- an atom as one value -/
def encA (r : Raw) : Array Value := #[.agg #[.slice r.p r.n r.cap, .int .i64 r.clock, .int .u8 r.sign]]

theorem cell_of {W : World} {B j : Nat} {cs : Array Value} {t : TypeId} {v : Value} (h : W.heap[B]? = some (.cells cs t (0, 0))) (hj : cs[j]? = some v) : W.cell? ⟨B, j, none⟩ = some v := by
  simp [World.cell?, h, hj]

theorem below_grown {W W' : World} (hb : Below W.heap.size W W') : W.grownBy W' none := ⟨hb.os, hb.tape, hb.output, hb.size, fun k hk _ => hb.block k hk⟩

set_option maxRecDepth 100000 in
set_option maxHeartbeats 4000000 in
theorem each1_in (n : Nat) (hn : 1 ≤ n) (B b off cap n₀ : Nat) (l : List (Int × Int)) (c : Int) (t : ByteArray) (w : World) (ok : OkRun l c t) (hn₀ : n₀ ≤ w.heap.size) (hB : w.heap[B]? = some (.cells #[.slice (some ⟨b, off, none⟩) l.length cap, .int .i64 c, .string t] 48 (0, 0))) (hb : b < n₀) (hs : StepsAt w (some ⟨b, off, none⟩) l) :
    SeqW Fence.wide n Tryz.prog 141 #[.pointer (some ⟨B, 0, none⟩)] encA (KpA n₀) (fun xs W' => xs.length = t.size ∧ ∀ i (h : i < xs.length), PickRaw W' n₀ xs[i] (runAt l c t i)) t.size w := by
  intro lp J W hbW hJ hY h0
  show CallsIn Fence.wide n Tryz.prog 141 #[.func (.yield lp) #[] #[], .pointer (some ⟨B, 0, none⟩)] W _
  refine callsIn_of_wp Tryz.func141 rfl trivial ?_ rfl
  simp only [Tryz.ntmps141, List.size_toArray, List.length_cons, List.length_nil, Nat.reduceAdd, Nat.reduceSub, Array.replicate_succ, Array.replicate_zero, List.push_toArray, List.append_toArray, List.nil_append, List.cons_append]
  have hBlt : B < w.heap.size := (Array.getElem?_eq_some_iff.1 hB).1
  have hBW : W.heap[B]? = some (.cells #[.slice (some ⟨b, off, none⟩) l.length cap, .int .i64 c, .string t] 48 (0, 0)) := (hbW.block B hBlt).trans hB
  have r2 : W.cell? ⟨B, 2, none⟩ = some (.string t) := cell_of hBW rfl
  have ht60 := ok.len
  have hsW := hs.below hbW (Nat.le_refl _)
  have hWn : n₀ ≤ W.heap.size := Nat.le_trans hn₀ hbW.size
  have HOK := hidE ok
  clear ok hs
  gi_wp2
  gi_loopw [9] (fun i wr => ∃ (k : Nat) (pre : List Raw), k ≤ t.size ∧ i = .int .i64 k ∧ pre.length = k ∧ (∀ i (h : i < pre.length), PickRaw wr n₀ pre[i] (runAt l c t i)) ∧ J pre wr ∧ wr.heap[B]? = some (.cells #[.slice (some ⟨b, off, none⟩) l.length cap, .int .i64 c, .string t] 48 (0, 0)) ∧ Below n₀ W wr) (fun i _ => t.size - (intOf i).toNat)
  case atStart => exact ⟨0, [], Nat.zero_le _, rfl, rfl, fun i h => by simp at h, h0, hBW, Below.refl _ _⟩
  case round =>
    obtain ⟨k, pre, hk, rfl, hpl, hraws, hJk, hBk, hbk⟩ := hrel
    have HR := hidE hraws
    clear hraws r2 hBW h0
    have q0 : wr.cell? ⟨B, 0, none⟩ = some (.slice (some ⟨b, off, none⟩) l.length cap) := cell_of hBk rfl
    have q1 : wr.cell? ⟨B, 1, none⟩ = some (.int .i64 c) := cell_of hBk rfl
    have q2 : wr.cell? ⟨B, 2, none⟩ = some (.string t) := cell_of hBk rfl
    have hBl : B < wr.heap.size := (Array.getElem?_eq_some_iff.1 hBk).1
    have hnr : n₀ ≤ wr.heap.size := Nat.le_trans hWn hbk.size
    by_cases hlt : k < t.size
    · have hi1 : (k : Int) < t.size := by omega
      have hsr : StepsAt wr (some ⟨b, off, none⟩) l := by
        rcases hsW with e | ⟨b', off', e, hbl, hc⟩
        · exact Or.inl e
        · cases e
          refine Or.inr ⟨b, off, rfl, by omega, fun i hi => ?_⟩
          exact ⟨(hbk.cell (p := ⟨b, off + i * 2, none⟩) hb).trans (hc i hi).1, (hbk.cell (p := ⟨b, off + i * 2 + 1, none⟩) hb).trans (hc i hi).2⟩
      gi_wp2_with fail
      refine ⟨trivial, (callsIn_wide.2 (next_own b off _ l c k _ hsr HOK.out.mark (by omega) (by omega) (HOK.out.each k hlt))).mono ?_⟩
      rintro e w2 ⟨g, cap2, rfl, hown, hb2⟩
      gi_upto_region 4 with fail
      have hb3 := hb2.alloc hb2.size (.cells #[.slice (some ⟨g, 0, none⟩) l.length cap2, .int .i64 (c + k)] 46)
      have hown3 := hown.alloc (.cells #[.slice (some ⟨g, 0, none⟩) l.length cap2, .int .i64 (c + k)] 46)
      have m0 : (w2.alloc (.cells #[.slice (some ⟨g, 0, none⟩) l.length cap2, .int .i64 (c + k)] 46)).cell? ⟨w2.heap.size, 0, none⟩ = some (.slice (some ⟨g, 0, none⟩) l.length cap2) := by simp
      have m1 : (w2.alloc (.cells #[.slice (some ⟨g, 0, none⟩) l.length cap2, .int .i64 (c + k)] 46)).cell? ⟨w2.heap.size, 1, none⟩ = some (.int .i64 (c + k)) := by simp
      generalize w2.alloc (.cells #[.slice (some ⟨g, 0, none⟩) l.length cap2, .int .i64 (c + k)] 46) = w3 at hb3 hown3 m0 m1 ⊢
      replace q2 := (hb3.cell (p := ⟨B, 2, none⟩) hBl).trans q2
      have hJ3 := hJ pre wr w3 none hJk (below_grown hb3) (fun r e => by cases e)
      have hBk3 := (hb3.block B hBl).trans hBk
      have hr := u8_range t[k]
      obtain ⟨fn, tmps, assign, body, hy, hR⟩ := hY pre ⟨some ⟨g, 0, none⟩, l.length, cap2, c + k, t[k].toNat⟩ w3.drew (hJ pre w3 w3.drew none hJ3 ⟨rfl, rfl, rfl, Nat.le_refl _, fun _ _ _ => rfl⟩ (fun r e => by cases e)) (by omega)
      dsimp only [encA] at hy
      clear q0 q1 hown hb2
      have hraw : PickRaw w3.drew n₀ ⟨some ⟨g, 0, none⟩, l.length, cap2, c + k, t[k].toNat⟩ (runAt l c t k) := by
        have e : runAt l c t k = ⟨bump l k, c + k, t[k].toNat⟩ := by
          unfold runAt
          rw [List.getD_eq_getElem?_getD, List.getElem?_eq_getElem (by simpa using hlt)]; rfl
        rw [e]
        refine ⟨g, cap2, by rw [bump_len], ?_, ?_, hr.1, hr.2⟩
        · show World.ownsRow _ _ _ _ (.slice _ (bump l k).length _) (bump l k).length (flatS (bump l k))
          rw [bump_len]
          exact owns_base hown3 hnr
        · rw [bump_len]
          have := (chk_ok HOK.out.mark).2.1
          unfold maxLen; omega
      have hkd : KpA n₀ wr w3.drew := KpA.below hb3.drew hnr
      gi_region_with (refine hR.mono ?_; rintro e W4 ⟨rfl, hJ4, hk4⟩)
      all_goals
        gi_wp2
        go_roundw
        case rel =>
          refine ⟨k + 1, pre ++ [⟨some ⟨g, 0, none⟩, l.length, cap2, c + k, t[k].toNat⟩], by omega, by go_num, by simp [hpl], fun i hi => ?_, hJ4, hk4.2 _ _ _ (by decide) (by decide) hBk3, hbk.trans (hkd.trans hk4).1⟩
          by_cases e : i < pre.length
          · rw [List.getElem_append_left e]
            exact ((HR.out i e).keptA hkd).keptA hk4
          · have : i = k := by simp at hi; omega
            subst this
            rw [List.getElem_append_right (by omega)]
            simp only [hpl, Nat.sub_self, List.getElem_cons_zero]
            exact hraw.keptA hk4
        case measure => simp [intOf]; omega
    · have hkt : k = t.size := by omega
      gi_wp2
      go_end0
      exact ⟨⟨_, rfl⟩, pre, ⟨by omega, HR.out⟩, hJk⟩

set_option maxHeartbeats 1000000 in
theorem each_any (v0 v1 v2 : Value) (w : World) :
    Calls Tryz.prog 135 #[.agg #[v0, v1, v2]] w fun e w' => e = .returned (.func (.func 141) #[] #[.pointer (some ⟨w.heap.size, 0, none⟩)]) ∧ w' = w.alloc (.cells #[v0, v1, v2] 48) := by
  go_enter Tryz.func135, Tryz.ntmps135
  go_wp2
  go_ret
  exact ⟨rfl, rfl⟩
end Go.Proofs.YtnhjebdlcbhkcacGreat
