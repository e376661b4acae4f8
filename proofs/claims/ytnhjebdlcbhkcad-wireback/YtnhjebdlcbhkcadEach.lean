/- Contract of run.each and its iterator. -/
import Derived.Test.YtnhjebdlcbhkcadRfLaw
import Derived.Test.YtnhjebdlcbhkcadRunCk
import Derived.Test.YtnhjebdlcbhkcadPickR
namespace Go.Proofs.Ytnhjebdlcbhkcad
open Go.RowKit Go.Shelf
attribute [local go_sem] Oper.semAt_some

/-- the i-th atom of a run -/
def runAt (l : List (Int × Int)) (c : Int) (t : ByteArray) (i : Nat) : At := ⟨bump l i, c + i, (t.data.toList.getD i 0).toNat⟩
/-- its atoms -/
def atomsR (l : List (Int × Int)) (c : Int) (t : ByteArray) : List At := (List.range t.size).map (runAt l c t)

theorem bump_len (l : List (Int × Int)) (n : Int) : (bump l n).length = l.length := bump_len' l n
theorem lastS_bump {l : List (Int × Int)} (h : 0 < l.length) (n : Int) : lastS (bump l n) = ((lastS l).1 + n, (lastS l).2) := by
  unfold lastS bump setL
  rw [List.length_set, List.getD_eq_getElem?_getD, List.getElem?_set_self (by omega)]; rfl

theorem okSteps_bump {l : List (Int × Int)} {n m : Int} (h : 0 < l.length) (h0 : okSteps l = true) (hm : okSteps (bump l m) = true) (hn0 : 0 ≤ n) (hnm : n ≤ m) : okSteps (bump l n) = true := by
  refine okSteps_true (fun i hi => ?_)
  rw [bump_len] at hi
  by_cases e : i = l.length - 1
  · subst e
    have h1 := okStep_iff.1 (okSteps_get h0 (i := l.length - 1) (by omega))
    have h2 := okStep_iff.1 (okSteps_get hm (i := l.length - 1) (by rw [bump_len]; omega))
    have e1 : (bump l m)[l.length - 1]'(by rw [bump_len]; omega) = ((lastS l).1 + m, (lastS l).2) := by unfold bump setL; simp
    have e2 : (bump l n)[l.length - 1]'(by rw [bump_len]; omega) = ((lastS l).1 + n, (lastS l).2) := by unfold bump setL; simp
    have e3 : l[l.length - 1]'(by omega) = lastS l := (lastS_eq h).symm
    rw [e1] at h2
    rw [e3] at h1
    rw [e2]
    exact okStep_iff.2 ⟨by simp only; omega, by simp only at h2 ⊢; omega, h2.2.2.1, h2.2.2.2⟩
  · have e2 : (bump l n)[i]'(by rw [bump_len]; omega) = l[i] := by unfold bump setL; rw [List.getElem_set_ne (by omega)]
    rw [e2]
    exact okSteps_get h0 hi

theorem chk_mk {l : List (Int × Int)} {c : Int} (h1 : 0 < l.length) (h2 : l.length ≤ 10) (h3 : okSteps l = true) (h4 : (lastS l).1 ≠ 0) (h5 : 1 ≤ c) (h6 : c ≤ 10000) : chk l c = 0 := by
  unfold chk
  rw [if_neg (by omega), if_neg (by omega), if_pos]
  simp [h3, h4, inB, h5, h6]

theorem chk_bump {l : List (Int × Int)} {c n m : Int} (h : chk l c = 0) (hm : chk (bump l m) (c + m) = 0) (h0 : 0 ≤ n) (hnm : n ≤ m) : chk (bump l n) (c + n) = 0 := by
  obtain ⟨a1, a2, a3, a4, a5, a6⟩ := chk_ok h
  obtain ⟨b1, b2, b3, b4, b5, b6⟩ := chk_ok hm
  refine chk_mk (by rw [bump_len]; exact a1) (by rw [bump_len]; exact a2) (okSteps_bump a1 a3 b3 h0 hnm) ?_ (by omega) (by omega)
  rw [lastS_bump a1]
  have h1 := okStep_iff.1 (okSteps_get a3 (i := l.length - 1) (by omega))
  rw [← lastS_eq a1] at h1
  simp only
  omega

/-- what Check of a run lets through -/
structure OkRun (l : List (Int × Int)) (c : Int) (t : ByteArray) : Prop where
  mark : chk l c = 0
  len0 : 0 < t.size
  len : t.size ≤ 60
  signs : allS t.data.toList = true
  each : ∀ i : Nat, i < t.size → chk (bump l i) (c + i) = 0

theorem okRun_of {l : List (Int × Int)} {c : Int} {t : ByteArray} (h : chkRun l c t = 0) : OkRun l c t := by
  unfold chkRun at h
  by_cases h0 : chk l c = 0
  rotate_left
  · rw [if_pos h0] at h; exact absurd h h0
  rw [if_neg (by omega)] at h
  by_cases h1 : t.size = 0
  · rw [if_pos h1] at h; exact absurd h (by decide)
  rw [if_neg h1] at h
  by_cases h2 : 60 < t.size
  · rw [if_pos h2] at h; exact absurd h (by decide)
  rw [if_neg h2] at h
  cases h3 : allS t.data.toList
  · rw [if_pos h3] at h; exact absurd h (by decide)
  rw [if_neg (by rw [h3]; decide)] at h
  unfold nxt at h
  rw [if_neg (by omega), if_neg (by omega)] at h
  by_cases h4 : chk (bump l ((t.size : Int) - 1)) (c + ((t.size : Int) - 1)) = 0
  rotate_left
  · rw [if_pos h4] at h; exact absurd h (by decide)
  exact ⟨h0, by omega, by omega, h3, fun i hi => chk_bump h0 h4 (by omega) (by omega)⟩

/-- what a round keeps: all below n₀, and every cell that is no atom's and no list's of atoms -/
def KpA (n₀ : Nat) (W W' : World) : Prop := Below n₀ W W' ∧ ∀ (k : Nat) (cur : Array Value) (t : TypeId), t ≠ 72 → t ≠ 22 → W.heap[k]? = some (Obj.cells cur t (0, 0)) → W'.heap[k]? = some (Obj.cells cur t (0, 0))

theorem KpA.trans {n₀ : Nat} {A B C : World} (h : KpA n₀ A B) (k : KpA n₀ B C) : KpA n₀ A C := ⟨h.1.trans k.1, fun i cur t h1 h2 h3 => k.2 i cur t h1 h2 (h.2 i cur t h1 h2 h3)⟩
theorem KpA.put {n₀ B : Nat} (hn : n₀ ≤ B) (W : World) (l : Nat) (o o' : Obj) (hl : B ≤ l) (h : W.heap[l]? = some o) (hc : o.isCells = false) (_ : o.isWalk = false) : KpA n₀ W (W.putObj l o') := by
  refine ⟨⟨rfl, rfl, rfl, by simp [World.putObj], fun k hk => World.putObj_heap_other (by omega)⟩, fun k cur t _ _ hk => ?_⟩
  by_cases e : k = l
  · subst e; rw [h] at hk; cases hk; cases hc
  · rw [World.putObj_heap_other e]; exact hk
theorem PickRaw.keptA {n₀ base : Nat} {W W' : World} {r : Raw} {x : At} (h : PickRaw W base r x) (hk : KpA n₀ W W') : PickRaw W' base r x := by
  obtain ⟨g, cap, rfl, ⟨h1, h2⟩, h3⟩ := h
  refine ⟨g, cap, rfl, ⟨h1, ?_⟩, h3⟩
  rcases h2 with h2 | ⟨g', c', cur, hv, hb, hg, r⟩
  · exact Or.inl h2
  · exact Or.inr ⟨g', c', cur, hv, hb, hk.2 _ _ _ (by decide) (by decide) hg, r⟩
theorem KpA.below {n₀ : Nat} {W W' : World} (hb : Below W.heap.size W W') (hn : n₀ ≤ W.heap.size) : KpA n₀ W W' := by
  refine ⟨hb.mono hn, fun k cur t _ _ hk => ?_⟩
  have hlt : k < W.heap.size := (Array.getElem?_eq_some_iff.1 hk).1
  rw [hb.block k hlt]; exact hk

/-- an atom as one value -/
def encA (r : Raw) : Array Value := #[.agg #[.slice r.p r.n r.cap, .int .i64 r.clock, .int .u8 r.sign]]

theorem cell_of {W : World} {B j : Nat} {cs : Array Value} {t : TypeId} {v : Value} (h : W.heap[B]? = some (.cells cs t (0, 0))) (hj : cs[j]? = some v) : W.cell? ⟨B, j, none⟩ = some v := by
  simp [World.cell?, h, hj]

theorem below_grown {W W' : World} (hb : Below W.heap.size W W') : W.grownBy W' none := ⟨hb.os, hb.tape, hb.output, hb.size, fun k hk _ => hb.block k hk⟩

end Go.Proofs.Ytnhjebdlcbhkcad
