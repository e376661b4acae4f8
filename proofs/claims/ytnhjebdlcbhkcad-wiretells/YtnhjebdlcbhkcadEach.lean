/- Contract of run.each and its iterator. -/
import Derived.Test.YtnhjebdlcbhkcadPutA
import Derived.Deep.RegionHeldLaw
import Derived.Test.YtnhjebdlcbhkcadRfLaw
import Derived.Test.YtnhjebdlcbhkcadRunCk
namespace Go.Proofs.Ytnhjebdlcbhkcad
open Go.RowKit

theorem step_append_own {P : Program} {ops : Array Oper} {o : Oper} {a : Act} {w : World} {K : Act → World → Prop} {Q : Exit → Act → World → Prop} {E : Prop}
    (hg : o.guard = none) (s x : Operand) (t : TypeId) (hop : o.op = Op.call { callee := Callee.builtin Builtin.append, args := #[s, x], argTypes := #[t, t] }) (base : Nat)
    (e : TypeId) (i : TypeInfo) (z : Value) (size bytes : Nat) (h1 : P.underlying t = some (.slice e)) (h2 : P.info? e = some i) (h3 : i.zero = some z) (h4 : i.size = size) (h5 : i.bytes = bytes) (h6 : z.cells.size = size) (h7 : 0 < size)
    (v : Value) (n : Nat) (olds : List Value) (hs : a.eval s = v) (hown : w.ownsRow base e size v n olds)
    (ad : Addr) (m c : Nat) (news : List Value) (hx : a.eval x = .slice (some ad) m c) (hn : news.length = m * size) (hc : ∀ j u, news[j]? = some u → w.cell? (ad.add j) = some u) (h1c : ∀ u ∈ news, u.oneCell' = true)
    (b1 : n + m ≤ maxLen) (b2 : (n + m) * bytes ≤ 140737488355328) (hb : base ≤ w.heap.size)
    (hK : ∀ v' w', w'.ownsRow base e size v' (n + m) (olds ++ news) → w.grownBy w' v.ownBlock → K (a.put o.dst v') w') :
    if Region.wanted o (yielded ops a.tmps) = true then Oper.wp P o a w K Q else E := by
  have hw : Region.wanted o (yielded ops a.tmps) = true := by simp [Region.wanted, hg]
  rw [if_pos hw]
  obtain ⟨v', w', hrun, r1, r2, _⟩ := run_append_own (P := P) w base t o.type e i z size bytes h1 h2 h3 h4 h5 h6 h7 v n olds hown ad m c news hn hc h1c b1 b2 hb
  unfold Oper.wp
  simp [execOp, hop, resolve, invoke, builtin, hs, hx, hrun, Result.andThen]
  exact hK v' w' r1 r2

/-- an atom's cells whose path is the call's own -/
def PickRaw (w : World) (base : Nat) (r : Raw) (x : At) : Prop :=
  ∃ g cap, r = ⟨some ⟨g, 0, none⟩, x.path.length, cap, x.clock, x.sign⟩ ∧ w.ownsRow base 110 2 (.slice (some ⟨g, 0, none⟩) x.path.length cap) x.path.length (flatS x.path) ∧ x.path.length ≤ maxLen ∧ 0 ≤ x.sign ∧ x.sign ≤ 255

theorem types_ne {w : World} {base base' g n cap m : Nat} {v : Value} {xs ys : List Value} (h : w.ownsRow base 110 2 (.slice (some ⟨g, 0, none⟩) n cap) n xs) (h' : w.ownsRow base' 72 3 v m ys) : some g ≠ v.ownBlock := by
  intro e
  rcases h.2 with ⟨hc, _⟩ | ⟨g1, c1, cur, h1, _, h2, _⟩
  · simp at hc
  have hg : g1 = g := by simp at h1; exact h1.1.symm
  subst hg
  rcases h'.2 with ⟨rfl, _⟩ | ⟨g2, c2, cur2, rfl, _, h3, _⟩
  · simp [Value.ownBlock] at e
  · simp [Value.ownBlock] at e
    subst e
    rw [h2] at h3
    simp at h3

theorem PickRaw.kept {w w' : World} {base : Nat} {row : Option Nat} {r : Raw} {x : At} (h : PickRaw w base r x) (hg : w.grownBy w' row) (hne : ∀ g cap, r.p = some ⟨g, 0, none⟩ → w.ownsRow base 110 2 (.slice (some ⟨g, 0, none⟩) x.path.length cap) x.path.length (flatS x.path) → some g ≠ row) : PickRaw w' base r x := by
  obtain ⟨g, cap, rfl, hown, h1⟩ := h
  exact ⟨g, cap, rfl, hown.kept hg (Or.inr (by have := hne g cap rfl hown; simpa [Value.ownBlock] using this)), h1⟩

theorem PickRaw.below {w w' : World} {base : Nat} {r : Raw} {x : At} (h : PickRaw w base r x) (hb : Below w.heap.size w w') : PickRaw w' base r x := by
  obtain ⟨g, cap, rfl, hown, h1⟩ := h
  exact ⟨g, cap, rfl, owns_below hown hb, h1⟩

theorem PickRaw.raw {w : World} {base : Nat} {r : Raw} {x : At} (h : PickRaw w base r x) : RawOf w r x := by
  obtain ⟨g, cap, rfl, hown, h1, h2, h3⟩ := h
  refine ⟨rfl, rfl, rfl, stepsAt_owns hown rfl, h1, ?_, h2, h3⟩
  rcases hown.2 with ⟨hc, _⟩ | ⟨g1, c1, cur, e1, _, _, hc, _⟩
  · simp at hc
  · simp at e1; rw [e1.2]; exact hc

/-- a row of atoms, all of it the call's own -/
def PickRow (w : World) (base : Nat) (v : Value) (xs : List At) : Prop :=
  ∃ rs : List Raw, rs.length = xs.length ∧ w.ownsRow base 72 3 v xs.length (flatR rs) ∧ ∀ i (h : i < xs.length) (h' : i < rs.length), PickRaw w base rs[i] xs[i]

theorem PickRow.owns {w : World} {base : Nat} {v : Value} {xs : List At} (h : PickRow w base v xs) : OwnsA w w base v xs := by
  obtain ⟨rs, h1, h2, h3⟩ := h
  exact ⟨rs, h1, h2, fun i h h' => (h3 i h h').raw⟩

theorem PickRow.below {w w' : World} {base : Nat} {v : Value} {xs : List At} (h : PickRow w base v xs) (hb : Below w.heap.size w w') : PickRow w' base v xs := by
  obtain ⟨rs, h1, h2, h3⟩ := h
  exact ⟨rs, h1, owns_below h2 hb, fun i h h' => (h3 i h h').below hb⟩

theorem PickRow.mono {w : World} {base base' : Nat} {v : Value} {xs : List At} (h : PickRow w base v xs) (hb : base' ≤ base) : PickRow w base' v xs := by
  obtain ⟨rs, h1, h2, h3⟩ := h
  refine ⟨rs, h1, owns_base h2 hb, fun i h h' => ?_⟩
  obtain ⟨g, cap, e, hown, h4⟩ := h3 i h h'
  exact ⟨g, cap, e, owns_base hown hb, h4⟩

theorem PickRow.snoc {w w' : World} {base : Nat} {v v' : Value} {xs : List At} {r : Raw} {x : At} {rs : List Raw} (hl : rs.length = xs.length) (hown : w.ownsRow base 72 3 v xs.length (flatR rs)) (hr : ∀ i (h : i < xs.length) (h' : i < rs.length), PickRaw w base rs[i] xs[i]) (hx : PickRaw w base r x) (hg : w.grownBy w' v.ownBlock) (h : w'.ownsRow base 72 3 v' (xs.length + 1) (flatR rs ++ r.cells)) :
    PickRow w' base v' (xs ++ [x]) := by
  refine ⟨rs ++ [r], by simp [hl], ?_, fun i hi hi' => ?_⟩
  · rw [flatR_append, List.length_append]
    show w'.ownsRow base 72 3 v' (xs.length + 1) (flatR rs ++ (r.cells ++ []))
    rw [List.append_nil]; exact h
  · by_cases e : i < xs.length
    · rw [List.getElem_append_left (by omega), List.getElem_append_left e]
      exact (hr i e (by omega)).kept hg (fun g cap _ ho => types_ne ho hown)
    · have : i = xs.length := by simp at hi; omega
      subst this
      have e1 : (rs ++ [r])[xs.length] = r := by rw [List.getElem_append_right (by omega)]; simp [hl]
      have e2 : (xs ++ [x])[xs.length] = x := by simp
      rw [e1, e2]
      exact hx.kept hg (fun g cap _ ho => types_ne ho hown)

/-- the atoms at wanted places -/
def pickTo (f : Nat → Bool) (l : List At) : Nat → List At
  | 0 => []
  | k + 1 => pickTo f l k ++ if f k then l[k]?.toList else []
theorem pickTo_len (f : Nat → Bool) (l : List At) : ∀ k, (pickTo f l k).length ≤ k
  | 0 => Nat.le_refl _
  | k + 1 => by
    have := pickTo_len f l k
    unfold pickTo
    rw [List.length_append]
    split
    · have : (l[k]?.toList).length ≤ 1 := by cases l[k]? <;> simp
      omega
    · simp; omega
end Go.Proofs.Ytnhjebdlcbhkcad

namespace Go.Proofs.Ytnhjebdlcbhkcad
open Go.RowKit Go.Shelf
attribute [local go_sem] Oper.semAt_some

/-- the i-th atom of a run -/
def runAt (l : List (Int × Int)) (c : Int) (t : ByteArray) (i : Nat) : At := ⟨bump l i, c + i, (t.data.toList.getD i 0).toNat⟩
/-- its atoms -/
def atomsR (l : List (Int × Int)) (c : Int) (t : ByteArray) : List At := (List.range t.size).map (runAt l c t)

theorem bump_len (l : List (Int × Int)) (n : Int) : (bump l n).length = l.length := bump_len' l n
theorem lastS_bump {l : List (Int × Int)} (h : 0 < l.length) (n : Int) : lastS (bump l n) = ((lastS l).1 + n, (lastS l).2) := by
  unfold lastS bump setL
  rw [List.length_set, List.getD_eq_getElem?_getD, List.getElem?_set_self (by omega)]; rfl

theorem okSteps_bump {l : List (Int × Int)} {n m : Int} (h : 0 < l.length) (h0 : okSteps l = true) (hm : okSteps (bump l m) = true) (hn0 : 0 ≤ n) (hnm : n ≤ m) : okSteps (bump l n) = true := by
  refine okSteps_true (fun i hi => ?_)
  rw [bump_len] at hi
  by_cases e : i = l.length - 1
  · subst e
    have h1 := okStep_iff.1 (okSteps_get h0 (i := l.length - 1) (by omega))
    have h2 := okStep_iff.1 (okSteps_get hm (i := l.length - 1) (by rw [bump_len]; omega))
    have e1 : (bump l m)[l.length - 1]'(by rw [bump_len]; omega) = ((lastS l).1 + m, (lastS l).2) := by unfold bump setL; simp
    have e2 : (bump l n)[l.length - 1]'(by rw [bump_len]; omega) = ((lastS l).1 + n, (lastS l).2) := by unfold bump setL; simp
    have e3 : l[l.length - 1]'(by omega) = lastS l := (lastS_eq h).symm
    rw [e1] at h2
    rw [e3] at h1
    rw [e2]
    exact okStep_iff.2 ⟨by simp only; omega, by simp only at h2 ⊢; omega, h2.2.2.1, h2.2.2.2⟩
  · have e2 : (bump l n)[i]'(by rw [bump_len]; omega) = l[i] := by unfold bump setL; rw [List.getElem_set_ne (by omega)]
    rw [e2]
    exact okSteps_get h0 hi

theorem chk_mk {l : List (Int × Int)} {c : Int} (h1 : 0 < l.length) (h2 : l.length ≤ 10) (h3 : okSteps l = true) (h4 : (lastS l).1 ≠ 0) (h5 : 1 ≤ c) (h6 : c ≤ 10000) : chk l c = 0 := by
  unfold chk
  rw [if_neg (by omega), if_neg (by omega), if_pos]
  simp [h3, h4, inB, h5, h6]

theorem chk_bump {l : List (Int × Int)} {c n m : Int} (h : chk l c = 0) (hm : chk (bump l m) (c + m) = 0) (h0 : 0 ≤ n) (hnm : n ≤ m) : chk (bump l n) (c + n) = 0 := by
  obtain ⟨a1, a2, a3, a4, a5, a6⟩ := chk_ok h
  obtain ⟨b1, b2, b3, b4, b5, b6⟩ := chk_ok hm
  refine chk_mk (by rw [bump_len]; exact a1) (by rw [bump_len]; exact a2) (okSteps_bump a1 a3 b3 h0 hnm) ?_ (by omega) (by omega)
  rw [lastS_bump a1]
  have h1 := okStep_iff.1 (okSteps_get a3 (i := l.length - 1) (by omega))
  rw [← lastS_eq a1] at h1
  simp only
  omega

/-- what Check of a run lets through -/
structure OkRun (l : List (Int × Int)) (c : Int) (t : ByteArray) : Prop where
  mark : chk l c = 0
  len0 : 0 < t.size
  len : t.size ≤ 60
  signs : allS t.data.toList = true
  each : ∀ i : Nat, i < t.size → chk (bump l i) (c + i) = 0

theorem okRun_of {l : List (Int × Int)} {c : Int} {t : ByteArray} (h : chkRun l c t = 0) : OkRun l c t := by
  unfold chkRun at h
  by_cases h0 : chk l c = 0
  rotate_left
  · rw [if_pos h0] at h; exact absurd h h0
  rw [if_neg (by omega)] at h
  by_cases h1 : t.size = 0
  · rw [if_pos h1] at h; exact absurd h (by decide)
  rw [if_neg h1] at h
  by_cases h2 : 60 < t.size
  · rw [if_pos h2] at h; exact absurd h (by decide)
  rw [if_neg h2] at h
  cases h3 : allS t.data.toList
  · rw [if_pos h3] at h; exact absurd h (by decide)
  rw [if_neg (by rw [h3]; decide)] at h
  unfold nxt at h
  rw [if_neg (by omega), if_neg (by omega)] at h
  by_cases h4 : chk (bump l ((t.size : Int) - 1)) (c + ((t.size : Int) - 1)) = 0
  rotate_left
  · rw [if_pos h4] at h; exact absurd h (by decide)
  exact ⟨h0, by omega, by omega, h3, fun i hi => chk_bump h0 h4 (by omega) (by omega)⟩

/-- what a round keeps: all below n₀, and every cell that is no atom's and no list's of atoms -/
def KpA (n₀ : Nat) (W W' : World) : Prop := Below n₀ W W' ∧ ∀ (k : Nat) (cur : Array Value) (t : TypeId), t ≠ 72 → t ≠ 22 → W.heap[k]? = some (Obj.cells cur t (0, 0)) → W'.heap[k]? = some (Obj.cells cur t (0, 0))

theorem KpA.trans {n₀ : Nat} {A B C : World} (h : KpA n₀ A B) (k : KpA n₀ B C) : KpA n₀ A C := ⟨h.1.trans k.1, fun i cur t h1 h2 h3 => k.2 i cur t h1 h2 (h.2 i cur t h1 h2 h3)⟩
theorem KpA.put {n₀ B : Nat} (hn : n₀ ≤ B) (W : World) (l : Nat) (o o' : Obj) (hl : B ≤ l) (h : W.heap[l]? = some o) (hc : o.isCells = false) (_ : o.isWalk = false) : KpA n₀ W (W.putObj l o') := by
  refine ⟨⟨rfl, rfl, rfl, by simp [World.putObj], fun k hk => World.putObj_heap_other (by omega)⟩, fun k cur t _ _ hk => ?_⟩
  by_cases e : k = l
  · subst e; rw [h] at hk; cases hk; cases hc
  · rw [World.putObj_heap_other e]; exact hk
theorem PickRaw.keptA {n₀ base : Nat} {W W' : World} {r : Raw} {x : At} (h : PickRaw W base r x) (hk : KpA n₀ W W') : PickRaw W' base r x := by
  obtain ⟨g, cap, rfl, ⟨h1, h2⟩, h3⟩ := h
  refine ⟨g, cap, rfl, ⟨h1, ?_⟩, h3⟩
  rcases h2 with h2 | ⟨g', c', cur, hv, hb, hg, r⟩
  · exact Or.inl h2
  · exact Or.inr ⟨g', c', cur, hv, hb, hk.2 _ _ _ (by decide) (by decide) hg, r⟩
theorem KpA.below {n₀ : Nat} {W W' : World} (hb : Below W.heap.size W W') (hn : n₀ ≤ W.heap.size) : KpA n₀ W W' := by
  refine ⟨hb.mono hn, fun k cur t _ _ hk => ?_⟩
  have hlt : k < W.heap.size := (Array.getElem?_eq_some_iff.1 hk).1
  rw [hb.block k hlt]; exact hk

/-- an atom as one value -/
def encA (r : Raw) : Array Value := #[.agg #[.slice r.p r.n r.cap, .int .i64 r.clock, .int .u8 r.sign]]

theorem cell_of {W : World} {B j : Nat} {cs : Array Value} {t : TypeId} {v : Value} (h : W.heap[B]? = some (.cells cs t (0, 0))) (hj : cs[j]? = some v) : W.cell? ⟨B, j, none⟩ = some v := by
  simp [World.cell?, h, hj]

theorem below_grown {W W' : World} (hb : Below W.heap.size W W') : W.grownBy W' none := ⟨hb.os, hb.tape, hb.output, hb.size, fun k hk _ => hb.block k hk⟩

end Go.Proofs.Ytnhjebdlcbhkcad
