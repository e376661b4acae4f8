import Derived.Test.YtnhjebdlcbhkcadPutA
import Derived.Deep.RegionHeldLaw
namespace Go.Proofs.Ytnhjebdlcbhkcad
open Go.RowKit

theorem step_append_own {P : Program} {ops : Array Oper} {o : Oper} {a : Act} {w : World} {K : Act → World → Prop} {Q : Exit → Act → World → Prop} {E : Prop}
    (hg : o.guard = none) (s x : Operand) (t : TypeId) (hop : o.op = Op.call { callee := Callee.builtin Builtin.append, args := #[s, x], argTypes := #[t, t] }) (base : Nat)
    (e : TypeId) (i : TypeInfo) (z : Value) (size bytes : Nat) (h1 : P.underlying t = some (.slice e)) (h2 : P.info? e = some i) (h3 : i.zero = some z) (h4 : i.size = size) (h5 : i.bytes = bytes) (h6 : z.cells.size = size) (h7 : 0 < size)
    (v : Value) (n : Nat) (olds : List Value) (hs : a.eval s = v) (hown : w.ownsRow base e size v n olds)
    (ad : Addr) (m c : Nat) (news : List Value) (hx : a.eval x = .slice (some ad) m c) (hn : news.length = m * size) (hc : ∀ j u, news[j]? = some u → w.cell? (ad.add j) = some u) (h1c : ∀ u ∈ news, u.oneCell' = true)
    (b1 : n + m ≤ maxLen) (b2 : (n + m) * bytes ≤ 140737488355328) (hb : base ≤ w.heap.size)
    (hK : ∀ v' w', w'.ownsRow base e size v' (n + m) (olds ++ news) → w.grownBy w' v.ownBlock → K (a.put o.dst v') w') :
    if Region.wanted o (yielded ops a.tmps) = true then Oper.wp P o a w K Q else E := by
  have hw : Region.wanted o (yielded ops a.tmps) = true := by simp [Region.wanted, hg]
  rw [if_pos hw]
  obtain ⟨v', w', hrun, r1, r2, _⟩ := run_append_own (P := P) w base t o.type e i z size bytes h1 h2 h3 h4 h5 h6 h7 v n olds hown ad m c news hn hc h1c b1 b2 hb
  unfold Oper.wp
  simp [execOp, hop, resolve, invoke, builtin, hs, hx, hrun, Result.andThen]
  exact hK v' w' r1 r2

/-- an atom's cells whose path is the call's own -/
def PickRaw (w : World) (base : Nat) (r : Raw) (x : At) : Prop :=
  ∃ g cap, r = ⟨some ⟨g, 0, none⟩, x.path.length, cap, x.clock, x.sign⟩ ∧ w.ownsRow base 110 2 (.slice (some ⟨g, 0, none⟩) x.path.length cap) x.path.length (flatS x.path) ∧ x.path.length ≤ maxLen ∧ 0 ≤ x.sign ∧ x.sign ≤ 255

theorem types_ne {w : World} {base base' g n cap m : Nat} {v : Value} {xs ys : List Value} (h : w.ownsRow base 110 2 (.slice (some ⟨g, 0, none⟩) n cap) n xs) (h' : w.ownsRow base' 72 3 v m ys) : some g ≠ v.ownBlock := by
  intro e
  rcases h.2 with ⟨hc, _⟩ | ⟨g1, c1, cur, h1, _, h2, _⟩
  · simp at hc
  have hg : g1 = g := by simp at h1; exact h1.1.symm
  subst hg
  rcases h'.2 with ⟨rfl, _⟩ | ⟨g2, c2, cur2, rfl, _, h3, _⟩
  · simp [Value.ownBlock] at e
  · simp [Value.ownBlock] at e
    subst e
    rw [h2] at h3
    simp at h3

theorem PickRaw.kept {w w' : World} {base : Nat} {row : Option Nat} {r : Raw} {x : At} (h : PickRaw w base r x) (hg : w.grownBy w' row) (hne : ∀ g cap, r.p = some ⟨g, 0, none⟩ → w.ownsRow base 110 2 (.slice (some ⟨g, 0, none⟩) x.path.length cap) x.path.length (flatS x.path) → some g ≠ row) : PickRaw w' base r x := by
  obtain ⟨g, cap, rfl, hown, h1⟩ := h
  exact ⟨g, cap, rfl, hown.kept hg (Or.inr (by have := hne g cap rfl hown; simpa [Value.ownBlock] using this)), h1⟩

theorem PickRaw.below {w w' : World} {base : Nat} {r : Raw} {x : At} (h : PickRaw w base r x) (hb : Below w.heap.size w w') : PickRaw w' base r x := by
  obtain ⟨g, cap, rfl, hown, h1⟩ := h
  exact ⟨g, cap, rfl, owns_below hown hb, h1⟩

theorem PickRaw.raw {w : World} {base : Nat} {r : Raw} {x : At} (h : PickRaw w base r x) : RawOf w r x := by
  obtain ⟨g, cap, rfl, hown, h1, h2, h3⟩ := h
  refine ⟨rfl, rfl, rfl, stepsAt_owns hown rfl, h1, ?_, h2, h3⟩
  rcases hown.2 with ⟨hc, _⟩ | ⟨g1, c1, cur, e1, _, _, hc, _⟩
  · simp at hc
  · simp at e1; rw [e1.2]; exact hc

/-- a row of atoms, all of it the call's own -/
def PickRow (w : World) (base : Nat) (v : Value) (xs : List At) : Prop :=
  ∃ rs : List Raw, rs.length = xs.length ∧ w.ownsRow base 72 3 v xs.length (flatR rs) ∧ ∀ i (h : i < xs.length) (h' : i < rs.length), PickRaw w base rs[i] xs[i]

theorem PickRow.owns {w : World} {base : Nat} {v : Value} {xs : List At} (h : PickRow w base v xs) : OwnsA w w base v xs := by
  obtain ⟨rs, h1, h2, h3⟩ := h
  exact ⟨rs, h1, h2, fun i h h' => (h3 i h h').raw⟩

theorem PickRow.below {w w' : World} {base : Nat} {v : Value} {xs : List At} (h : PickRow w base v xs) (hb : Below w.heap.size w w') : PickRow w' base v xs := by
  obtain ⟨rs, h1, h2, h3⟩ := h
  exact ⟨rs, h1, owns_below h2 hb, fun i h h' => (h3 i h h').below hb⟩

theorem PickRow.mono {w : World} {base base' : Nat} {v : Value} {xs : List At} (h : PickRow w base v xs) (hb : base' ≤ base) : PickRow w base' v xs := by
  obtain ⟨rs, h1, h2, h3⟩ := h
  refine ⟨rs, h1, owns_base h2 hb, fun i h h' => ?_⟩
  obtain ⟨g, cap, e, hown, h4⟩ := h3 i h h'
  exact ⟨g, cap, e, owns_base hown hb, h4⟩

theorem PickRow.snoc {w w' : World} {base : Nat} {v v' : Value} {xs : List At} {r : Raw} {x : At} {rs : List Raw} (hl : rs.length = xs.length) (hown : w.ownsRow base 72 3 v xs.length (flatR rs)) (hr : ∀ i (h : i < xs.length) (h' : i < rs.length), PickRaw w base rs[i] xs[i]) (hx : PickRaw w base r x) (hg : w.grownBy w' v.ownBlock) (h : w'.ownsRow base 72 3 v' (xs.length + 1) (flatR rs ++ r.cells)) :
    PickRow w' base v' (xs ++ [x]) := by
  refine ⟨rs ++ [r], by simp [hl], ?_, fun i hi hi' => ?_⟩
  · rw [flatR_append, List.length_append]
    show w'.ownsRow base 72 3 v' (xs.length + 1) (flatR rs ++ (r.cells ++ []))
    rw [List.append_nil]; exact h
  · by_cases e : i < xs.length
    · rw [List.getElem_append_left (by omega), List.getElem_append_left e]
      exact (hr i e (by omega)).kept hg (fun g cap _ ho => types_ne ho hown)
    · have : i = xs.length := by simp at hi; omega
      subst this
      have e1 : (rs ++ [r])[xs.length] = r := by rw [List.getElem_append_right (by omega)]; simp [hl]
      have e2 : (xs ++ [x])[xs.length] = x := by simp
      rw [e1, e2]
      exact hx.kept hg (fun g cap _ ho => types_ne ho hown)

/-- the atoms at wanted places -/
def pickTo (f : Nat → Bool) (l : List At) : Nat → List At
  | 0 => []
  | k + 1 => pickTo f l k ++ if f k then l[k]?.toList else []
theorem pickTo_len (f : Nat → Bool) (l : List At) : ∀ k, (pickTo f l k).length ≤ k
  | 0 => Nat.le_refl _
  | k + 1 => by
    have := pickTo_len f l k
    unfold pickTo
    rw [List.length_append]
    split
    · have : (l[k]?.toList).length ≤ 1 := by cases l[k]? <;> simp
      omega
    · simp; omega
end Go.Proofs.Ytnhjebdlcbhkcad
