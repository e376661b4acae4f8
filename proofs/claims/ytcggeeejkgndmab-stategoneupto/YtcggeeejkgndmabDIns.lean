/- The row of what is gone grows by one mark: slices.Insert, and all else stays. -/
import Derived.Test.YtcggeeejkgndmabDoerC
import Derived.Test.YtcggeeejkgndmabDelI
import Derived.Test.YtcggeeejkgndmabDPut
namespace Go.Proofs.Ytcggeeejkgndmab
open Go.RowKit

/-- the marks that are gone are put anew -/
theorem DoerAt.set1 {w : World} {base D : Nat} {vA vG u : Value} {l : List At} {g h : List Mk} (hd : DoerAt w base D vA vG l g) (hm : MkRow w base u h) : DoerAt (w.setCell ⟨D, 1, none⟩ u) base D vA u l h := by
  obtain ⟨⟨cur, h1⟩, h2, h3, h4, h5, h6, h7, h8⟩ := hd
  refine ⟨?_, ?_, World.cell?_setCell_same _ _ _ h3, fun o => by rw [World.frozen?_setCell]; exact h4 o, by simpa [World.setCell] using h5, h6, h7.setD ⟨cur, h1⟩, hm.setD ⟨cur, h1⟩⟩
  · refine ⟨cur.setIfInBounds 1 u, ?_⟩
    simp [World.setCell, Array.getElem?_modify, h1]
  · rw [World.cell?_setCell_other _ _ _ _ (by simp)]; exact h2

/-- the row of what is gone grows: all else stays, and the new row is put in its place -/
theorem DoerAt.grow1 {w w' : World} {base D n : Nat} {vA vG u : Value} {l : List At} {g h : List Mk} {fs : List Value} (hd : DoerAt w base D vA vG l g) (ho : w.ownsRow base 24 2 vG n fs) (hg : w.grownBy w' vG.ownBlock) (hm : MkRow w' base u h) : DoerAt (w'.setCell ⟨D, 1, none⟩ u) base D vA u l h := by
  obtain ⟨⟨cur, h1⟩, h2, h3, h4, h5, h6, h7, h8⟩ := hd
  have hne : ∀ t cur', w.heap[t]? = some cur' → (∀ c, cur' ≠ .cells c 24 (0, 0)) → some t ≠ vG.ownBlock := by
    intro t cur' ht hty e
    rcases ho.2 with ⟨rfl, _⟩ | ⟨g1, c1, cur1, rfl, _, e2, _⟩
    · simp [Value.ownBlock] at e
    · simp [Value.ownBlock] at e
      subst e
      rw [ht] at e2
      exact hty cur1 (Option.some.inj e2)
  have hD := hne D _ h1 (fun c e => by simp at e)
  have hst : ∀ gp c, w.heap[gp]? = some (.cells c 88 (0, 0)) → some gp ≠ vG.ownBlock := fun gp c hc => hne gp _ hc (fun c' e => by simp at e)
  have hat : PickRow w' base vA l := by
    obtain ⟨rs, _, hown, _⟩ := h7
    exact PickRow.kept ⟨rs, by assumption, hown, by assumption⟩ hg (types_neA hown ho) hst
  have c1' := (grown_cell hg h5 hD 1).trans h3
  have hty' : ∃ cur, w'.heap[D]? = some (.cells cur 98 (0, 0)) := ⟨cur, (hg.block D h5 hD).trans h1⟩
  refine ⟨?_, ?_, World.cell?_setCell_same _ _ _ c1', fun o => ?_, by simpa [World.setCell] using Nat.lt_of_lt_of_le h5 hg.size, h6, hat.setD hty', hm.setD hty'⟩
  · obtain ⟨cur2, e2⟩ := hty'
    refine ⟨cur2.setIfInBounds 1 u, ?_⟩
    simp [World.setCell, Array.getElem?_modify, e2]
  · rw [World.cell?_setCell_other _ _ _ _ (by simp)]
    exact (grown_cell hg h5 hD 0).trans h2
  · rw [World.frozen?_setCell]
    have e3 := hg.block D h5 hD
    have e4 := h4 o
    unfold World.frozen? at e4 ⊢
    rw [e3]; exact e4


theorem DoerAt.apart {w : World} {base D n : Nat} {vA vG : Value} {l : List At} {g : List Mk} {fs : List Value} (hd : DoerAt w base D vA vG l g) (ho : w.ownsRow base 24 2 vG n fs) : some D ≠ vG.ownBlock := by
  obtain ⟨⟨cur, h1⟩, _⟩ := hd
  intro e
  rcases ho.2 with ⟨rfl, _⟩ | ⟨g1, c1, cur1, rfl, _, e2, _⟩
  · simp [Value.ownBlock] at e
  · simp [Value.ownBlock] at e
    subst e
    rw [h1] at e2
    simp at e2

theorem steps_apart {w : World} {base n : Nat} {vG : Value} {fs : List Value} (ho : w.ownsRow base 24 2 vG n fs) : ∀ g cur, w.heap[g]? = some (.cells cur 88 (0, 0)) → some g ≠ vG.ownBlock := by
  intro g cur h1 e
  rcases ho.2 with ⟨rfl, _⟩ | ⟨g1, c1, cur1, rfl, _, e2, _⟩
  · simp [Value.ownBlock] at e
  · simp [Value.ownBlock] at e
    subst e
    rw [h1] at e2
    simp at e2

theorem insDoer {base D B gp cq lo vb cg : Nat} {vT u : Value} {pg : Option Addr} {l : List At} {G ns : List Mk} {m1 : List (Int × Int)} {d1 : Int} {w w5 W' : World}
    (hd : DoerAt w5 base D vT (.slice pg G.length cg) l G) (hR : MkRow w5 B u ns) (hdis : u.ownBlock = none ∨ (Value.slice pg G.length cg).ownBlock ≠ u.ownBlock) (hBw : Below base w w5) (hBB : base ≤ B) (hBW : B ≤ w5.heap.size)
    (hpo : w5.ownsRow B 88 2 (.slice (some ⟨gp, 0, none⟩) m1.length cq) m1.length (flatS m1)) (hpl : m1.length ≤ maxLen) (hlo : lo ≤ G.length) (hG : G.length ≤ 660)
    (hb : Below w5.heap.size w5 W') (hvb : w5.heap.size ≤ vb) (hv : W'.heap[vb]? = some (.cells #[.slice (some ⟨gp, 0, none⟩) m1.length cq, .int .i64 d1] 24 (0, 0))) :
    Calls Try.prog 111 #[.slice pg G.length cg, .int .i64 lo, .slice (some ⟨vb, 0, none⟩) 1 1] W' fun e w6 => ∃ p6 n6 c6, e = .returned (.slice p6 n6 c6) ∧ w6.cell? ⟨D, 1, none⟩ = some (.slice pg G.length cg) ∧ (∀ o, w6.frozen? ⟨D, o, none⟩ = false) ∧ DoerAt (w6.setCell ⟨D, 1, none⟩ (.slice p6 n6 c6)) base D vT (.slice p6 n6 c6) l (G.take lo ++ (m1, d1) :: G.drop lo) ∧ MkRow (w6.setCell ⟨D, 1, none⟩ (.slice p6 n6 c6)) B u ns ∧ (u.ownBlock = none ∨ (Value.slice p6 n6 c6).ownBlock ≠ u.ownBlock) ∧ Below base w (w6.setCell ⟨D, 1, none⟩ (.slice p6 n6 c6)) ∧ B ≤ (w6.setCell ⟨D, 1, none⟩ (.slice p6 n6 c6)).heap.size := by
  obtain ⟨rs, hrl, hown5, hrr5⟩ := hd.gone
  have hown := owns_below hown5 hb
  have hdW := hd.below hb
  have hbW : base ≤ W'.heap.size := Nat.le_trans (Nat.le_trans hBB hBW) hb.size
  have hne : some vb ≠ (Value.slice pg G.length cg).ownBlock := by
    intro e
    have := (hown5.lt vb e.symm).2
    omega
  have hpk : PickK W' base ⟨some ⟨gp, 0, none⟩, m1.length, cq, d1⟩ (m1, d1) := ⟨gp, cq, rfl, owns_base (owns_below hpo hb) hBB, hpl⟩
  refine (insM_ownB base _ G.length lo vb (flatK rs) [.slice (some ⟨gp, 0, none⟩) m1.length cq, .int .i64 d1] W' hown hbW hlo (by omega) hv rfl hne (flatK_one _) (flatK_one [⟨some ⟨gp, 0, none⟩, m1.length, cq, d1⟩])).mono ?_
  rintro e w6 ⟨v', rfl, hown6, hgrow, hblk⟩
  have hrow6 : MkRow w6 base v' (G.take lo ++ (m1, d1) :: G.drop lo) := MkRow.ins hlo hrl hown (fun i h h' => (hrr5 i h h').below hb) hpk hgrow hown6
  have hap := hdW.apart hown
  have hblkD := hgrow.block D hdW.lt hap
  have hs6 := hgrow.size
  obtain ⟨p6, c6, rfl, _⟩ := hrow6.marks
  refine ⟨p6, _, c6, rfl, (grown_cell hgrow hdW.lt hap 1).trans hdW.c1, fun o => ?_, hdW.grow1 hown hgrow hrow6, ?_, ?_, ?_, ?_⟩
  · have e4 := hdW.free o
    unfold World.frozen? at e4 ⊢
    rw [hblkD]; exact e4
  · refine ((hR.below hb).kept hgrow ?_ (steps_apart hown)).setD ?_
    · rcases hdis with h | h
      · exact Or.inl h
      · exact Or.inr (Ne.symm h)
    · obtain ⟨cur, e⟩ := hdW.ty
      exact ⟨cur, hblkD.trans e⟩
  · rcases hblk with h | h
    · rw [h]; exact hdis
    · obtain ⟨rs2, _, hownR, _⟩ := hR
      cases hu : u.ownBlock with
      | none => exact Or.inl rfl
      | some x =>
        right
        rw [h]
        have h1 := (hownR.lt x hu).2
        have h2 := hb.size
        intro e
        have : W'.heap.size = x := by simpa using e
        omega
  · exact ((hBw.thru hb (Nat.le_trans hBB hBW)).grown hgrow hbW (fun j hj => (hown.lt j hj).1)).setCell hd.le _
  · have h2 := hb.size
    simp [World.setCell]
    omega
end Go.Proofs.Ytcggeeejkgndmab
