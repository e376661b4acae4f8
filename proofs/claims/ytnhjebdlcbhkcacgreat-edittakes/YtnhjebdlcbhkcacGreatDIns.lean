/- slices.Insert at marks: besides, where the new row lies. -/
import Derived.Test.YtnhjebdlcbhkcacGreatInsM
import Derived.Test.YtnhjebdlcbhkcacGreatDoerC
import Derived.Test.YtnhjebdlcbhkcacGreatDPut
namespace Go.Proofs.YtnhjebdlcbhkcacGreat
open Go.RowKit Go.Lib

theorem run_append_ownB {P : Program} (w : World) (base : Nat) (t ty e : TypeId) (i : TypeInfo) (z : Value) (size bytes : Nat) (ht : P.underlying t = some (.slice e)) (hi : P.info? e = some i) (hz : i.zero = some z)
    (hsize : i.size = size) (hby : i.bytes = bytes) (hzs : z.cells.size = size) (hsz : 0 < size) (v : Value) (n : Nat) (xs : List Value) (hown : w.ownsRow base e size v n xs)
    (a : Addr) (c : Nat) (news : List Value) (hl : news.length = 1 * size) (hnews : ∀ j u, news[j]? = some u → w.cell? (a.add j) = some u) (h1 : ∀ u ∈ news, u.oneCell' = true)
    (h63 : n + 1 ≤ maxLen) (hbytes : (n + 1) * bytes ≤ 140737488355328) (hbase : base ≤ w.heap.size) :
    ∃ v' w', (Builtin.append_ #[t, t] ty #[v, .slice (some a) 1 c]).run P w = .ok v' w' ∧ w'.ownsRow base e size v' (n + 1) (xs ++ news) ∧ w.grownBy w' v.ownBlock ∧ (v'.ownBlock = v.ownBlock ∨ v'.ownBlock = some w.heap.size) := by
  obtain ⟨v', w', hrun, r1, r2, _⟩ := run_append_own (P := P) w base t ty e i z size bytes ht hi hz hsize hby hzs hsz v n xs hown a 1 c news hl hnews h1 h63 hbytes hbase
  refine ⟨v', w', hrun, r1, r2, ?_⟩
  unfold maxLen at h63
  subst hsize hby
  rcases hown.2 with ⟨rfl, rfl⟩ | ⟨g, cap, cur, rfl, hbg, hg, hnc, hcm, hcs, htake⟩
  · have hr := run_append_nil (P := P) w t ty e i z ht hi hz a 1 c news hl hnews (by omega) (by omega) (by omega)
    rw [hrun] at hr
    injection hr with e1 e2
    right; rw [e1]; rfl
  · by_cases hroom : n + 1 ≤ cap
    · have hfit : n * i.size + news.length ≤ cur.size := by rw [hl, hcs, ← Nat.add_mul]; exact Nat.mul_le_mul_right _ hroom
      have hr := run_append_room (P := P) w t ty e i ht hi g n cap cur hg a 1 c news hl hnews h1 hroom hfit
      rw [hrun] at hr
      injection hr with e1 e2
      left; rw [e1]; rfl
    · have holds : ∀ j u, xs[j]? = some u → w.cell? ((⟨g, 0, none⟩ : Addr).add j) = some u := hown.cells (g := g) rfl
      have hr := run_append_grow (P := P) w t ty e i z ht hi hz ⟨g, 0, none⟩ n cap xs hown.1 holds a 1 c news hl hnews (by omega) (by omega) (growslice_fits (by omega) hbytes)
      rw [hrun] at hr
      injection hr with e1 e2
      right; rw [e1]; rfl

theorem wpList_append_ownB {P : Program} {w : World} {ops : Array Oper} {rest : List Oper} {o : Oper} {a : Act} {Q : Exit → Act → World → Prop} (hgd : o.guard = none) (s x : Operand) (t : TypeId)
    (ho : o.op = .call { callee := .builtin .append, args := #[s, x], argTypes := #[t, t] })
    (base : Nat) (e : TypeId) (i : TypeInfo) (z : Value) (size bytes : Nat) (ht : P.underlying t = some (.slice e)) (hi : P.info? e = some i) (hz : i.zero = some z)
    (hsize : i.size = size) (hby : i.bytes = bytes) (hzs : z.cells.size = size) (hsz : 0 < size)
    (v : Value) (n : Nat) (xs : List Value) (hs : a.eval s = v) (hown : w.ownsRow base e size v n xs)
    (ad : Addr) (c : Nat) (news : List Value) (hx : a.eval x = .slice (some ad) 1 c) (hl : news.length = 1 * size) (hnews : ∀ j u, news[j]? = some u → w.cell? (ad.add j) = some u) (h1 : ∀ u ∈ news, u.oneCell' = true)
    (h63 : n + 1 ≤ maxLen) (hbytes : (n + 1) * bytes ≤ 140737488355328) (hbase : base ≤ w.heap.size)
    (h : ∀ v' w', w'.ownsRow base e size v' (n + 1) (xs ++ news) → w.grownBy w' v.ownBlock → (v'.ownBlock = v.ownBlock ∨ v'.ownBlock = some w.heap.size) → wpList P ops Q rest (a.put o.dst v') w') : wpList P ops Q (o :: rest) a w := by
  refine wpList_plain hgd fun K hK => ?_
  obtain ⟨v', w', hrun, r1, r2, r3⟩ := run_append_ownB (P := P) w base t o.type e i z size bytes ht hi hz hsize hby hzs hsz v n xs hown ad c news hl hnews h1 h63 hbytes hbase
  unfold Oper.wp
  simp [execOp, ho, resolve, invoke, builtin, hs, hx, hrun, Result.andThen]
  exact hK _ _ (h v' w' r1 r2 r3)

set_option maxRecDepth 100000 in
set_option maxHeartbeats 4000000 in
theorem insM_endB (base : Nat) (v : Value) (n vb : Nat) (xs news : List Value) (w : World) (hown : w.ownsRow base 46 2 v n xs) (hbase : base ≤ w.heap.size) (hn : n ≤ 2000) (hv : w.heap[vb]? = some (.cells news.toArray 46 (0, 0))) (hvl : news.length = 2) (h1v : ∀ u ∈ news, u.oneCell' = true) :
    Calls Tryz.prog 119 #[v, .int .i64 n, .slice (some ⟨vb, 0, none⟩) 1 1] w fun e w' => ∃ v', e = .returned v' ∧ w'.ownsRow base 46 2 v' (n + 1) (xs ++ news) ∧ w.grownBy w' v.ownBlock ∧ (v'.ownBlock = v.ownBlock ∨ v'.ownBlock = some w.heap.size) := by
  obtain ⟨i0, hi0, hz0, hzs, hzb⟩ := Tryz.info46
  obtain ⟨a, c, rfl, hnc, hc63⟩ : ∃ a c, v = .slice a n c ∧ n ≤ c ∧ c ≤ 9223372036854775807 := by
    rcases hown.2 with ⟨rfl, rfl⟩ | ⟨g, cap, cur, rfl, _, _, h1, h2, _⟩
    · exact ⟨none, 0, rfl, Nat.le_refl _, by omega⟩
    · exact ⟨_, _, rfl, h1, by unfold maxLen at h2; omega⟩
  by_cases hcn : c = n
  all_goals
    go_enter Tryz.func119, Tryz.ntmps119
    go_wp2_with (at_builtin; refine wpList_append_ownB rfl _ _ 23 rfl base 46 i0 (.agg #[.slice none 0 0, .int .i64 0]) 2 32 Tryz.underlying23 hi0 hz0 hzs hzb rfl (by decide) _ _ _ rfl hown ⟨vb, 0, none⟩ 1 news rfl ?qc1 ?qc2 ?qc3 ?qc4 ?qc5 ?qc6 ?_)
    case qc1 => omega
    case qc2 => intro j u hj; rw [Addr.add_lit, Nat.zero_add]; simp [World.cell?, hv, hj]
    case qc3 => exact h1v
    case qc4 => unfold maxLen; omega
    case qc5 => omega
    case qc6 => exact hbase
    intro v' w' hown' hgrow hblk
    go_wp2
    go_ret
    exact ⟨v', rfl, hown', by cases a <;> exact hgrow, by cases a <;> exact hblk⟩

theorem insM_ownB (base : Nat) (v : Value) (n i vb : Nat) (xs news : List Value) (w : World) (hown : w.ownsRow base 46 2 v n xs) (hbase : base ≤ w.heap.size) (hi : i ≤ n) (hn : n ≤ 2000) (hv : w.heap[vb]? = some (.cells news.toArray 46 (0, 0))) (hvl : news.length = 2) (hne : some vb ≠ v.ownBlock)
    (h1x : ∀ u ∈ xs, u.oneCell' = true) (h1v : ∀ u ∈ news, u.oneCell' = true) :
    Calls Tryz.prog 119 #[v, .int .i64 i, .slice (some ⟨vb, 0, none⟩) 1 1] w fun e w' => ∃ v', e = .returned v' ∧ w'.ownsRow base 46 2 v' (n + 1) (xs.take (i * 2) ++ news ++ xs.drop (i * 2)) ∧ w.grownBy w' v.ownBlock ∧ (v'.ownBlock = v.ownBlock ∨ v'.ownBlock = some w.heap.size) := by
  rcases Nat.lt_or_ge i n with hlt | hge
  · rcases hown.2 with ⟨_, h0⟩ | ⟨g, c, cur, rfl, hbg, hg, hnc, hcm, hcs, hxs⟩
    · omega
    · have hng : vb ≠ g := fun e => hne (by rw [e]; rfl)
      rcases Nat.lt_or_ge c (n + 1) with hr | hr
      · refine (insM_grow g n c i vb cur xs news w hg hlt hnc hr hn hcs hxs hown.1 hv hvl h1x h1v).mono ?_
        rintro e w' ⟨G, cur', rfl, h1, h2, h3, h4, h5, h6⟩
        exact ⟨_, rfl, ⟨by simp; have := hown.1; omega, Or.inr ⟨_, G, cur', rfl, hbase, h3, h1, h2, h4, h5⟩⟩, ⟨h6.os, h6.tape, h6.output, h6.size, fun k hk _ => h6.block k hk (by simp)⟩, Or.inr rfl⟩
      · refine (insM_shift g n c i vb cur xs news w hg hlt hr hn hcm hcs hxs hown.1 hv hvl hng h1x h1v).mono ?_
        rintro e w' ⟨cur', rfl, h3, h4, h5, h6⟩
        exact ⟨_, rfl, ⟨by simp; have := hown.1; omega, Or.inr ⟨g, c, cur', rfl, hbg, h3, hr, hcm, h4, h5⟩⟩, h6, Or.inl rfl⟩
  · obtain rfl : i = n := by omega
    refine (insM_endB base v i vb xs news w hown hbase hn hv hvl h1v).mono ?_
    rintro e w' ⟨v', rfl, h1, h2, h3⟩
    refine ⟨v', rfl, ?_, h2, h3⟩
    rw [List.take_of_length_le (by rw [hown.1]; omega), List.drop_of_length_le (by rw [hown.1]; omega), List.append_nil]
    exact h1
end Go.Proofs.YtnhjebdlcbhkcacGreat

namespace Go.Proofs.YtnhjebdlcbhkcacGreat
open Go.RowKit

/-- the marks that are gone are put anew -/
theorem DoerAt.set1 {w : World} {base D : Nat} {vA vG u : Value} {l : List At} {g h : List Mk} (hd : DoerAt w base D vA vG l g) (hm : MkRow w base u h) : DoerAt (w.setCell ⟨D, 1, none⟩ u) base D vA u l h := by
  obtain ⟨⟨cur, h1⟩, h2, h3, h4, h5, h6, h7, h8⟩ := hd
  refine ⟨?_, ?_, World.cell?_setCell_same _ _ _ h3, fun o => by rw [World.frozen?_setCell]; exact h4 o, by simpa [World.setCell] using h5, h6, h7.setD ⟨cur, h1⟩, hm.setD ⟨cur, h1⟩⟩
  · refine ⟨cur.setIfInBounds 1 u, ?_⟩
    simp [World.setCell, Array.getElem?_modify, h1]
  · rw [World.cell?_setCell_other _ _ _ _ (by simp)]; exact h2

/-- the row of what is gone grows: all else stays, and the new row is put in its place -/
theorem DoerAt.grow1 {w w' : World} {base D n : Nat} {vA vG u : Value} {l : List At} {g h : List Mk} {fs : List Value} (hd : DoerAt w base D vA vG l g) (ho : w.ownsRow base 46 2 vG n fs) (hg : w.grownBy w' vG.ownBlock) (hm : MkRow w' base u h) : DoerAt (w'.setCell ⟨D, 1, none⟩ u) base D vA u l h := by
  obtain ⟨⟨cur, h1⟩, h2, h3, h4, h5, h6, h7, h8⟩ := hd
  have hne : ∀ t cur', w.heap[t]? = some cur' → (∀ c, cur' ≠ .cells c 46 (0, 0)) → some t ≠ vG.ownBlock := by
    intro t cur' ht hty e
    rcases ho.2 with ⟨rfl, _⟩ | ⟨g1, c1, cur1, rfl, _, e2, _⟩
    · simp [Value.ownBlock] at e
    · simp [Value.ownBlock] at e
      subst e
      rw [ht] at e2
      exact hty cur1 (Option.some.inj e2)
  have hD := hne D _ h1 (fun c e => by simp at e)
  have hst : ∀ gp c, w.heap[gp]? = some (.cells c 99 (0, 0)) → some gp ≠ vG.ownBlock := fun gp c hc => hne gp _ hc (fun c' e => by simp at e)
  have hat : PickRow w' base vA l := by
    obtain ⟨rs, _, hown, _⟩ := h7
    exact PickRow.kept ⟨rs, by assumption, hown, by assumption⟩ hg (types_neA hown ho) hst
  have c1' := (grown_cell hg h5 hD 1).trans h3
  have hty' : ∃ cur, w'.heap[D]? = some (.cells cur 83 (0, 0)) := ⟨cur, (hg.block D h5 hD).trans h1⟩
  refine ⟨?_, ?_, World.cell?_setCell_same _ _ _ c1', fun o => ?_, by simpa [World.setCell] using Nat.lt_of_lt_of_le h5 hg.size, h6, hat.setD hty', hm.setD hty'⟩
  · obtain ⟨cur2, e2⟩ := hty'
    refine ⟨cur2.setIfInBounds 1 u, ?_⟩
    simp [World.setCell, Array.getElem?_modify, e2]
  · rw [World.cell?_setCell_other _ _ _ _ (by simp)]
    exact (grown_cell hg h5 hD 0).trans h2
  · rw [World.frozen?_setCell]
    have e3 := hg.block D h5 hD
    have e4 := h4 o
    unfold World.frozen? at e4 ⊢
    rw [e3]; exact e4


theorem DoerAt.apart {w : World} {base D n : Nat} {vA vG : Value} {l : List At} {g : List Mk} {fs : List Value} (hd : DoerAt w base D vA vG l g) (ho : w.ownsRow base 46 2 vG n fs) : some D ≠ vG.ownBlock := by
  obtain ⟨⟨cur, h1⟩, _⟩ := hd
  intro e
  rcases ho.2 with ⟨rfl, _⟩ | ⟨g1, c1, cur1, rfl, _, e2, _⟩
  · simp [Value.ownBlock] at e
  · simp [Value.ownBlock] at e
    subst e
    rw [h1] at e2
    simp at e2

theorem steps_apart {w : World} {base n : Nat} {vG : Value} {fs : List Value} (ho : w.ownsRow base 46 2 vG n fs) : ∀ g cur, w.heap[g]? = some (.cells cur 99 (0, 0)) → some g ≠ vG.ownBlock := by
  intro g cur h1 e
  rcases ho.2 with ⟨rfl, _⟩ | ⟨g1, c1, cur1, rfl, _, e2, _⟩
  · simp [Value.ownBlock] at e
  · simp [Value.ownBlock] at e
    subst e
    rw [h1] at e2
    simp at e2

theorem insDoer {base D B gp cq lo vb cg : Nat} {vT u : Value} {pg : Option Addr} {l : List At} {G ns : List Mk} {m1 : List (Int × Int)} {d1 : Int} {w w5 W' : World}
    (hd : DoerAt w5 base D vT (.slice pg G.length cg) l G) (hR : MkRow w5 B u ns) (hdis : u.ownBlock = none ∨ (Value.slice pg G.length cg).ownBlock ≠ u.ownBlock) (hBw : Below base w w5) (hBB : base ≤ B) (hBW : B ≤ w5.heap.size)
    (hpo : w5.ownsRow B 99 2 (.slice (some ⟨gp, 0, none⟩) m1.length cq) m1.length (flatS m1)) (hpl : m1.length ≤ maxLen) (hlo : lo ≤ G.length) (hG : G.length ≤ 660)
    (hb : Below w5.heap.size w5 W') (hvb : w5.heap.size ≤ vb) (hv : W'.heap[vb]? = some (.cells #[.slice (some ⟨gp, 0, none⟩) m1.length cq, .int .i64 d1] 46 (0, 0))) :
    Calls Tryz.prog 119 #[.slice pg G.length cg, .int .i64 lo, .slice (some ⟨vb, 0, none⟩) 1 1] W' fun e w6 => ∃ p6 n6 c6, e = .returned (.slice p6 n6 c6) ∧ w6.cell? ⟨D, 1, none⟩ = some (.slice pg G.length cg) ∧ (∀ o, w6.frozen? ⟨D, o, none⟩ = false) ∧ DoerAt (w6.setCell ⟨D, 1, none⟩ (.slice p6 n6 c6)) base D vT (.slice p6 n6 c6) l (G.take lo ++ (m1, d1) :: G.drop lo) ∧ MkRow (w6.setCell ⟨D, 1, none⟩ (.slice p6 n6 c6)) B u ns ∧ (u.ownBlock = none ∨ (Value.slice p6 n6 c6).ownBlock ≠ u.ownBlock) ∧ Below base w (w6.setCell ⟨D, 1, none⟩ (.slice p6 n6 c6)) ∧ B ≤ (w6.setCell ⟨D, 1, none⟩ (.slice p6 n6 c6)).heap.size := by
  obtain ⟨rs, hrl, hown5, hrr5⟩ := hd.gone
  have hown := owns_below hown5 hb
  have hdW := hd.below hb
  have hbW : base ≤ W'.heap.size := Nat.le_trans (Nat.le_trans hBB hBW) hb.size
  have hne : some vb ≠ (Value.slice pg G.length cg).ownBlock := by
    intro e
    have := (hown5.lt vb e.symm).2
    omega
  have hpk : PickK W' base ⟨some ⟨gp, 0, none⟩, m1.length, cq, d1⟩ (m1, d1) := ⟨gp, cq, rfl, owns_base (owns_below hpo hb) hBB, hpl⟩
  refine (insM_ownB base _ G.length lo vb (flatK rs) [.slice (some ⟨gp, 0, none⟩) m1.length cq, .int .i64 d1] W' hown hbW hlo (by omega) hv rfl hne (flatK_one _) (flatK_one [⟨some ⟨gp, 0, none⟩, m1.length, cq, d1⟩])).mono ?_
  rintro e w6 ⟨v', rfl, hown6, hgrow, hblk⟩
  have hrow6 : MkRow w6 base v' (G.take lo ++ (m1, d1) :: G.drop lo) := MkRow.ins hlo hrl hown (fun i h h' => (hrr5 i h h').below hb) hpk hgrow hown6
  have hap := hdW.apart hown
  have hblkD := hgrow.block D hdW.lt hap
  have hs6 := hgrow.size
  obtain ⟨p6, c6, rfl, _⟩ := hrow6.marks
  refine ⟨p6, _, c6, rfl, (grown_cell hgrow hdW.lt hap 1).trans hdW.c1, fun o => ?_, hdW.grow1 hown hgrow hrow6, ?_, ?_, ?_, ?_⟩
  · have e4 := hdW.free o
    unfold World.frozen? at e4 ⊢
    rw [hblkD]; exact e4
  · refine ((hR.below hb).kept hgrow ?_ (steps_apart hown)).setD ?_
    · rcases hdis with h | h
      · exact Or.inl h
      · exact Or.inr (Ne.symm h)
    · obtain ⟨cur, e⟩ := hdW.ty
      exact ⟨cur, hblkD.trans e⟩
  · rcases hblk with h | h
    · rw [h]; exact hdis
    · obtain ⟨rs2, _, hownR, _⟩ := hR
      cases hu : u.ownBlock with
      | none => exact Or.inl rfl
      | some x =>
        right
        rw [h]
        have h1 := (hownR.lt x hu).2
        have h2 := hb.size
        intro e
        have : W'.heap.size = x := by simpa using e
        omega
  · exact ((hBw.thru hb (Nat.le_trans hBB hBW)).grown hgrow hbW (fun j hj => (hown.lt j hj).1)).setCell hd.le _
  · have h2 := hb.size
    simp [World.setCell]
    omega
end Go.Proofs.YtnhjebdlcbhkcacGreat
