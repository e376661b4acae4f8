/- Contract of fresh.list at deeds. -/
import Derived.Test.YtnhjebdlcbhkcafFrDeed
import Derived.Test.YtnhjebdlcbhkcafRdNote
namespace Go.Proofs.Ytnhjebdlcbhkcaf
open Go.RowKit

theorem set_far (x : RD) (l : List Value) (i j : Nat) (v : Value) : (x.cells ++ l).set ((i + 1) * 7 + j) v = x.cells ++ l.set (i * 7 + j) v := by
  have hc : x.cells.length = 7 := rfl
  rw [List.set_append_right _ _ (by omega), hc]
  congr 2
  omega
/-- a thing of a row of seven cells, written -/
theorem setD7 (y : RD) : ∀ (xs : List RD) (i : Nat), i < xs.length → (((((((xs.flatMap RD.cells).set (i * 7) (.int .i64 y.d.kind)).set (i * 7 + 1) (.slice y.p y.d.rp.length y.cp)).set (i * 7 + 2) (.int .i64 y.d.rc)).set (i * 7 + 3) (.string y.d.rt)).set (i * 7 + 4) (.slice y.q y.d.mp.length y.cq)).set (i * 7 + 5) (.int .i64 y.d.mc)).set (i * 7 + 6) (.int .i64 y.d.many) = (xs.set i y).flatMap RD.cells
  | [], i, h => by simp at h
  | x :: l, 0, _ => by
    simp [RD.cells]
  | x :: l, i + 1, h => by
    have ih := setD7 y l i (by simpa using h)
    rw [List.flatMap_cons, List.set_cons_succ, List.flatMap_cons, ← ih, show (x.cells ++ l.flatMap RD.cells).set ((i + 1) * 7) (.int .i64 y.d.kind) = x.cells ++ (l.flatMap RD.cells).set (i * 7) (.int .i64 y.d.kind) from set_far x _ i 0 _]
    simp only [set_far]

/-- the row's world behind the write of one of its things -/
def putR7 (w : World) (g o : Nat) (y : RD) : World := ((((((w.setCell ⟨g, o, none⟩ (.int .i64 y.d.kind)).setCell ⟨g, o + 1, none⟩ (.slice y.p y.d.rp.length y.cp)).setCell ⟨g, o + 2, none⟩ (.int .i64 y.d.rc)).setCell ⟨g, o + 3, none⟩ (.string y.d.rt)).setCell ⟨g, o + 4, none⟩ (.slice y.q y.d.mp.length y.cq)).setCell ⟨g, o + 5, none⟩ (.int .i64 y.d.mc)).setCell ⟨g, o + 6, none⟩ (.int .i64 y.d.many)
theorem putR7_owns {w : World} {base g n cap i : Nat} {xs : List RD} {T : TypeId} (y : RD) (h : w.ownsRow base T 7 (.slice (some ⟨g, 0, none⟩) n cap) n (xs.flatMap RD.cells)) (hi : i < xs.length) :
    (putR7 w g (i * 7) y).ownsRow base T 7 (.slice (some ⟨g, 0, none⟩) n cap) n ((xs.set i y).flatMap RD.cells) ∧ w.grownBy (putR7 w g (i * 7) y) (some g) := by
  obtain ⟨h0, g0⟩ := h.stored (i * 7) (.int .i64 y.d.kind)
  obtain ⟨h1, g1⟩ := h0.stored (i * 7 + 1) (.slice y.p y.d.rp.length y.cp)
  obtain ⟨h2, g2⟩ := h1.stored (i * 7 + 2) (.int .i64 y.d.rc)
  obtain ⟨h3, g3⟩ := h2.stored (i * 7 + 3) (.string y.d.rt)
  obtain ⟨h4, g4⟩ := h3.stored (i * 7 + 4) (.slice y.q y.d.mp.length y.cq)
  obtain ⟨h5, g5⟩ := h4.stored (i * 7 + 5) (.int .i64 y.d.mc)
  obtain ⟨h6, g6⟩ := h5.stored (i * 7 + 6) (.int .i64 y.d.many)
  rw [setD7 y xs i hi] at h6
  exact ⟨h6, (((((g0.trans g1).trans g2).trans g3).trans g4).trans g5).trans g6⟩

theorem deeds_rows {w : World} {q : Option Addr} {ds : List Dd} (h : DeedsAt w q ds) : ∃ xs : List RD, xs.map RD.d = ds ∧ ∀ j u, (xs.flatMap RD.cells)[j]? = some u → ∃ b off, q = some ⟨b, off, none⟩ ∧ w.cell? ⟨b, off + j, none⟩ = some u := by
  rcases h with rfl | ⟨b, o, rfl, hlt, hc⟩
  · exact ⟨[], rfl, fun j u h => by simp at h⟩
  · have k : ∀ (l : List Dd) (o : Nat), (∀ i (h : i < l.length), ∃ p cp q cq, w.cell? ⟨b, o + i * 7, none⟩ = some (.int .i64 l[i].kind) ∧ w.cell? ⟨b, o + i * 7 + 1, none⟩ = some (.slice p l[i].rp.length cp) ∧ w.cell? ⟨b, o + i * 7 + 2, none⟩ = some (.int .i64 l[i].rc) ∧ w.cell? ⟨b, o + i * 7 + 3, none⟩ = some (.string l[i].rt) ∧ w.cell? ⟨b, o + i * 7 + 4, none⟩ = some (.slice q l[i].mp.length cq) ∧ w.cell? ⟨b, o + i * 7 + 5, none⟩ = some (.int .i64 l[i].mc) ∧ w.cell? ⟨b, o + i * 7 + 6, none⟩ = some (.int .i64 l[i].many)) → ∃ xs : List RD, xs.map RD.d = l ∧ ∀ j u, (xs.flatMap RD.cells)[j]? = some u → w.cell? ⟨b, o + j, none⟩ = some u := by
      intro l
      induction l with
      | nil => intro o _; exact ⟨[], rfl, fun j u h => by simp at h⟩
      | cons d l ih =>
        intro o h
        obtain ⟨xs, e, hx⟩ := ih (o + 7) fun i hi => by
          obtain ⟨p, cp, q, cq, h0, h1, h2, h3, h4, h5, h6⟩ := h (i + 1) (by simpa using hi)
          have ea : o + (i + 1) * 7 = o + 7 + i * 7 := by omega
          rw [ea] at h0 h1 h2 h3 h4 h5 h6
          exact ⟨p, cp, q, cq, h0, h1, h2, h3, h4, h5, h6⟩
        obtain ⟨p, cp, q, cq, h0, h1, h2, h3, h4, h5, h6⟩ := h 0 (by simp)
        refine ⟨⟨d, p, q, cp, cq⟩ :: xs, by rw [List.map_cons, e], fun j u hj => ?_⟩
        rw [List.flatMap_cons] at hj
        have hc : (⟨d, p, q, cp, cq⟩ : RD).cells.length = 7 := rfl
        rcases Nat.lt_or_ge j 7 with hlt | hge
        · rw [List.getElem?_append_left (by omega)] at hj
          rcases (show j = 0 ∨ j = 1 ∨ j = 2 ∨ j = 3 ∨ j = 4 ∨ j = 5 ∨ j = 6 by omega) with rfl | rfl | rfl | rfl | rfl | rfl | rfl
          · exact h0.trans hj
          · exact h1.trans hj
          · exact h2.trans hj
          · exact h3.trans hj
          · exact h4.trans hj
          · exact h5.trans hj
          · exact h6.trans hj
        · rw [List.getElem?_append_right (by omega), hc] at hj
          have := hx _ _ hj
          rwa [show o + 7 + (j - 7) = o + j by omega] at this
    obtain ⟨xs, e, hx⟩ := k ds o fun i hi => by
      obtain ⟨p, cp, q, cq, h0, h1, h2, h3, h4, h5, h6, _⟩ := hc i hi
      exact ⟨p, cp, q, cq, h0, h1, h2, h3, h4, h5, h6⟩
    exact ⟨xs, e, fun j u hj => ⟨b, o, rfl, hx j u hj⟩⟩

theorem rd_len : ∀ xs : List RD, (xs.flatMap RD.cells).length = xs.length * 7
  | [] => rfl
  | x :: l => by rw [List.flatMap_cons, List.length_append, rd_len l, List.length_cons, show x.cells.length = 7 from rfl]; omega
theorem rd_one (xs : List RD) : ∀ u ∈ xs.flatMap RD.cells, u.oneCell' = true := by
  intro u hu
  obtain ⟨x, _, hu⟩ := List.mem_flatMap.1 hu
  simp only [RD.cells, List.mem_cons, List.not_mem_nil, or_false] at hu
  rcases hu with rfl | rfl | rfl | rfl | rfl | rfl | rfl <;> rfl

theorem row_cell {w : World} {base g n cap K : Nat} {T : TypeId} {ys : List Value} (h : w.ownsRow base T K (.slice (some ⟨g, 0, none⟩) n cap) n ys) (j : Nat) (hj : j < n * K) : ∃ v, w.cell? ⟨g, j, none⟩ = some v := by
  have hl := h.1
  have := h.cellAt j hj
  rw [List.getElem?_eq_getElem (by omega)] at this
  exact ⟨_, this⟩

theorem set_same {α : Type} {l : List α} {i : Nat} {a : α} (h : l[i]? = some a) : l.set i a = l := by
  apply List.ext_getElem?
  intro j
  rw [List.getElem?_set]
  split
  · next e => subst e; split <;> simp_all
  · rfl

/-- a copy of a row of deeds -/
def DsFresh (ds : List Dd) (w : World) (e : Ending) (w' : World) : Prop :=
  ∃ (rs : List RD) (p : Option Addr) (cap : Nat), e = .returned (.slice p ds.length cap) ∧ rs.map RD.d = ds ∧ RowOwn 54 7 RD.cells DdOwn w' w.heap.size (.slice p ds.length cap) rs ∧ Below w.heap.size w w'

set_option maxRecDepth 100000 in
set_option maxHeartbeats 4000000 in
theorem frListD_ok (q : Option Addr) (cq : Nat) (ds : List Dd) (w : World) (h : DeedsAt w q ds) (hd : ∀ d ∈ ds, DdSmall d) (hn : ds.length ≤ 100) :
    Calls Try.prog 26 #[.slice q ds.length cq, .func (.func 27) #[] #[]] w (DsFresh ds w) := by
  obtain ⟨xs0, he0, hx0⟩ := deeds_rows h
  have hl0 : xs0.length = ds.length := by rw [← he0, List.length_map]
  have H1 := hidE (cloneD_ok q ds.length cq (xs0.flatMap RD.cells) w (by rw [rd_len, hl0]) (by omega) hx0 (rd_one xs0))
  have HW := hidE h
  clear hx0 h
  go_enter Try.func26, Try.ntmps26
  go_upto_region 2 with (go_at_call 39; refine H1.out.mono ?_; rintro r w1 ⟨p, cap, rfl, hO, hb⟩)
  have HO := hidE hO
  have HB := hidE hb
  clear hO hb H1
  go_wp2_with fail
  go_loopw [12] (fun vi wr => ∃ (i : Nat) (xs : List RD), i ≤ ds.length ∧ vi = .int .i64 i ∧ xs.map RD.d = ds ∧ wr.ownsRow w.heap.size 54 7 (.slice p ds.length cap) ds.length (xs.flatMap RD.cells) ∧ (∀ j (h : j < xs.length), j < i → DdOwn wr w.heap.size xs[j]) ∧ Below w.heap.size w wr) (fun vi _ => ds.length - (intOf vi).toNat)
  case atStart => exact ⟨0, xs0, Nat.zero_le _, rfl, he0, HO.out, fun j _ h => absurd h (Nat.not_lt_zero _), HB.out⟩
  case round =>
    clear HO HB
    obtain ⟨i, xs, hi, rfl, he, hO, hE, hB⟩ := hrel
    have hl : xs.length = ds.length := by rw [← he, List.length_map]
    rcases Nat.lt_or_ge i ds.length with hlt | hge
    · have hi1 : (i : Int) < ds.length := by omega
      obtain ⟨g, cap', e⟩ := owns_form hO (by omega)
      cases e
      rcases HW.out with e0 | ⟨b, o, rfl, hb, hc⟩
      · simp [e0] at hlt
      obtain ⟨p1, cp1, q1, cq1, c0, c1, c2, c3, c4, c5, c6, hda, hm0, hm1⟩ := hc i hlt
      have hbw := fun j => (hB.cell (p := ⟨b, j, none⟩) hb)
      rw [← hbw] at c0 c1 c2 c3 c4 c5 c6
      have hDs := hidE (hd _ (List.getElem_mem hlt))
      have hDa := hidE (hda.below hB)
      have HO := hidE hO
      have HE := hidE hE
      have HB := hidE hB
      have hBs := hB.size
      have HL := hidE hl
      have HEq := hidE he
      have HDI := hidE (List.getElem?_eq_getElem hlt)
      clear hbw hc hda hO hE hB hl he
      clear hm0 hm1
      generalize ds[i] = d at *
      obtain ⟨kind, rp, rc, rt, mp, mc, many⟩ := d
      generalize hnn : ds.length = n at *
      have HNN := hidE hnn
      clear hnn
      have hA := alloc_below wr (Obj.cells #[.int .i64 kind, .slice p1 rp.length cp1, .int .i64 rc, .string rt, .slice q1 mp.length cq1, .int .i64 mc, .int .i64 many] 54)
      have hX := Blk.new wr #[.int .i64 kind, .slice p1 rp.length cp1, .int .i64 rc, .string rt, .slice q1 mp.length cq1, .int .i64 mc, .int .i64 many] 54
      have HOo := hidE HO.out
      have HO1 := hidE (HO.out.alloc (Obj.cells #[.int .i64 kind, .slice p1 rp.length cp1, .int .i64 rc, .string rt, .slice q1 mp.length cq1, .int .i64 mc, .int .i64 many] 54))
      have H2 := hidE (frDeed_ok ⟨kind, rp, rc, rt, mp, mc, many⟩ p1 q1 cp1 cq1 _ (hDa.out.below hA) hDs.out)
      go_upto_region 5 with fail
      generalize wr.alloc (Obj.cells #[.int .i64 kind, .slice p1 rp.length cp1, .int .i64 rc, .string rt, .slice q1 mp.length cq1, .int .i64 mc, .int .i64 many] 54) = Wb at *
      have x0 := hX.is 0 rfl
      have x1 := hX.is 1 rfl
      have x2 := hX.is 2 rfl
      have x3 := hX.is 3 rfl
      have x4 := hX.is 4 rfl
      have x5 := hX.is 5 rfl
      have x6 := hX.is 6 rfl
      have hAs := hA.size
      have HA := hidE hA
      clear hA hX HO c0 c1 c2 c3 c4 c5 c6
      have hgS : some g ≠ none := by simp
      go_wp2_with (go_at_call 27; refine H2.out.mono ?_; rintro r w5 ⟨p2, q2, cp2, cq2, rfl, hD, hb5⟩; unfold ddV; have hO5 := HO1.out.kept (grownBy_none hb5 (row := none)) (Or.inr (by simp [Value.ownBlock])); have hz := fun j => hO5.frozenAt j; obtain ⟨v0, z0⟩ := row_cell hO5 (i * 7) (by omega); obtain ⟨v1, z1⟩ := row_cell hO5 (i * 7 + 1) (by omega); obtain ⟨v2, z2⟩ := row_cell hO5 (i * 7 + 2) (by omega); obtain ⟨v3, z3⟩ := row_cell hO5 (i * 7 + 3) (by omega); obtain ⟨v4, z4⟩ := row_cell hO5 (i * 7 + 4) (by omega); obtain ⟨v5, z5⟩ := row_cell hO5 (i * 7 + 5) (by omega); obtain ⟨v6, z6⟩ := row_cell hO5 (i * 7 + 6) (by omega))
      have HG := hidE (putR7_owns ⟨⟨kind, rp, rc, rt, mp, mc, many⟩, p2, q2, cp2, cq2⟩ hO5 (show i < xs.length by rw [HL.out]; exact hlt))
      have HD := hidE hD
      have HB5 := hidE hb5
      have HO5 := hidE hO5
      clear z0 z1 z2 z3 z4 z5 z6 hz hO5 hb5 hD x0 x1 x2 x3 x4 x5 x6
      go_roundw
      case rel =>
        have hgb := HO1.out.lt g rfl
        have hS : Stays 54 0 DdOwn := DdOwn.stays 0
        refine ⟨i + 1, xs.set i ⟨⟨kind, rp, rc, rt, mp, mc, many⟩, p2, q2, cp2, cq2⟩, hlt, by go_num, ?_, HG.out.1, ?_, ?_⟩
        · rw [List.map_set, HEq.out]
          exact set_same HDI.out
        · intro j hj hji
          rw [List.getElem_set]
          split
          · exact (HD.out.grown HG.out.2 hgb.2).mono (by omega)
          · next hne =>
            have h0 := HE.out j (by simpa using hj) (by omega)
            exact hS.row _ _ _ _ _ _ _ _ (hS.row _ _ _ _ _ _ _ _ (hS.row _ _ _ _ _ _ _ _ h0 HOo.out (grownBy_none HA.out)) HO1.out (grownBy_none HB5.out)) HO5.out HG.out.2
        · exact ((HB.out.thru HA.out hBs).thru HB5.out (by omega)).grown HG.out.2 (by have := HB5.out.size; omega) (by intro k hk; cases hk; exact hgb.1)
      case measure => simp [intOf]; omega
    · have hki : i = ds.length := by omega
      subst hki
      have hi1 : ¬ ((ds.length : Int) < (ds.length : Int)) := by omega
      have HRes : Hid (DsFresh ds w (.returned (.slice p ds.length cap)) wr) := ⟨xs, p, cap, rfl, he, ⟨by rw [hl]; exact hO, fun x hx => by
        obtain ⟨j, hj, rfl⟩ := List.getElem_of_mem hx
        exact hE j hj (by omega)⟩, hB⟩
      clear he hO hE hB hl hd hi hge
      go_wp2_with fail
      go_ret
      exact HRes.out

end Go.Proofs.Ytnhjebdlcbhkcaf
