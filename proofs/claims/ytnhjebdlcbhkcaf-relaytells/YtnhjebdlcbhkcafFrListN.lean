/- Contract of fresh.list at notes, of fresh.Notes. -/
import Derived.Test.YtnhjebdlcbhkcafFrNote
import Derived.Test.YtnhjebdlcbhkcafRelPu
namespace Go.Proofs.Ytnhjebdlcbhkcaf
open Go.RowKit

/-- a note with where its lists lie -/
structure RN where
  n : Nt
  p : Option Addr
  q : Option Addr
  cp : Nat
  cq : Nat
def RN.cells (r : RN) : List Value := [.int .i64 r.n.site, .int .i64 r.n.number, .slice r.p r.n.needs.length r.cp, .slice r.q r.n.deeds.length r.cq]
/-- its lists are the call's own -/
def NtO (w : World) (base : Nat) (r : RN) : Prop := NtOwn w base r.n r.p r.q r.cp r.cq

theorem DdOwn.rowN {w w' : World} {base K n : Nat} {v : Value} {ys : List Value} {x : RD} (h : DdOwn w base x) {b' : Nat} (ho : w.ownsRow b' 28 K v n ys) (hg : w.grownBy w' v.ownBlock) : DdOwn w' base x :=
  ⟨h.run.kept hg (types_apart h.run ho (by decide)), h.mark.kept hg (types_apart h.mark ho (by decide)), h.rl, h.ml, h.tl, h.n0, h.n1⟩
theorem NtO.stays (R : Nat) : Stays 28 R NtO :=
  ⟨fun _ _ _ _ h hR hg => NtOwn.far h hR hg,
   fun _ _ _ _ _ _ _ _ h ho hg => by
    obtain ⟨rs, e, hd⟩ := h.deeds
    exact ⟨h.nl, h.dl, h.needs.kept hg (types_apart h.needs ho (by decide)), rs, e, hd.own.kept hg (types_apart hd.own ho (by decide)), fun x hx => (hd.each x hx).rowN ho hg⟩⟩
theorem NtO.mono {w : World} {base base' : Nat} {x : RN} (h : NtO w base x) (hb : base' ≤ base) : NtO w base' x := by
  obtain ⟨rs, e, hd⟩ := h.deeds
  exact ⟨h.nl, h.dl, owns_base h.needs hb, rs, e, owns_base hd.own hb, fun x hx => (hd.each x hx).mono hb⟩

theorem set_far4 (x : RN) (l : List Value) (i j : Nat) (v : Value) : (x.cells ++ l).set ((i + 1) * 4 + j) v = x.cells ++ l.set (i * 4 + j) v := by
  have hc : x.cells.length = 4 := rfl
  rw [List.set_append_right _ _ (by omega), hc]
  congr 2
  omega
/-- a thing of a row of four cells, written -/
theorem setN4 (y : RN) : ∀ (xs : List RN) (i : Nat), i < xs.length → ((((xs.flatMap RN.cells).set (i * 4) (.int .i64 y.n.site)).set (i * 4 + 1) (.int .i64 y.n.number)).set (i * 4 + 2) (.slice y.p y.n.needs.length y.cp)).set (i * 4 + 3) (.slice y.q y.n.deeds.length y.cq) = (xs.set i y).flatMap RN.cells
  | [], i, h => by simp at h
  | x :: l, 0, _ => by
    simp [RN.cells]
  | x :: l, i + 1, h => by
    have ih := setN4 y l i (by simpa using h)
    rw [List.flatMap_cons, List.set_cons_succ, List.flatMap_cons, ← ih, show (x.cells ++ l.flatMap RN.cells).set ((i + 1) * 4) (.int .i64 y.n.site) = x.cells ++ (l.flatMap RN.cells).set (i * 4) (.int .i64 y.n.site) from set_far4 x _ i 0 _]
    simp only [set_far4]

def putR4 (w : World) (g o : Nat) (y : RN) : World := (((w.setCell ⟨g, o, none⟩ (.int .i64 y.n.site)).setCell ⟨g, o + 1, none⟩ (.int .i64 y.n.number)).setCell ⟨g, o + 2, none⟩ (.slice y.p y.n.needs.length y.cp)).setCell ⟨g, o + 3, none⟩ (.slice y.q y.n.deeds.length y.cq)
theorem putR4_owns {w : World} {base g n cap i : Nat} {xs : List RN} {T : TypeId} (y : RN) (h : w.ownsRow base T 4 (.slice (some ⟨g, 0, none⟩) n cap) n (xs.flatMap RN.cells)) (hi : i < xs.length) :
    (putR4 w g (i * 4) y).ownsRow base T 4 (.slice (some ⟨g, 0, none⟩) n cap) n ((xs.set i y).flatMap RN.cells) ∧ w.grownBy (putR4 w g (i * 4) y) (some g) := by
  obtain ⟨h0, g0⟩ := h.stored (i * 4) (.int .i64 y.n.site)
  obtain ⟨h1, g1⟩ := h0.stored (i * 4 + 1) (.int .i64 y.n.number)
  obtain ⟨h2, g2⟩ := h1.stored (i * 4 + 2) (.slice y.p y.n.needs.length y.cp)
  obtain ⟨h3, g3⟩ := h2.stored (i * 4 + 3) (.slice y.q y.n.deeds.length y.cq)
  rw [setN4 y xs i hi] at h3
  exact ⟨h3, ((g0.trans g1).trans g2).trans g3⟩

theorem notes_rows {w : World} {q : Option Addr} {ds : List Nt} (h : NotesAt w q ds) : ∃ xs : List RN, xs.map RN.n = ds ∧ ∀ j u, (xs.flatMap RN.cells)[j]? = some u → ∃ b off, q = some ⟨b, off, none⟩ ∧ w.cell? ⟨b, off + j, none⟩ = some u := by
  rcases h with rfl | ⟨b, o, rfl, hlt, hc⟩
  · exact ⟨[], rfl, fun j u h => by simp at h⟩
  · have k : ∀ (l : List Nt) (o : Nat), (∀ i (h : i < l.length), ∃ p cp q cq, w.cell? ⟨b, o + i * 4, none⟩ = some (.int .i64 l[i].site) ∧ w.cell? ⟨b, o + i * 4 + 1, none⟩ = some (.int .i64 l[i].number) ∧ w.cell? ⟨b, o + i * 4 + 2, none⟩ = some (.slice p l[i].needs.length cp) ∧ w.cell? ⟨b, o + i * 4 + 3, none⟩ = some (.slice q l[i].deeds.length cq)) → ∃ xs : List RN, xs.map RN.n = l ∧ ∀ j u, (xs.flatMap RN.cells)[j]? = some u → w.cell? ⟨b, o + j, none⟩ = some u := by
      intro l
      induction l with
      | nil => intro o _; exact ⟨[], rfl, fun j u h => by simp at h⟩
      | cons d l ih =>
        intro o h
        obtain ⟨xs, e, hx⟩ := ih (o + 4) fun i hi => by
          obtain ⟨p, cp, q, cq, h0, h1, h2, h3⟩ := h (i + 1) (by simpa using hi)
          have ea : o + (i + 1) * 4 = o + 4 + i * 4 := by omega
          rw [ea] at h0 h1 h2 h3
          exact ⟨p, cp, q, cq, h0, h1, h2, h3⟩
        obtain ⟨p, cp, q, cq, h0, h1, h2, h3⟩ := h 0 (by simp)
        refine ⟨⟨d, p, q, cp, cq⟩ :: xs, by rw [List.map_cons, e], fun j u hj => ?_⟩
        rw [List.flatMap_cons] at hj
        have hc : (⟨d, p, q, cp, cq⟩ : RN).cells.length = 4 := rfl
        rcases Nat.lt_or_ge j 4 with hlt | hge
        · rw [List.getElem?_append_left (by omega)] at hj
          rcases (show j = 0 ∨ j = 1 ∨ j = 2 ∨ j = 3 by omega) with rfl | rfl | rfl | rfl
          · exact h0.trans hj
          · exact h1.trans hj
          · exact h2.trans hj
          · exact h3.trans hj
        · rw [List.getElem?_append_right (by omega), hc] at hj
          have := hx _ _ hj
          rwa [show o + 4 + (j - 4) = o + j by omega] at this
    obtain ⟨xs, e, hx⟩ := k ds o fun i hi => by
      obtain ⟨p, cp, q, cq, h0, h1, h2, h3, _⟩ := hc i hi
      exact ⟨p, cp, q, cq, h0, h1, h2, h3⟩
    exact ⟨xs, e, fun j u hj => ⟨b, o, rfl, hx j u hj⟩⟩

theorem rn_len : ∀ xs : List RN, (xs.flatMap RN.cells).length = xs.length * 4
  | [] => rfl
  | x :: l => by rw [List.flatMap_cons, List.length_append, rn_len l, List.length_cons, show x.cells.length = 4 from rfl]; omega
theorem rn_one (xs : List RN) : ∀ u ∈ xs.flatMap RN.cells, u.oneCell' = true := by
  intro u hu
  obtain ⟨x, _, hu⟩ := List.mem_flatMap.1 hu
  simp only [RN.cells, List.mem_cons, List.not_mem_nil, or_false] at hu
  rcases hu with rfl | rfl | rfl | rfl <;> rfl

/-- a copy of a row of notes -/
def NsFresh (ds : List Nt) (w : World) (e : Ending) (w' : World) : Prop :=
  ∃ (rs : List RN) (p : Option Addr) (cap : Nat), e = .returned (.slice p ds.length cap) ∧ rs.map RN.n = ds ∧ RowOwn 28 4 RN.cells NtO w' w.heap.size (.slice p ds.length cap) rs ∧ Below w.heap.size w w'

set_option maxRecDepth 100000 in
set_option maxHeartbeats 4000000 in
theorem frListN_ok (q : Option Addr) (cq : Nat) (ds : List Nt) (w : World) (h : NotesAt w q ds) (hd : ∀ d ∈ ds, NtSmall d) (hn : ds.length ≤ 100000) :
    Calls Try.prog 24 #[.slice q ds.length cq, .func (.func 16) #[] #[]] w (NsFresh ds w) := by
  obtain ⟨xs0, he0, hx0⟩ := notes_rows h
  have hl0 : xs0.length = ds.length := by rw [← he0, List.length_map]
  have H1 := hidE (cloneN_ok q ds.length cq (xs0.flatMap RN.cells) w (by rw [rn_len, hl0]) (by omega) hx0 (rn_one xs0))
  have HW := hidE h
  clear hx0 h
  go_enter Try.func24, Try.ntmps24
  go_upto_region 2 with (go_at_call 38; refine H1.out.mono ?_; rintro r w1 ⟨p, cap, rfl, hO, hb⟩)
  have HO := hidE hO
  have HB := hidE hb
  clear hO hb H1
  go_wp2_with fail
  go_loopw [12] (fun vi wr => ∃ (i : Nat) (xs : List RN), i ≤ ds.length ∧ vi = .int .i64 i ∧ xs.map RN.n = ds ∧ wr.ownsRow w.heap.size 28 4 (.slice p ds.length cap) ds.length (xs.flatMap RN.cells) ∧ (∀ j (h : j < xs.length), j < i → NtO wr w.heap.size xs[j]) ∧ Below w.heap.size w wr) (fun vi _ => ds.length - (intOf vi).toNat)
  case atStart => exact ⟨0, xs0, Nat.zero_le _, rfl, he0, HO.out, fun j _ h => absurd h (Nat.not_lt_zero _), HB.out⟩
  case round =>
    clear HO HB
    obtain ⟨i, xs, hi, rfl, he, hO, hE, hB⟩ := hrel
    have hl : xs.length = ds.length := by rw [← he, List.length_map]
    rcases Nat.lt_or_ge i ds.length with hlt | hge
    · have hi1 : (i : Int) < ds.length := by omega
      obtain ⟨g, cap', e⟩ := owns_form hO (by omega)
      cases e
      rcases HW.out with e0 | ⟨b, o, rfl, hb, hc⟩
      · simp [e0] at hlt
      obtain ⟨p1, cp1, q1, cq1, c0, c1, c2, c3, hda⟩ := hc i hlt
      have hbw := fun j => (hB.cell (p := ⟨b, j, none⟩) hb)
      rw [← hbw] at c0 c1 c2 c3
      have hDs := hidE (hd _ (List.getElem_mem hlt))
      have hDa := hidE (hda.below hB)
      have HO := hidE hO
      have HE := hidE hE
      have HB := hidE hB
      have hBs := hB.size
      have HL := hidE hl
      have HEq := hidE he
      have HDI := hidE (List.getElem?_eq_getElem hlt)
      clear hbw hc hda hO hE hB hl he
      generalize ds[i] = d at *
      obtain ⟨site, number, needs, deeds⟩ := d
      generalize hnn : ds.length = n at *
      have HNN := hidE hnn
      clear hnn
      have hA := alloc_below wr (Obj.cells #[.int .i64 site, .int .i64 number, .slice p1 needs.length cp1, .slice q1 deeds.length cq1] 28)
      have hX := Blk.new wr #[.int .i64 site, .int .i64 number, .slice p1 needs.length cp1, .slice q1 deeds.length cq1] 28
      have HOo := hidE HO.out
      have HO1 := hidE (HO.out.alloc (Obj.cells #[.int .i64 site, .int .i64 number, .slice p1 needs.length cp1, .slice q1 deeds.length cq1] 28))
      have H2 := hidE (frNote_ok ⟨site, number, needs, deeds⟩ p1 q1 cp1 cq1 _ (hDa.out.below hA) hDs.out)
      go_upto_region 5 with fail
      generalize wr.alloc (Obj.cells #[.int .i64 site, .int .i64 number, .slice p1 needs.length cp1, .slice q1 deeds.length cq1] 28) = Wb at *
      have x0 := hX.is 0 rfl
      have x1 := hX.is 1 rfl
      have x2 := hX.is 2 rfl
      have x3 := hX.is 3 rfl
      have hAs := hA.size
      have HA := hidE hA
      clear hA hX HO c0 c1 c2 c3
      go_wp2_with (go_at_call 16; refine H2.out.mono ?_; rintro r w5 ⟨p2, q2, cp2, cq2, rfl, hD, hb5⟩; unfold ntV; have hO5 := HO1.out.kept (grownBy_none hb5 (row := none)) (Or.inr (by simp [Value.ownBlock])); have hz := fun j => hO5.frozenAt j; obtain ⟨v0, z0⟩ := row_cell hO5 (i * 4) (by omega); obtain ⟨v1, z1⟩ := row_cell hO5 (i * 4 + 1) (by omega); obtain ⟨v2, z2⟩ := row_cell hO5 (i * 4 + 2) (by omega); obtain ⟨v3, z3⟩ := row_cell hO5 (i * 4 + 3) (by omega))
      have HG := hidE (putR4_owns ⟨⟨site, number, needs, deeds⟩, p2, q2, cp2, cq2⟩ hO5 (show i < xs.length by rw [HL.out]; exact hlt))
      have HD := hidE hD
      have HB5 := hidE hb5
      have HO5 := hidE hO5
      clear z0 z1 z2 z3 hz hO5 hb5 hD x0 x1 x2 x3
      go_roundw
      case rel =>
        have hgb := HO1.out.lt g rfl
        have hS : Stays 28 g NtO := NtO.stays g
        refine ⟨i + 1, xs.set i ⟨⟨site, number, needs, deeds⟩, p2, q2, cp2, cq2⟩, hlt, by go_num, ?_, HG.out.1, ?_, ?_⟩
        · rw [List.map_set, HEq.out]
          exact set_same HDI.out
        · intro j hj hji
          rw [List.getElem_set]
          split
          · exact NtO.mono (hS.far _ _ _ _ (show NtO w5 Wb.heap.size _ from HD.out) hgb.2 HG.out.2) (by omega)
          · next hne =>
            have h0 := HE.out j (by simpa using hj) (by omega)
            exact hS.row _ _ _ _ _ _ _ _ (hS.row _ _ _ _ _ _ _ _ (hS.row _ _ _ _ _ _ _ _ h0 HOo.out (grownBy_none HA.out)) HO1.out (grownBy_none HB5.out)) HO5.out HG.out.2
        · exact ((HB.out.thru HA.out hBs).thru HB5.out (by omega)).grown HG.out.2 (by have := HB5.out.size; omega) (by intro k hk; cases hk; exact hgb.1)
      case measure => simp [intOf]; omega
    · have hki : i = ds.length := by omega
      subst hki
      have hi1 : ¬ ((ds.length : Int) < (ds.length : Int)) := by omega
      have HRes : Hid (NsFresh ds w (.returned (.slice p ds.length cap)) wr) := ⟨xs, p, cap, rfl, he, ⟨by rw [hl]; exact hO, fun x hx => by
        obtain ⟨j, hj, rfl⟩ := List.getElem_of_mem hx
        exact hE j hj (by omega)⟩, hB⟩
      clear he hO hE hB hl hd hi hge
      go_wp2_with fail
      go_ret
      exact HRes.out

set_option maxRecDepth 100000 in
set_option maxHeartbeats 1000000 in
theorem frNotes_ok (q : Option Addr) (cq : Nat) (ds : List Nt) (w : World) (h : NotesAt w q ds) (hd : ∀ d ∈ ds, NtSmall d) (hn : ds.length ≤ 100000) :
    Calls Try.prog 15 #[.slice q ds.length cq] w (NsFresh ds w) := by
  have H := hidE (frListN_ok q cq ds w h hd hn)
  clear h hd hn
  go_enter Try.func15, Try.ntmps15
  go_wp2_with (go_at_call 24; refine H.out.mono ?_; intro r w1 hF; have HF := hidE hF; obtain ⟨rs, p, cap, rfl, _⟩ := hF)
  go_ret
  exact HF.out

end Go.Proofs.Ytnhjebdlcbhkcaf
