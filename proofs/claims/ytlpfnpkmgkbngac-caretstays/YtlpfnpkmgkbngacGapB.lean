/- Contract of mark.gapBehind. -/
import Derived.Test.YtlpfnpkmgkbngacGapA
namespace Go.Proofs.Ytlpfnpkmgkbngac
open Go.RowKit

theorem StepsAt.take {w : World} {a : Option Addr} {l : List (Int × Int)} (h : StepsAt w a l) (n : Nat) : StepsAt w a (l.take n) := by
  rcases h with h | ⟨b, off, rfl, hlt, hc⟩
  · exact Or.inl (by rw [h]; simp)
  · exact Or.inr ⟨b, off, rfl, hlt, fun i hi => by simp only [List.getElem_take]; exact hc i (by simp at hi; omega)⟩

theorem equal_n (a a' : Option Addr) (cap cap' n n' : Nat) (l m : List (Int × Int)) (w : World) (hn : n = l.length) (hn' : n' = m.length) (hl : l.length ≤ maxLen) (h : StepsAt w a l) (h' : StepsAt w a' m) :
    Calls Try.prog 134 #[.slice a n cap, .slice a' n' cap'] w fun e w' => e = .returned (.bool (decide (l = m))) ∧ Below w.heap.size w w' := by
  subst hn hn'; exact equal_any a a' cap cap' l m w hl h h'

def gapLow (pl la : List (Int × Int)) (site : Int) : Int := if pl.length < la.length ∧ la.take pl.length = pl then max 1 (lowB (la.getD pl.length (0, 0)) site) else 1
def gapHigh (pl lb : List (Int × Int)) (site : Int) : Int := if pl.length < lb.length ∧ lb.take pl.length = pl then highA (lb.getD pl.length (0, 0)) site else 200

theorem boxes3 (w : World) (v0 v1 v2 u0 u1 u2 : Value) (T T' : TypeId) : ((w.alloc (Obj.cells #[v0, v1, v2] T)).alloc (Obj.cells #[u0, u1, u2] T')).cell? ⟨w.heap.size + 1, 0, none⟩ = some u0 ∧
    ((w.alloc (Obj.cells #[v0, v1, v2] T)).alloc (Obj.cells #[u0, u1, u2] T')).cell? ⟨w.heap.size + 1, 1, none⟩ = some u1 ∧
    ((w.alloc (Obj.cells #[v0, v1, v2] T)).alloc (Obj.cells #[u0, u1, u2] T')).cell? ⟨w.heap.size + 1, 2, none⟩ = some u2 ∧
    ((w.alloc (Obj.cells #[v0, v1, v2] T)).alloc (Obj.cells #[u0, u1, u2] T')).cell? ⟨w.heap.size, 0, none⟩ = some v0 ∧
    ((w.alloc (Obj.cells #[v0, v1, v2] T)).alloc (Obj.cells #[u0, u1, u2] T')).cell? ⟨w.heap.size, 1, none⟩ = some v1 ∧
    ((w.alloc (Obj.cells #[v0, v1, v2] T)).alloc (Obj.cells #[u0, u1, u2] T')).cell? ⟨w.heap.size, 2, none⟩ = some v2 ∧
    (∀ o, ((w.alloc (Obj.cells #[v0, v1, v2] T)).alloc (Obj.cells #[u0, u1, u2] T')).frozen? ⟨w.heap.size + 1, o, none⟩ = false) ∧
    (∀ o, ((w.alloc (Obj.cells #[v0, v1, v2] T)).alloc (Obj.cells #[u0, u1, u2] T')).frozen? ⟨w.heap.size, o, none⟩ = false) ∧
    ((w.alloc (Obj.cells #[v0, v1, v2] T)).alloc (Obj.cells #[u0, u1, u2] T')).heap.size = w.heap.size + 2 ∧
    Below w.heap.size w ((w.alloc (Obj.cells #[v0, v1, v2] T)).alloc (Obj.cells #[u0, u1, u2] T')) :=
  ⟨by go_simp, by go_simp, by go_simp, by go_simp, by go_simp, by go_simp, by intro o; go_simp, by intro o; go_simp, by simp, ((Below.refl _ _).alloc (Nat.le_refl _) _).alloc (by simp) _⟩

/-- the gap's variable N, and the result's R, as they lie -/
def GapAt (w : World) (N R : Nat) (p : Value) (lo hi : Int) : Prop :=
  w.cell? ⟨N, 0, none⟩ = some p ∧ w.cell? ⟨N, 1, none⟩ = some (.int .i64 lo) ∧ w.cell? ⟨N, 2, none⟩ = some (.int .i64 hi) ∧
  w.cell? ⟨R, 0, none⟩ = some (.slice none 0 0) ∧ w.cell? ⟨R, 1, none⟩ = some (.int .i64 0) ∧ w.cell? ⟨R, 2, none⟩ = some (.int .i64 0) ∧ (∀ o, w.frozen? ⟨N, o, none⟩ = false) ∧ (∀ o, w.frozen? ⟨R, o, none⟩ = false)
theorem GapAt.below {w w' : World} {N R B : Nat} {p : Value} {lo hi : Int} (h : GapAt w N R p lo hi) (hb : Below B w w') (hN : N < B) (hR : R < B) : GapAt w' N R p lo hi := by
  obtain ⟨h1, h2, h3, h4, h5, h6, h7, h8⟩ := h
  exact ⟨(hb.cell (p := ⟨N, 0, none⟩) hN).trans h1, (hb.cell (p := ⟨N, 1, none⟩) hN).trans h2, (hb.cell (p := ⟨N, 2, none⟩) hN).trans h3, (hb.cell (p := ⟨R, 0, none⟩) hR).trans h4, (hb.cell (p := ⟨R, 1, none⟩) hR).trans h5, (hb.cell (p := ⟨R, 2, none⟩) hR).trans h6,
    fun o => (hb.frozen (p := ⟨N, o, none⟩) hN).trans (h7 o), fun o => (hb.frozen (p := ⟨R, o, none⟩) hR).trans (h8 o)⟩

theorem GapAt.setLow {w : World} {N R : Nat} {p : Value} {lo hi : Int} (h : GapAt w N R p lo hi) (hN : R ≠ N) (v : Int) : GapAt (w.setCell ⟨N, 1, none⟩ (.int .i64 v)) N R p v hi := by
  obtain ⟨h1, h2, h3, h4, h5, h6, h7, h8⟩ := h
  refine ⟨?_, World.cell?_setCell_same _ _ _ h2, ?_, cell_other hN h4, cell_other hN h5, cell_other hN h6, fun o => by rw [World.frozen?_setCell]; exact h7 o, fun o => by rw [World.frozen?_setCell]; exact h8 o⟩
  · rw [World.cell?_setCell_other _ _ _ _ (by simp)]; exact h1
  · rw [World.cell?_setCell_other _ _ _ _ (by simp)]; exact h3
theorem GapAt.setHigh {w : World} {N R : Nat} {p : Value} {lo hi : Int} (h : GapAt w N R p lo hi) (hN : R ≠ N) (v : Int) : GapAt (w.setCell ⟨N, 2, none⟩ (.int .i64 v)) N R p lo v := by
  obtain ⟨h1, h2, h3, h4, h5, h6, h7, h8⟩ := h
  refine ⟨?_, ?_, World.cell?_setCell_same _ _ _ h3, cell_other hN h4, cell_other hN h5, cell_other hN h6, fun o => by rw [World.frozen?_setCell]; exact h7 o, fun o => by rw [World.frozen?_setCell]; exact h8 o⟩
  · rw [World.cell?_setCell_other _ _ _ _ (by simp)]; exact h1
  · rw [World.cell?_setCell_other _ _ _ _ (by simp)]; exact h2

def cutB (pl la : List (Int × Int)) : Bool := decide (pl.length < la.length ∧ la.take pl.length = pl)

theorem cutB_in {pl la : List (Int × Int)} {n : Nat} (hn : n = pl.length) (h : n < la.length) : cutB pl la = decide (la.take n = pl) := by
  subst hn; unfold cutB; simp [h]
theorem cutB_out {pl la : List (Int × Int)} {n : Nat} (hn : n = pl.length) (h : ¬ n < la.length) : cutB pl la = false := by
  subst hn; unfold cutB; simp [h]
theorem gapLow_in {pl la : List (Int × Int)} {n : Nat} (hn : n = pl.length) (hl : n < la.length) (site : Int) (h : cutB pl la = true) : gapLow pl la site = max 1 (lowB la[n] site) := by
  subst hn; unfold gapLow; rw [if_pos (of_decide_eq_true h), List.getD_eq_getElem?_getD, List.getElem?_eq_getElem hl]; rfl
theorem gapLow_out {pl la : List (Int × Int)} (site : Int) (h : cutB pl la = false) : gapLow pl la site = 1 := by
  unfold gapLow; rw [if_neg (of_decide_eq_false h)]
theorem gapHigh_in {pl la : List (Int × Int)} {n : Nat} (hn : n = pl.length) (hl : n < la.length) (site : Int) (h : cutB pl la = true) : gapHigh pl la site = highA la[n] site := by
  subst hn; unfold gapHigh; rw [if_pos (of_decide_eq_true h), List.getD_eq_getElem?_getD, List.getElem?_eq_getElem hl]; rfl
theorem gapHigh_out {pl la : List (Int × Int)} (site : Int) (h : cutB pl la = false) : gapHigh pl la site = 200 := by
  unfold gapHigh; rw [if_neg (of_decide_eq_false h)]
theorem cutB_lt {pl la : List (Int × Int)} {n : Nat} (hn : n = pl.length) (h : cutB pl la = true) : n < la.length := by
  subst hn; exact (of_decide_eq_true h).1

set_option maxHeartbeats 1000000 in
theorem gapBehind_any (p a b : Option Addr) (cp ca cb n : Nat) (pl la lb : List (Int × Int)) (site : Int) (w : World) (hn : n = pl.length) (hp10 : pl.length ≤ 10) (hla : la.length ≤ 10) (hlb : lb.length ≤ 10)
   (hca : la.length ≤ ca) (hcb : lb.length ≤ cb)
   (hp : StepsAt w p pl) (ha : StepsAt w a la) (hb : StepsAt w b lb) (oa : okSteps la = true) (ob : okSteps lb = true) :
    Calls Try.prog 109 #[.slice p n cp, .slice a la.length ca, .slice b lb.length cb, .int .i64 site] w fun e w' => e = .returned (.agg #[.slice p n cp, .int .i64 (gapLow pl la site), .int .i64 (gapHigh pl lb site)]) ∧ Below w.heap.size w w' := by
  have HN : Hid (n = pl.length) := hn
  rw [← hn] at hp10
  clear hn
  go_enter Try.func109, Try.ntmps109
  go_upto_region 3 with fail
  obtain ⟨q0, q1, q2, r0, r1, r2, f1, f0, hz, hb0⟩ := boxes3 w (.slice none 0 0) (.int .i64 0) (.int .i64 0) (.slice p n cp) (.int .i64 1) (.int .i64 200) 107 107
  generalize (w.alloc (Obj.cells #[.slice none 0 0, .int .i64 0, .int .i64 0] 107)).alloc (Obj.cells #[.slice p n cp, .int .i64 1, .int .i64 200] 107) = W at *
  have G0 : GapAt W (w.heap.size + 1) w.heap.size (.slice p n cp) 1 200 := ⟨q0, q1, q2, r0, r1, r2, f1, f0⟩
  clear q0 q1 q2 r0 r1 r2 f1 f0
  have HZ : Hid (W.heap.size = w.heap.size + 2) := hz
  clear hz
  go_cut [25] (fun t wc => t = .bool (cutB pl la) ∧ Below W.heap.size W wc)
  case first =>
    by_cases h1 : n < la.length
    · have hi1 : (n : Int) < la.length := by omega
      have i3 : n ≤ ca := by omega
      go_wp2_with (go_at_call 134; refine (equal_n _ _ _ _ _ _ (la.take n) pl _ (by simp; omega) HN.out (by simp [maxLen]; omega) (by exact (ha.below hb0 (Nat.le_refl _)).take n) (by exact hp.below hb0 (Nat.le_refl _))).mono ?_; rintro e w' ⟨rfl, hb1⟩)
      go_meet
      refine ⟨?_, hb1⟩
      rw [cutB_in HN.out h1]
    · go_wp2
      go_meet
      refine ⟨?_, Below.refl _ _⟩
      rw [cutB_out HN.out h1]
  case rest =>
    obtain ⟨rfl, hb1⟩ := hcut
    replace G0 := G0.below hb1 (by rw [HZ.out]; omega) (by rw [HZ.out]; omega)
    have hb2 : Below w.heap.size w wc := hb0.thru hb1 hb0.size
    have hz : w.heap.size + 2 ≤ wc.heap.size := by have := hb1.size; rw [HZ.out] at this; exact this
    clear hb0 hb1 HZ
    go_upto_if 25 with fail
    go_cut [] (fun wd => GapAt wd (w.heap.size + 1) w.heap.size (.slice p n cp) (gapLow pl la site) 200 ∧ Below w.heap.size w wd ∧ w.heap.size + 2 ≤ wd.heap.size)
    case first =>
      cases hB : cutB pl la with
      | false =>
        have HL : Hid (gapLow pl la site = 1) := gapLow_out site hB
        clear hB
        go_wp2
        go_meet
        rw [HL.out]
        exact ⟨G0, hb2, hz⟩
      | true =>
        have hlt := cutB_lt HN.out hB
        have HL : Hid (gapLow pl la site = max 1 (lowB (la[n].1, la[n].2) site)) := gapLow_in HN.out hlt site hB
        have hok := okStep_iff.1 (okSteps_get oa hlt)
        obtain ⟨d1, d2, d3, d4⟩ := hok
        rcases ha.below hb2 (Nat.le_refl _) with hs | ⟨ba, off, rfl, hbl, hc⟩
        · simp [hs] at hlt
        have hc0 := (hc n hlt).1
        have hc1 := (hc n hlt).2
        clear hB hc
        generalize la[n].1 = dd at *
        generalize la[n].2 = ss at *
        have hi1 : (n : Int) < la.length := by omega
        obtain ⟨g0, g1, g2, g3, g4, g5, g6, g7⟩ := id G0
        go_wp2
        have hN1 : w.heap.size + 1 < wc.heap.size := by omega
        go_region_with (first | (go_at_call 135; refine (lowestBehind_any _ _ _ _ d1 d2).mono ?_; rintro e w' ⟨rfl, hb3⟩; obtain ⟨hcc, hff⟩ := bcellN hb3 wc.heap.size (Nat.le_refl _)))
        all_goals go_wp2
        all_goals
          go_meet
          have G1 := GapAt.below (w := wc.drew) G0 hb3 (show w.heap.size + 1 < wc.heap.size by omega) (show w.heap.size < wc.heap.size by omega)
          rw [HL.out]
          have hz3 : wc.heap.size ≤ w'.heap.size := hb3.size
          refine ⟨?_, (hb2.drew.thru hb3 hb2.size).setCell (by simp) _, by simp [World.setCell]; omega⟩
          first
            | rw [show max 1 (lowB (dd, ss) site) = lowB (dd, ss) site by omega]; exact G1.setLow (by omega) _
            | rw [show max 1 (lowB (dd, ss) site) = 1 by omega]; exact G1.setLow (by omega) _
    case rest =>
      obtain ⟨G1, hb3, hz3⟩ := hcut
      clear hz hb2 G0
      go_upto_region 5 with fail
      go_cut [46] (fun t we => t = .bool (cutB pl lb) ∧ Below wc.heap.size wc we)
      case first =>
        by_cases h1 : n < lb.length
        · have hi1 : (n : Int) < lb.length := by omega
          have i3 : n ≤ cb := by omega
          go_wp2_with (go_at_call 134; refine (equal_n _ _ _ _ _ _ (lb.take n) pl _ (by simp; omega) HN.out (by simp [maxLen]; omega) (by exact (hb.below hb3 (Nat.le_refl _)).take n) (by exact hp.below hb3 (Nat.le_refl _))).mono ?_; rintro e w' ⟨rfl, hb1⟩)
          go_meet
          refine ⟨?_, hb1⟩
          rw [cutB_in HN.out h1]
        · go_wp2
          go_meet
          refine ⟨?_, Below.refl _ _⟩
          rw [cutB_out HN.out h1]
      case rest =>
        obtain ⟨rfl, hb1⟩ := hcut
        replace G1 := G1.below hb1 (by omega) (by omega)
        have hb2 : Below w.heap.size w wc := hb3.thru hb1 hb3.size
        have hz : w.heap.size + 2 ≤ wc.heap.size := by have := hb1.size; omega
        clear hb1 hb3 hz3
        go_upto_if 46 with fail
        go_cut [] (fun wd => GapAt wd (w.heap.size + 1) w.heap.size (.slice p n cp) (gapLow pl la site) (gapHigh pl lb site) ∧ Below w.heap.size w wd ∧ w.heap.size + 2 ≤ wd.heap.size)
        case first =>
          cases hB : cutB pl lb with
          | false =>
            have HL : Hid (gapHigh pl lb site = 200) := gapHigh_out site hB
            clear hB
            go_wp2
            go_meet
            rw [HL.out]
            exact ⟨G1, hb2, hz⟩
          | true =>
            have hlt := cutB_lt HN.out hB
            have HL : Hid (gapHigh pl lb site = highA (lb[n].1, lb[n].2) site) := gapHigh_in HN.out hlt site hB
            have hok := okStep_iff.1 (okSteps_get ob hlt)
            obtain ⟨d1, d2, d3, d4⟩ := hok
            rcases hb.below hb2 (Nat.le_refl _) with hs | ⟨ba, off, rfl, hbl, hc⟩
            · simp [hs] at hlt
            have hc0 := (hc n hlt).1
            have hc1 := (hc n hlt).2
            clear hB hc
            generalize lb[n].1 = dd at *
            generalize lb[n].2 = ss at *
            have hi1 : (n : Int) < lb.length := by omega
            obtain ⟨g0, g1, g2, g3, g4, g5, g6, g7⟩ := id G1
            have hN1 : w.heap.size + 1 < wc.heap.size := by omega
            go_wp2_with (go_at_call 136; refine (highestAhead_any _ _ _ _ d1 d2).mono ?_; rintro e w' ⟨rfl, hb3⟩; obtain ⟨hcc, hff⟩ := bcellN hb3 wc.heap.size (Nat.le_refl _))
            go_meet
            have G2 := G1.below hb3 (show w.heap.size + 1 < wc.heap.size by omega) (show w.heap.size < wc.heap.size by omega)
            rw [HL.out]
            have hz3 : wc.heap.size ≤ w'.heap.size := hb3.size
            exact ⟨G2.setHigh (by omega) _, (hb2.thru hb3 hb2.size).setCell (by simp) _, by simp [World.setCell]; omega⟩
        case rest =>
          obtain ⟨⟨g0, g1, g2, g3, g4, g5, g6, g7⟩, hb3, hz3⟩ := hcut
          go_wp2
          refine bodyPost_ret (v := .agg #[.slice p n cp, .int .i64 (gapLow pl la site), .int .i64 (gapHigh pl lb site)]) (by simp [results, Try.results109, go_sem, g3, g4, g5]) rfl ⟨rfl, ?_⟩
          exact ((hb3.setCell (by simp) _).setCell (by simp) _).setCell (by simp) _
end Go.Proofs.Ytlpfnpkmgkbngac
