/- Contract of mark.gapBehind. -/
import Derived.Test.YtnhjebdlcbhkcaeGreatGapA
namespace Go.Proofs.YtnhjebdlcbhkcaeGreat
open Go.RowKit

theorem StepsAt.take {w : World} {a : Option Addr} {l : List (Int × Int)} (h : StepsAt w a l) (n : Nat) : StepsAt w a (l.take n) := by
  rcases h with h | ⟨b, off, rfl, hlt, hc⟩
  · exact Or.inl (by rw [h]; simp)
  · exact Or.inr ⟨b, off, rfl, hlt, fun i hi => by simp only [List.getElem_take]; exact hc i (by simp at hi; omega)⟩

theorem equal_n (a a' : Option Addr) (cap cap' n n' : Nat) (l m : List (Int × Int)) (w : World) (hn : n = l.length) (hn' : n' = m.length) (hl : l.length ≤ maxLen) (h : StepsAt w a l) (h' : StepsAt w a' m) :
    Calls Tryz.prog 240 #[.slice a n cap, .slice a' n' cap'] w fun e w' => e = .returned (.bool (decide (l = m))) ∧ Below w.heap.size w w' := by
  subst hn hn'; exact equal_any a a' cap cap' l m w hl h h'

def gapLow (pl la : List (Int × Int)) (site : Int) : Int := if pl.length < la.length ∧ la.take pl.length = pl then max 1 (lowB (la.getD pl.length (0, 0)) site) else 1
def gapHigh (pl lb : List (Int × Int)) (site : Int) : Int := if pl.length < lb.length ∧ lb.take pl.length = pl then highA (lb.getD pl.length (0, 0)) site else 200

theorem boxes3 (w : World) (v0 v1 v2 u0 u1 u2 : Value) (T T' : TypeId) : ((w.alloc (Obj.cells #[v0, v1, v2] T)).alloc (Obj.cells #[u0, u1, u2] T')).cell? ⟨w.heap.size + 1, 0, none⟩ = some u0 ∧
    ((w.alloc (Obj.cells #[v0, v1, v2] T)).alloc (Obj.cells #[u0, u1, u2] T')).cell? ⟨w.heap.size + 1, 1, none⟩ = some u1 ∧
    ((w.alloc (Obj.cells #[v0, v1, v2] T)).alloc (Obj.cells #[u0, u1, u2] T')).cell? ⟨w.heap.size + 1, 2, none⟩ = some u2 ∧
    ((w.alloc (Obj.cells #[v0, v1, v2] T)).alloc (Obj.cells #[u0, u1, u2] T')).cell? ⟨w.heap.size, 0, none⟩ = some v0 ∧
    ((w.alloc (Obj.cells #[v0, v1, v2] T)).alloc (Obj.cells #[u0, u1, u2] T')).cell? ⟨w.heap.size, 1, none⟩ = some v1 ∧
    ((w.alloc (Obj.cells #[v0, v1, v2] T)).alloc (Obj.cells #[u0, u1, u2] T')).cell? ⟨w.heap.size, 2, none⟩ = some v2 ∧
    (∀ o, ((w.alloc (Obj.cells #[v0, v1, v2] T)).alloc (Obj.cells #[u0, u1, u2] T')).frozen? ⟨w.heap.size + 1, o, none⟩ = false) ∧
    (∀ o, ((w.alloc (Obj.cells #[v0, v1, v2] T)).alloc (Obj.cells #[u0, u1, u2] T')).frozen? ⟨w.heap.size, o, none⟩ = false) ∧
    ((w.alloc (Obj.cells #[v0, v1, v2] T)).alloc (Obj.cells #[u0, u1, u2] T')).heap.size = w.heap.size + 2 ∧
    Below w.heap.size w ((w.alloc (Obj.cells #[v0, v1, v2] T)).alloc (Obj.cells #[u0, u1, u2] T')) :=
  ⟨by go_simp, by go_simp, by go_simp, by go_simp, by go_simp, by go_simp, by intro o; go_simp, by intro o; go_simp, by simp, ((Below.refl _ _).alloc (Nat.le_refl _) _).alloc (by simp) _⟩

def GapAt (w : World) (N R : Nat) (p : Value) (lo hi : Int) : Prop :=
  w.cell? ⟨N, 0, none⟩ = some p ∧ w.cell? ⟨N, 1, none⟩ = some (.int .i64 lo) ∧ w.cell? ⟨N, 2, none⟩ = some (.int .i64 hi) ∧
  w.cell? ⟨R, 0, none⟩ = some (.slice none 0 0) ∧ w.cell? ⟨R, 1, none⟩ = some (.int .i64 0) ∧ w.cell? ⟨R, 2, none⟩ = some (.int .i64 0) ∧ (∀ o, w.frozen? ⟨N, o, none⟩ = false) ∧ (∀ o, w.frozen? ⟨R, o, none⟩ = false)
theorem GapAt.below {w w' : World} {N R B : Nat} {p : Value} {lo hi : Int} (h : GapAt w N R p lo hi) (hb : Below B w w') (hN : N < B) (hR : R < B) : GapAt w' N R p lo hi := by
  obtain ⟨h1, h2, h3, h4, h5, h6, h7, h8⟩ := h
  exact ⟨(hb.cell (p := ⟨N, 0, none⟩) hN).trans h1, (hb.cell (p := ⟨N, 1, none⟩) hN).trans h2, (hb.cell (p := ⟨N, 2, none⟩) hN).trans h3, (hb.cell (p := ⟨R, 0, none⟩) hR).trans h4, (hb.cell (p := ⟨R, 1, none⟩) hR).trans h5, (hb.cell (p := ⟨R, 2, none⟩) hR).trans h6,
    fun o => (hb.frozen (p := ⟨N, o, none⟩) hN).trans (h7 o), fun o => (hb.frozen (p := ⟨R, o, none⟩) hR).trans (h8 o)⟩

theorem GapAt.setLow {w : World} {N R : Nat} {p : Value} {lo hi : Int} (h : GapAt w N R p lo hi) (hN : R ≠ N) (v : Int) : GapAt (w.setCell ⟨N, 1, none⟩ (.int .i64 v)) N R p v hi := by
  obtain ⟨h1, h2, h3, h4, h5, h6, h7, h8⟩ := h
  refine ⟨?_, World.cell?_setCell_same _ _ _ h2, ?_, cell_other hN h4, cell_other hN h5, cell_other hN h6, fun o => by rw [World.frozen?_setCell]; exact h7 o, fun o => by rw [World.frozen?_setCell]; exact h8 o⟩
  · rw [World.cell?_setCell_other _ _ _ _ (by simp)]; exact h1
  · rw [World.cell?_setCell_other _ _ _ _ (by simp)]; exact h3
theorem GapAt.setHigh {w : World} {N R : Nat} {p : Value} {lo hi : Int} (h : GapAt w N R p lo hi) (hN : R ≠ N) (v : Int) : GapAt (w.setCell ⟨N, 2, none⟩ (.int .i64 v)) N R p lo v := by
  obtain ⟨h1, h2, h3, h4, h5, h6, h7, h8⟩ := h
  refine ⟨?_, ?_, World.cell?_setCell_same _ _ _ h3, cell_other hN h4, cell_other hN h5, cell_other hN h6, fun o => by rw [World.frozen?_setCell]; exact h7 o, fun o => by rw [World.frozen?_setCell]; exact h8 o⟩
  · rw [World.cell?_setCell_other _ _ _ _ (by simp)]; exact h1
  · rw [World.cell?_setCell_other _ _ _ _ (by simp)]; exact h2

def cutB (pl la : List (Int × Int)) : Bool := decide (pl.length < la.length ∧ la.take pl.length = pl)

theorem cutB_in {pl la : List (Int × Int)} {n : Nat} (hn : n = pl.length) (h : n < la.length) : cutB pl la = decide (la.take n = pl) := by
  subst hn; unfold cutB; simp [h]
theorem cutB_out {pl la : List (Int × Int)} {n : Nat} (hn : n = pl.length) (h : ¬ n < la.length) : cutB pl la = false := by
  subst hn; unfold cutB; simp [h]
theorem gapLow_in {pl la : List (Int × Int)} {n : Nat} (hn : n = pl.length) (hl : n < la.length) (site : Int) (h : cutB pl la = true) : gapLow pl la site = max 1 (lowB la[n] site) := by
  subst hn; unfold gapLow; rw [if_pos (of_decide_eq_true h), List.getD_eq_getElem?_getD, List.getElem?_eq_getElem hl]; rfl
theorem gapLow_out {pl la : List (Int × Int)} (site : Int) (h : cutB pl la = false) : gapLow pl la site = 1 := by
  unfold gapLow; rw [if_neg (of_decide_eq_false h)]
theorem gapHigh_in {pl la : List (Int × Int)} {n : Nat} (hn : n = pl.length) (hl : n < la.length) (site : Int) (h : cutB pl la = true) : gapHigh pl la site = highA la[n] site := by
  subst hn; unfold gapHigh; rw [if_pos (of_decide_eq_true h), List.getD_eq_getElem?_getD, List.getElem?_eq_getElem hl]; rfl
theorem gapHigh_out {pl la : List (Int × Int)} (site : Int) (h : cutB pl la = false) : gapHigh pl la site = 200 := by
  unfold gapHigh; rw [if_neg (of_decide_eq_false h)]
theorem cutB_lt {pl la : List (Int × Int)} {n : Nat} (hn : n = pl.length) (h : cutB pl la = true) : n < la.length := by
  subst hn; exact (of_decide_eq_true h).1

set_option maxHeartbeats 1000000 in
theorem gapBehind_any (p a b : Option Addr) (cp ca cb n : Nat) (pl la lb : List (Int × Int)) (site : Int) (w : World) (hn : n = pl.length) (hp10 : pl.length ≤ 10) (hla : la.length ≤ 10) (hlb : lb.length ≤ 10)
   (hca : la.length ≤ ca) (hcb : lb.length ≤ cb)
   (hp : StepsAt w p pl) (ha : StepsAt w a la) (hb : StepsAt w b lb) (oa : okSteps la = true) (ob : okSteps lb = true) :
    Calls Tryz.prog 203 #[.slice p n cp, .slice a la.length ca, .slice b lb.length cb, .int .i64 site] w fun e w' => e = .returned (.agg #[.slice p n cp, .int .i64 (gapLow pl la site), .int .i64 (gapHigh pl lb site)]) ∧ Below w.heap.size w w' := by
  have HN : Hid (n = pl.length) := hn
  rw [← hn] at hp10
  clear hn
  go_enter Tryz.func203, Tryz.ntmps203
  go_upto_region 3 with fail
  obtain ⟨q0, q1, q2, r0, r1, r2, f1, f0, hz, hb0⟩ := boxes3 w (.slice none 0 0) (.int .i64 0) (.int .i64 0) (.slice p n cp) (.int .i64 1) (.int .i64 200) 186 186
  generalize (w.alloc (Obj.cells #[.slice none 0 0, .int .i64 0, .int .i64 0] 186)).alloc (Obj.cells #[.slice p n cp, .int .i64 1, .int .i64 200] 186) = W at *
  have G0 : GapAt W (w.heap.size + 1) w.heap.size (.slice p n cp) 1 200 := ⟨q0, q1, q2, r0, r1, r2, f1, f0⟩
  clear q0 q1 q2 r0 r1 r2 f1 f0
  have HZ : Hid (W.heap.size = w.heap.size + 2) := hz
  clear hz
  go_cut [25] (fun t wc => t = .bool (cutB pl la) ∧ Below W.heap.size W wc)
  case first =>
    by_cases h1 : n < la.length
    · have hi1 : (n : Int) < la.length := by omega
      have i3 : n ≤ ca := by omega
      go_wp2_with (go_at_call 240; refine (equal_n _ _ _ _ _ _ (la.take n) pl _ (by simp; omega) HN.out (by simp [maxLen]; omega) (by exact (ha.below hb0 (Nat.le_refl _)).take n) (by exact hp.below hb0 (Nat.le_refl _))).mono ?_; rintro e w' ⟨rfl, hb1⟩)
      go_meet
      refine ⟨?_, hb1⟩
      rw [cutB_in HN.out h1]
    · go_wp2
      go_meet
      refine ⟨?_, Below.refl _ _⟩
      rw [cutB_out HN.out h1]
  case rest =>
    obtain ⟨rfl, hb1⟩ := hcut
    replace G0 := G0.below hb1 (by rw [HZ.out]; omega) (by rw [HZ.out]; omega)
    have hb2 : Below w.heap.size w wc := hb0.thru hb1 hb0.size
    have hz : w.heap.size + 2 ≤ wc.heap.size := by have := hb1.size; rw [HZ.out] at this; exact this
    clear hb0 hb1 HZ
    go_upto_if 25 with fail
    go_cut [] (fun wd => GapAt wd (w.heap.size + 1) w.heap.size (.slice p n cp) (gapLow pl la site) 200 ∧ Below w.heap.size w wd ∧ w.heap.size + 2 ≤ wd.heap.size)
    case first =>
      cases hB : cutB pl la with
      | false =>
        have HL : Hid (gapLow pl la site = 1) := gapLow_out site hB
        clear hB
        go_wp2
        go_meet
        rw [HL.out]
        exact ⟨G0, hb2, hz⟩
      | true =>
        have hlt := cutB_lt HN.out hB
        have HL : Hid (gapLow pl la site = max 1 (lowB (la[n].1, la[n].2) site)) := gapLow_in HN.out hlt site hB
        have hok := okStep_iff.1 (okSteps_get oa hlt)
        obtain ⟨d1, d2, d3, d4⟩ := hok
        rcases ha.below hb2 (Nat.le_refl _) with hs | ⟨ba, off, rfl, hbl, hc⟩
        · simp [hs] at hlt
        have hc0 := (hc n hlt).1
        have hc1 := (hc n hlt).2
        clear hB hc
        generalize la[n].1 = dd at *
        generalize la[n].2 = ss at *
        have hi1 : (n : Int) < la.length := by omega
        obtain ⟨g0, g1, g2, g3, g4, g5, g6, g7⟩ := id G0
        go_wp2
        have hN1 : w.heap.size + 1 < wc.heap.size := by omega
        go_region_with (first | (go_at_call 241; refine (lowestBehind_any _ _ _ _ d1 d2).mono ?_; rintro e w' ⟨rfl, hb3⟩; obtain ⟨hcc, hff⟩ := bcellN hb3 wc.heap.size (Nat.le_refl _)))
        all_goals go_wp2
        all_goals
          go_meet
          have G1 := GapAt.below (w := wc.drew) G0 hb3 (show w.heap.size + 1 < wc.heap.size by omega) (show w.heap.size < wc.heap.size by omega)
          rw [HL.out]
          have hz3 : wc.heap.size ≤ w'.heap.size := hb3.size
          refine ⟨?_, (hb2.drew.thru hb3 hb2.size).setCell (by simp) _, by simp [World.setCell]; omega⟩
          first
            | rw [show max 1 (lowB (dd, ss) site) = lowB (dd, ss) site by omega]; exact G1.setLow (by omega) _
            | rw [show max 1 (lowB (dd, ss) site) = 1 by omega]; exact G1.setLow (by omega) _
    case rest =>
      obtain ⟨G1, hb3, hz3⟩ := hcut
      clear hz hb2 G0
      go_upto_region 5 with fail
      go_cut [46] (fun t we => t = .bool (cutB pl lb) ∧ Below wc.heap.size wc we)
      case first =>
        by_cases h1 : n < lb.length
        · have hi1 : (n : Int) < lb.length := by omega
          have i3 : n ≤ cb := by omega
          go_wp2_with (go_at_call 240; refine (equal_n _ _ _ _ _ _ (lb.take n) pl _ (by simp; omega) HN.out (by simp [maxLen]; omega) (by exact (hb.below hb3 (Nat.le_refl _)).take n) (by exact hp.below hb3 (Nat.le_refl _))).mono ?_; rintro e w' ⟨rfl, hb1⟩)
          go_meet
          refine ⟨?_, hb1⟩
          rw [cutB_in HN.out h1]
        · go_wp2
          go_meet
          refine ⟨?_, Below.refl _ _⟩
          rw [cutB_out HN.out h1]
      case rest =>
        obtain ⟨rfl, hb1⟩ := hcut
        replace G1 := G1.below hb1 (by omega) (by omega)
        have hb2 : Below w.heap.size w wc := hb3.thru hb1 hb3.size
        have hz : w.heap.size + 2 ≤ wc.heap.size := by have := hb1.size; omega
        clear hb1 hb3 hz3
        go_upto_if 46 with fail
        go_cut [] (fun wd => GapAt wd (w.heap.size + 1) w.heap.size (.slice p n cp) (gapLow pl la site) (gapHigh pl lb site) ∧ Below w.heap.size w wd ∧ w.heap.size + 2 ≤ wd.heap.size)
        case first =>
          cases hB : cutB pl lb with
          | false =>
            have HL : Hid (gapHigh pl lb site = 200) := gapHigh_out site hB
            clear hB
            go_wp2
            go_meet
            rw [HL.out]
            exact ⟨G1, hb2, hz⟩
          | true =>
            have hlt := cutB_lt HN.out hB
            have HL : Hid (gapHigh pl lb site = highA (lb[n].1, lb[n].2) site) := gapHigh_in HN.out hlt site hB
            have hok := okStep_iff.1 (okSteps_get ob hlt)
            obtain ⟨d1, d2, d3, d4⟩ := hok
            rcases hb.below hb2 (Nat.le_refl _) with hs | ⟨ba, off, rfl, hbl, hc⟩
            · simp [hs] at hlt
            have hc0 := (hc n hlt).1
            have hc1 := (hc n hlt).2
            clear hB hc
            generalize lb[n].1 = dd at *
            generalize lb[n].2 = ss at *
            have hi1 : (n : Int) < lb.length := by omega
            obtain ⟨g0, g1, g2, g3, g4, g5, g6, g7⟩ := id G1
            have hN1 : w.heap.size + 1 < wc.heap.size := by omega
            go_wp2_with (go_at_call 242; refine (highestAhead_any _ _ _ _ d1 d2).mono ?_; rintro e w' ⟨rfl, hb3⟩; obtain ⟨hcc, hff⟩ := bcellN hb3 wc.heap.size (Nat.le_refl _))
            go_meet
            have G2 := G1.below hb3 (show w.heap.size + 1 < wc.heap.size by omega) (show w.heap.size < wc.heap.size by omega)
            rw [HL.out]
            have hz3 : wc.heap.size ≤ w'.heap.size := hb3.size
            exact ⟨G2.setHigh (by omega) _, (hb2.thru hb3 hb2.size).setCell (by simp) _, by simp [World.setCell]; omega⟩
        case rest =>
          obtain ⟨⟨g0, g1, g2, g3, g4, g5, g6, g7⟩, hb3, hz3⟩ := hcut
          go_wp2
          refine bodyPost_ret (v := .agg #[.slice p n cp, .int .i64 (gapLow pl la site), .int .i64 (gapHigh pl lb site)]) (by simp [results, Tryz.results203, go_sem, g3, g4, g5]) rfl ⟨rfl, ?_⟩
          exact ((hb3.setCell (by simp) _).setCell (by simp) _).setCell (by simp) _
end Go.Proofs.YtnhjebdlcbhkcaeGreat

namespace Go.Proofs.YtnhjebdlcbhkcaeGreat
open Go.RowKit

theorem lowB_bd {s : Int × Int} (site : Int) (h : okStep s = true) : 0 ≤ lowB s site ∧ lowB s site ≤ 201 := by
  have := okStep_iff.1 h; unfold lowB; split <;> omega
theorem highA_bd {s : Int × Int} (site : Int) (h : okStep s = true) : -1 ≤ highA s site ∧ highA s site ≤ 200 := by
  have := okStep_iff.1 h; unfold highA; split <;> omega
theorem okStep_getD {l : List (Int × Int)} (h : okSteps l = true) (n : Nat) : okStep (l.getD n (0, 0)) = true := by
  rw [List.getD_eq_getElem?_getD]
  by_cases hn : n < l.length
  · rw [List.getElem?_eq_getElem hn]; exact okSteps_get h hn
  · rw [List.getElem?_eq_none (by omega)]; rfl
theorem gapLow_bd {la : List (Int × Int)} (pl : List (Int × Int)) (site : Int) (h : okSteps la = true) : 1 ≤ gapLow pl la site ∧ gapLow pl la site ≤ 201 := by
  have := lowB_bd site (okStep_getD h pl.length)
  unfold gapLow; split <;> omega
theorem gapHigh_bd {lb : List (Int × Int)} (pl : List (Int × Int)) (site : Int) (h : okSteps lb = true) : -1 ≤ gapHigh pl lb site ∧ gapHigh pl lb site ≤ 200 := by
  have := highA_bd site (okStep_getD h pl.length)
  unfold gapHigh; split <;> omega

def Cand (la lb pl : List (Int × Int)) : Prop := (∃ n, n ≤ max la.length lb.length ∧ pl = beg la n) ∨ (∃ n, n < lb.length ∧ pl = beg lb n)

def GapGives (w : World) (la lb : List (Int × Int)) (site many : Int) (e : Ending) (w' : World) : Prop :=
  ∃ pl G cap, e = .returned (.agg #[.slice (some ⟨G, 0, none⟩) pl.length cap, .int .i64 (gapLow pl la site), .int .i64 (gapHigh pl lb site)]) ∧ many ≤ gapHigh pl lb site - gapLow pl la site + 1 ∧ Cand la lb pl ∧ StepsAt w' (some ⟨G, 0, none⟩) pl ∧ Below w.heap.size w w'

set_option maxHeartbeats 1000000 in
theorem findGap_any (a b : Option Addr) (ca cb B : Nat) (la lb : List (Int × Int)) (site many : Int) (w : World) (hla : la.length ≤ 10) (hlb : lb.length ≤ 10)
   (hca : la.length ≤ ca) (hcb : lb.length ≤ cb) (hm : many ≤ 60)
   (ha : StepsAt w a la) (hb : StepsAt w b lb) (oa : okSteps la = true) (ob : okSteps lb = true) (hB : B < w.heap.size) (hmc : w.cell? ⟨B, 0, none⟩ = some (.int .i64 many)) :
    Calls Tryz.prog 146 #[.slice a la.length ca, .slice b lb.length cb, .int .i64 site, .func (.func 147) #[] #[.pointer (some ⟨B, 0, none⟩)]] w (GapGives w la lb site many) := by
  go_enter Tryz.func146, Tryz.ntmps146
  have hb0 : Below w.heap.size w (w.alloc (Obj.cells #[.slice none 0 0, .int .i64 0, .int .i64 0] 186)) := (Below.refl _ _).alloc (Nat.le_refl _) _
  have hz0 : (w.alloc (Obj.cells #[.slice none 0 0, .int .i64 0, .int .i64 0] 186)).heap.size = w.heap.size + 1 := by simp
  have r0 : (w.alloc (Obj.cells #[.slice none 0 0, .int .i64 0, .int .i64 0] 186)).cell? ⟨w.heap.size, 0, none⟩ = some (.slice none 0 0) := by go_simp
  have r1 : (w.alloc (Obj.cells #[.slice none 0 0, .int .i64 0, .int .i64 0] 186)).cell? ⟨w.heap.size, 1, none⟩ = some (.int .i64 0) := by go_simp
  have r2 : (w.alloc (Obj.cells #[.slice none 0 0, .int .i64 0, .int .i64 0] 186)).cell? ⟨w.heap.size, 2, none⟩ = some (.int .i64 0) := by go_simp
  have f0 : ∀ o, (w.alloc (Obj.cells #[.slice none 0 0, .int .i64 0, .int .i64 0] 186)).frozen? ⟨w.heap.size, o, none⟩ = false := by intro o; go_simp
  go_upto_region 1 with fail
  generalize w.alloc (Obj.cells #[.slice none 0 0, .int .i64 0, .int .i64 0] 186) = W at *
  obtain ⟨D, hD⟩ : ∃ D : Nat, D = max la.length lb.length := ⟨_, rfl⟩
  go_cut [9] (fun t wc => t = .int .i64 D ∧ wc = W)
  case first =>
    go_wp2
    all_goals
      go_meet
      exact ⟨congrArg (Value.int .i64) (by omega), rfl⟩
  case rest =>
    obtain ⟨rfl, rfl⟩ := hcut
    have hD10 : D ≤ 10 := by omega
    have hDa : la.length ≤ D := by omega
    have hDb : lb.length ≤ D := by omega
    have HD : Hid (D = max la.length lb.length) := hD
    have HZ : Hid (wc.heap.size = w.heap.size + 1) := hz0
    clear hD hz0
    have zW : w.heap.size < wc.heap.size := by rw [HZ.out]; omega
    have zB : B < wc.heap.size := by omega
    have hBW := (hb0.cell (p := ⟨B, 0, none⟩) hB).trans hmc
    go_wp2
    go_loopw [19] (fun i wr => ∃ k : Nat, k ≤ D ∧ i = .int .i64 k ∧ Below wc.heap.size wc wr) (fun i _ => D - (intOf i).toNat)
    case atStart => exact ⟨0, Nat.zero_le _, rfl, Below.refl _ _⟩
    case round =>
      obtain ⟨k, hk, rfl, hbr⟩ := hrel
      have hbw : Below w.heap.size w wr := hb0.thru hbr hb0.size
      have har := ha.below hbw (Nat.le_refl _)
      have hbr' := hb.below hbw (Nat.le_refl _)
      by_cases hlt : k < D
      · have hi1 : (k : Int) < D := by omega
        go_wp2_with fail
        refine (beginning_any _ _ k la _ (by omega) har).mono ?_
        rintro e w1 ⟨rfl, hw1⟩
        have hs1 : StepsAt w1 (some ⟨wr.heap.size, 0, none⟩) (beg la k) := by rw [hw1]; exact stepsAt_new wr _
        have hb1 : Below wr.heap.size wr w1 := by rw [hw1]; exact (Below.refl _ _).alloc (Nat.le_refl _) _
        clear hw1
        go_wp2_with fail
        refine (gapBehind_any _ _ _ _ _ _ _ (beg la k) la lb site _ (beg_length la k).symm (by rw [beg_length]; omega) hla hlb hca hcb hs1 (har.below hb1 (Nat.le_refl _)) (hbr'.below hb1 (Nat.le_refl _)) oa ob).mono ?_
        rintro e w2 ⟨rfl, hb2⟩
        have lo1 := gapLow_bd (beg la k) site oa
        have hi1 := gapHigh_bd (beg la k) site ob
        have hs2 := hs1.below hb2 (Nat.le_refl _)
        have hbW2 : Below wc.heap.size wc w2 := (hbr.thru hb1 hbr.size).thru hb2 (Nat.le_trans hbr.size hb1.size)
        have zW2 := hbW2.size
        generalize hlo : gapLow (beg la k) la site = lo at *
        generalize hhi : gapHigh (beg la k) lb site = hi at *
        have HG : Hid (gapLow (beg la k) la site = lo ∧ gapHigh (beg la k) lb site = hi) := ⟨hlo, hhi⟩
        clear hlo hhi
        go_wp2_with fail
        refine (wanted_any _ _ _ _ lo hi many _ (by omega) lo1.2 hi1.1 hi1.2 (by simp; omega) (Lib.cell?_alloc_some _ ((hbW2.cell (p := ⟨B, 0, none⟩) zB).trans hBW))).mono ?_
        rintro e w3 ⟨rfl, hb3⟩
        have zN : w2.heap.size < (w2.alloc (Obj.cells #[.slice (some ⟨wr.heap.size, 0, none⟩) k k, .int .i64 lo, .int .i64 hi] 186)).heap.size := by simp
        have n0 : w3.cell? ⟨w2.heap.size, 0, none⟩ = some (.slice (some ⟨wr.heap.size, 0, none⟩) k k) := (hb3.cell (p := ⟨w2.heap.size, 0, none⟩) zN).trans (by go_simp)
        have n1 : w3.cell? ⟨w2.heap.size, 1, none⟩ = some (.int .i64 lo) := (hb3.cell (p := ⟨w2.heap.size, 1, none⟩) zN).trans (by go_simp)
        have n2 : w3.cell? ⟨w2.heap.size, 2, none⟩ = some (.int .i64 hi) := (hb3.cell (p := ⟨w2.heap.size, 2, none⟩) zN).trans (by go_simp)
        have hbW3 : Below wc.heap.size wc w3 := (hbW2.alloc zW2 _).thru hb3 (by simp; omega)
        have hs3 := (hs2.below ((Below.refl _ _).alloc (Nat.le_refl _) _) (Nat.le_refl _)).below hb3 (Nat.le_refl _)
        have p0 := (hbW3.cell (p := ⟨w.heap.size, 0, none⟩) zW).trans r0
        have p1 := (hbW3.cell (p := ⟨w.heap.size, 1, none⟩) zW).trans r1
        have p2 := (hbW3.cell (p := ⟨w.heap.size, 2, none⟩) zW).trans r2
        have pf : ∀ o, w3.frozen? ⟨w.heap.size, o, none⟩ = false := fun o => (hbW3.frozen (p := ⟨w.heap.size, o, none⟩) zW).trans (f0 o)
        clear hb1 hb2 hb3 zN
        by_cases hw : many ≤ hi - lo + 1
        · have hw' : decide (many ≤ hi - lo + 1) = true := decide_eq_true hw
          rw [hw']
          go_wp2
          refine bodyPost_ret (v := .agg #[.slice (some ⟨wr.heap.size, 0, none⟩) k k, .int .i64 lo, .int .i64 hi]) (by simp [results, Tryz.results146, go_sem, p0, p1, p2]) rfl ?_
          refine ⟨beg la k, wr.heap.size, k, by rw [beg_length, HG.out.1, HG.out.2], by rw [HG.out.1, HG.out.2]; exact hw, Or.inl ⟨k, by rw [← HD.out]; exact hk, rfl⟩, ?_, ?_⟩
          · have : wr.heap.size ≠ w.heap.size := by have := hbr.size; omega
            exact ((hs3.setOld this).setOld this).setOld this
          · exact (((hb0.thru hbW3 hb0.size).setCell (by simp) _).setCell (by simp) _).setCell (by simp) _
        · have hw' : decide (many ≤ hi - lo + 1) = false := decide_eq_false hw
          rw [hw']
          clear n0 n1 n2 hs3 hs2 hs1 HG hw hw' p0 p1 p2 pf
          by_cases hkb : k < lb.length
          · have hi3 : ¬ ((k : Int) ≥ lb.length) := by omega
            have hbw3 : Below w.heap.size w w3 := hb0.thru hbW3 hb0.size
            have ha3 := ha.below hbw3 (Nat.le_refl _)
            have hb3 := hb.below hbw3 (Nat.le_refl _)
            go_wp2_with fail
            refine (beginning_any _ _ k lb _ (by omega) hb3).mono ?_
            rintro e w4 ⟨rfl, hw4⟩
            have hs4 : StepsAt w4 (some ⟨w3.heap.size, 0, none⟩) (beg lb k) := by rw [hw4]; exact stepsAt_new w3 _
            have hb4 : Below w3.heap.size w3 w4 := by rw [hw4]; exact (Below.refl _ _).alloc (Nat.le_refl _) _
            clear hw4
            go_wp2_with fail
            refine (gapBehind_any _ _ _ _ _ _ _ (beg lb k) la lb site _ (beg_length lb k).symm (by rw [beg_length]; omega) hla hlb hca hcb hs4 (ha3.below hb4 (Nat.le_refl _)) (hb3.below hb4 (Nat.le_refl _)) oa ob).mono ?_
            rintro e w5 ⟨rfl, hb5⟩
            have lo5 := gapLow_bd (beg lb k) site oa
            have hi5 := gapHigh_bd (beg lb k) site ob
            have hs5 := hs4.below hb5 (Nat.le_refl _)
            have hbW5 : Below wc.heap.size wc w5 := (hbW3.thru hb4 hbW3.size).thru hb5 (Nat.le_trans hbW3.size hb4.size)
            have zW5 := hbW5.size
            generalize hlo : gapLow (beg lb k) la site = lo2 at *
            generalize hhi : gapHigh (beg lb k) lb site = hi2 at *
            have HG : Hid (gapLow (beg lb k) la site = lo2 ∧ gapHigh (beg lb k) lb site = hi2) := ⟨hlo, hhi⟩
            clear hlo hhi
            go_wp2_with fail
            refine (wanted_any _ _ _ _ lo2 hi2 many _ (by omega) lo5.2 hi5.1 hi5.2 (by simp; omega) (Lib.cell?_alloc_some _ ((hbW5.cell (p := ⟨B, 0, none⟩) zB).trans hBW))).mono ?_
            rintro e w6 ⟨rfl, hb6⟩
            have zN : w5.heap.size < (w5.alloc (Obj.cells #[.slice (some ⟨w3.heap.size, 0, none⟩) k k, .int .i64 lo2, .int .i64 hi2] 186)).heap.size := by simp
            have n0 : w6.cell? ⟨w5.heap.size, 0, none⟩ = some (.slice (some ⟨w3.heap.size, 0, none⟩) k k) := (hb6.cell (p := ⟨w5.heap.size, 0, none⟩) zN).trans (by go_simp)
            have n1 : w6.cell? ⟨w5.heap.size, 1, none⟩ = some (.int .i64 lo2) := (hb6.cell (p := ⟨w5.heap.size, 1, none⟩) zN).trans (by go_simp)
            have n2 : w6.cell? ⟨w5.heap.size, 2, none⟩ = some (.int .i64 hi2) := (hb6.cell (p := ⟨w5.heap.size, 2, none⟩) zN).trans (by go_simp)
            have hbW6 : Below wc.heap.size wc w6 := (hbW5.alloc zW5 _).thru hb6 (by simp; omega)
            have hs6 := (hs5.below ((Below.refl _ _).alloc (Nat.le_refl _) _) (Nat.le_refl _)).below hb6 (Nat.le_refl _)
            have p0 := (hbW6.cell (p := ⟨w.heap.size, 0, none⟩) zW).trans r0
            have p1 := (hbW6.cell (p := ⟨w.heap.size, 1, none⟩) zW).trans r1
            have p2 := (hbW6.cell (p := ⟨w.heap.size, 2, none⟩) zW).trans r2
            have pf : ∀ o, w6.frozen? ⟨w.heap.size, o, none⟩ = false := fun o => (hbW6.frozen (p := ⟨w.heap.size, o, none⟩) zW).trans (f0 o)
            clear hb4 hb5 hb6 zN
            by_cases hw : many ≤ hi2 - lo2 + 1
            · have hw' : decide (many ≤ hi2 - lo2 + 1) = true := decide_eq_true hw
              rw [hw']
              go_wp2
              refine bodyPost_ret (v := .agg #[.slice (some ⟨w3.heap.size, 0, none⟩) k k, .int .i64 lo2, .int .i64 hi2]) (by simp [results, Tryz.results146, go_sem, p0, p1, p2]) rfl ?_
              refine ⟨beg lb k, w3.heap.size, k, by rw [beg_length, HG.out.1, HG.out.2], by rw [HG.out.1, HG.out.2]; exact hw, Or.inr ⟨k, hkb, rfl⟩, ?_, ?_⟩
              · have : w3.heap.size ≠ w.heap.size := by have := hbW3.size; omega
                exact ((hs6.setOld this).setOld this).setOld this
              · exact (((hb0.thru hbW6 hb0.size).setCell (by simp) _).setCell (by simp) _).setCell (by simp) _
            · have hw' : decide (many ≤ hi2 - lo2 + 1) = false := decide_eq_false hw
              rw [hw']
              clear n0 n1 n2 hs6 hs5 hs4 HG hw hw' p0 p1 p2 pf
              go_wp2
              go_roundw
              case rel => exact ⟨k + 1, by omega, by go_num, hbW6⟩
              case measure => simp [intOf]; omega
          · have hi3 : (k : Int) ≥ lb.length := by omega
            go_wp2
            go_roundw
            case rel => exact ⟨k + 1, by omega, by go_num, hbW3⟩
            case measure => simp [intOf]; omega
      · have hkD : k = D := by omega
        subst hkD
        clear hlt hk
        go_wp2_with fail
        refine (beginning_any _ _ k la _ (by omega) har).mono ?_
        rintro e w1 ⟨rfl, hw1⟩
        have hs1 : StepsAt w1 (some ⟨wr.heap.size, 0, none⟩) (beg la k) := by rw [hw1]; exact stepsAt_new wr _
        have hb1 : Below wr.heap.size wr w1 := by rw [hw1]; exact (Below.refl _ _).alloc (Nat.le_refl _) _
        clear hw1
        go_wp2_with fail
        refine (gapBehind_any _ _ _ _ _ _ _ (beg la k) la lb site _ (beg_length la k).symm (by rw [beg_length]; omega) hla hlb hca hcb hs1 (har.below hb1 (Nat.le_refl _)) (hbr'.below hb1 (Nat.le_refl _)) oa ob).mono ?_
        rintro e w2 ⟨rfl, hb2⟩
        have hs2 := hs1.below hb2 (Nat.le_refl _)
        have hbW2 : Below wc.heap.size wc w2 := (hbr.thru hb1 hbr.size).thru hb2 (Nat.le_trans hbr.size hb1.size)
        have hlo := gapLow_out (pl := beg la k) (la := la) site (cutB_out (beg_length la k).symm (by omega))
        have hhi := gapHigh_out (pl := beg la k) (la := lb) site (cutB_out (beg_length la k).symm (by omega))
        have p0 := (hbW2.cell (p := ⟨w.heap.size, 0, none⟩) zW).trans r0
        have p1 := (hbW2.cell (p := ⟨w.heap.size, 1, none⟩) zW).trans r1
        have p2 := (hbW2.cell (p := ⟨w.heap.size, 2, none⟩) zW).trans r2
        have pf : ∀ o, w2.frozen? ⟨w.heap.size, o, none⟩ = false := fun o => (hbW2.frozen (p := ⟨w.heap.size, o, none⟩) zW).trans (f0 o)
        have HG : Hid (gapLow (beg la k) la site = 1 ∧ gapHigh (beg la k) lb site = 200) := ⟨hlo, hhi⟩
        rw [hlo, hhi]
        clear hlo hhi
        go_wp2
        refine bodyPost_ret (v := .agg #[.slice (some ⟨wr.heap.size, 0, none⟩) k k, .int .i64 1, .int .i64 200]) (by simp [results, Tryz.results146, go_sem, p0, p1, p2]) rfl ?_
        refine ⟨beg la k, wr.heap.size, k, by rw [beg_length, HG.out.1, HG.out.2], by rw [HG.out.1, HG.out.2]; omega, Or.inl ⟨k, by rw [← HD.out]; exact Nat.le_refl _, rfl⟩, ?_, ?_⟩
        · have : wr.heap.size ≠ w.heap.size := by have := hbr.size; omega
          exact ((hs2.setOld this).setOld this).setOld this
        · exact (((hb0.thru hbW2 hb0.size).setCell (by simp) _).setCell (by simp) _).setCell (by simp) _
end Go.Proofs.YtnhjebdlcbhkcaeGreat
