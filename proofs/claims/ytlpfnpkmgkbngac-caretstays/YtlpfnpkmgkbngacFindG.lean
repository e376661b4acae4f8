/- Contract of mark.findGap. -/
import Derived.Test.YtlpfnpkmgkbngacGapB
namespace Go.Proofs.Ytlpfnpkmgkbngac
open Go.RowKit

theorem lowB_bd {s : Int × Int} (site : Int) (h : okStep s = true) : 0 ≤ lowB s site ∧ lowB s site ≤ 201 := by
  have := okStep_iff.1 h; unfold lowB; split <;> omega
theorem highA_bd {s : Int × Int} (site : Int) (h : okStep s = true) : -1 ≤ highA s site ∧ highA s site ≤ 200 := by
  have := okStep_iff.1 h; unfold highA; split <;> omega
theorem okStep_getD {l : List (Int × Int)} (h : okSteps l = true) (n : Nat) : okStep (l.getD n (0, 0)) = true := by
  rw [List.getD_eq_getElem?_getD]
  by_cases hn : n < l.length
  · rw [List.getElem?_eq_getElem hn]; exact okSteps_get h hn
  · rw [List.getElem?_eq_none (by omega)]; rfl
theorem gapLow_bd {la : List (Int × Int)} (pl : List (Int × Int)) (site : Int) (h : okSteps la = true) : 1 ≤ gapLow pl la site ∧ gapLow pl la site ≤ 201 := by
  have := lowB_bd site (okStep_getD h pl.length)
  unfold gapLow; split <;> omega
theorem gapHigh_bd {lb : List (Int × Int)} (pl : List (Int × Int)) (site : Int) (h : okSteps lb = true) : -1 ≤ gapHigh pl lb site ∧ gapHigh pl lb site ≤ 200 := by
  have := highA_bd site (okStep_getD h pl.length)
  unfold gapHigh; split <;> omega

/-- a beginning that is looked at -/
def Cand (la lb pl : List (Int × Int)) : Prop := (∃ n, n ≤ max la.length lb.length ∧ pl = beg la n) ∨ (∃ n, n < lb.length ∧ pl = beg lb n)

def GapGives (w : World) (la lb : List (Int × Int)) (site many : Int) (e : Ending) (w' : World) : Prop :=
  ∃ pl G cap, e = .returned (.agg #[.slice (some ⟨G, 0, none⟩) pl.length cap, .int .i64 (gapLow pl la site), .int .i64 (gapHigh pl lb site)]) ∧ many ≤ gapHigh pl lb site - gapLow pl la site + 1 ∧ Cand la lb pl ∧ StepsAt w' (some ⟨G, 0, none⟩) pl ∧ Below w.heap.size w w'

set_option maxHeartbeats 1000000 in
theorem findGap_any (a b : Option Addr) (ca cb B : Nat) (la lb : List (Int × Int)) (site many : Int) (w : World) (hla : la.length ≤ 10) (hlb : lb.length ≤ 10)
   (hca : la.length ≤ ca) (hcb : lb.length ≤ cb) (hm : many ≤ 60)
   (ha : StepsAt w a la) (hb : StepsAt w b lb) (oa : okSteps la = true) (ob : okSteps lb = true) (hB : B < w.heap.size) (hmc : w.cell? ⟨B, 0, none⟩ = some (.int .i64 many)) :
    Calls Try.prog 74 #[.slice a la.length ca, .slice b lb.length cb, .int .i64 site, .func (.func 75) #[] #[.pointer (some ⟨B, 0, none⟩)]] w (GapGives w la lb site many) := by
  go_enter Try.func74, Try.ntmps74
  have hb0 : Below w.heap.size w (w.alloc (Obj.cells #[.slice none 0 0, .int .i64 0, .int .i64 0] 107)) := (Below.refl _ _).alloc (Nat.le_refl _) _
  have hz0 : (w.alloc (Obj.cells #[.slice none 0 0, .int .i64 0, .int .i64 0] 107)).heap.size = w.heap.size + 1 := by simp
  have r0 : (w.alloc (Obj.cells #[.slice none 0 0, .int .i64 0, .int .i64 0] 107)).cell? ⟨w.heap.size, 0, none⟩ = some (.slice none 0 0) := by go_simp
  have r1 : (w.alloc (Obj.cells #[.slice none 0 0, .int .i64 0, .int .i64 0] 107)).cell? ⟨w.heap.size, 1, none⟩ = some (.int .i64 0) := by go_simp
  have r2 : (w.alloc (Obj.cells #[.slice none 0 0, .int .i64 0, .int .i64 0] 107)).cell? ⟨w.heap.size, 2, none⟩ = some (.int .i64 0) := by go_simp
  have f0 : ∀ o, (w.alloc (Obj.cells #[.slice none 0 0, .int .i64 0, .int .i64 0] 107)).frozen? ⟨w.heap.size, o, none⟩ = false := by intro o; go_simp
  go_upto_region 1 with fail
  generalize w.alloc (Obj.cells #[.slice none 0 0, .int .i64 0, .int .i64 0] 107) = W at *
  obtain ⟨D, hD⟩ : ∃ D : Nat, D = max la.length lb.length := ⟨_, rfl⟩
  go_cut [9] (fun t wc => t = .int .i64 D ∧ wc = W)
  case first =>
    go_wp2
    all_goals
      go_meet
      exact ⟨congrArg (Value.int .i64) (by omega), rfl⟩
  case rest =>
    obtain ⟨rfl, rfl⟩ := hcut
    have hD10 : D ≤ 10 := by omega
    have hDa : la.length ≤ D := by omega
    have hDb : lb.length ≤ D := by omega
    have HD : Hid (D = max la.length lb.length) := hD
    have HZ : Hid (wc.heap.size = w.heap.size + 1) := hz0
    clear hD hz0
    have zW : w.heap.size < wc.heap.size := by rw [HZ.out]; omega
    have zB : B < wc.heap.size := by omega
    have hBW := (hb0.cell (p := ⟨B, 0, none⟩) hB).trans hmc
    go_wp2
    go_loopw [19] (fun i wr => ∃ k : Nat, k ≤ D ∧ i = .int .i64 k ∧ Below wc.heap.size wc wr) (fun i _ => D - (intOf i).toNat)
    case atStart => exact ⟨0, Nat.zero_le _, rfl, Below.refl _ _⟩
    case round =>
      obtain ⟨k, hk, rfl, hbr⟩ := hrel
      have hbw : Below w.heap.size w wr := hb0.thru hbr hb0.size
      have har := ha.below hbw (Nat.le_refl _)
      have hbr' := hb.below hbw (Nat.le_refl _)
      by_cases hlt : k < D
      · have hi1 : (k : Int) < D := by omega
        go_wp2_with fail
        refine (beginning_any _ _ k la _ (by omega) har).mono ?_
        rintro e w1 ⟨rfl, hw1⟩
        have hs1 : StepsAt w1 (some ⟨wr.heap.size, 0, none⟩) (beg la k) := by rw [hw1]; exact stepsAt_new wr _
        have hb1 : Below wr.heap.size wr w1 := by rw [hw1]; exact (Below.refl _ _).alloc (Nat.le_refl _) _
        clear hw1
        go_wp2_with fail
        refine (gapBehind_any _ _ _ _ _ _ _ (beg la k) la lb site _ (beg_length la k).symm (by rw [beg_length]; omega) hla hlb hca hcb hs1 (har.below hb1 (Nat.le_refl _)) (hbr'.below hb1 (Nat.le_refl _)) oa ob).mono ?_
        rintro e w2 ⟨rfl, hb2⟩
        have lo1 := gapLow_bd (beg la k) site oa
        have hi1 := gapHigh_bd (beg la k) site ob
        have hs2 := hs1.below hb2 (Nat.le_refl _)
        have hbW2 : Below wc.heap.size wc w2 := (hbr.thru hb1 hbr.size).thru hb2 (Nat.le_trans hbr.size hb1.size)
        have zW2 := hbW2.size
        generalize hlo : gapLow (beg la k) la site = lo at *
        generalize hhi : gapHigh (beg la k) lb site = hi at *
        have HG : Hid (gapLow (beg la k) la site = lo ∧ gapHigh (beg la k) lb site = hi) := ⟨hlo, hhi⟩
        clear hlo hhi
        go_wp2_with fail
        refine (wanted_any _ _ _ _ lo hi many _ (by omega) lo1.2 hi1.1 hi1.2 (by simp; omega) (Lib.cell?_alloc_some _ ((hbW2.cell (p := ⟨B, 0, none⟩) zB).trans hBW))).mono ?_
        rintro e w3 ⟨rfl, hb3⟩
        have zN : w2.heap.size < (w2.alloc (Obj.cells #[.slice (some ⟨wr.heap.size, 0, none⟩) k k, .int .i64 lo, .int .i64 hi] 107)).heap.size := by simp
        have n0 : w3.cell? ⟨w2.heap.size, 0, none⟩ = some (.slice (some ⟨wr.heap.size, 0, none⟩) k k) := (hb3.cell (p := ⟨w2.heap.size, 0, none⟩) zN).trans (by go_simp)
        have n1 : w3.cell? ⟨w2.heap.size, 1, none⟩ = some (.int .i64 lo) := (hb3.cell (p := ⟨w2.heap.size, 1, none⟩) zN).trans (by go_simp)
        have n2 : w3.cell? ⟨w2.heap.size, 2, none⟩ = some (.int .i64 hi) := (hb3.cell (p := ⟨w2.heap.size, 2, none⟩) zN).trans (by go_simp)
        have hbW3 : Below wc.heap.size wc w3 := (hbW2.alloc zW2 _).thru hb3 (by simp; omega)
        have hs3 := (hs2.below ((Below.refl _ _).alloc (Nat.le_refl _) _) (Nat.le_refl _)).below hb3 (Nat.le_refl _)
        have p0 := (hbW3.cell (p := ⟨w.heap.size, 0, none⟩) zW).trans r0
        have p1 := (hbW3.cell (p := ⟨w.heap.size, 1, none⟩) zW).trans r1
        have p2 := (hbW3.cell (p := ⟨w.heap.size, 2, none⟩) zW).trans r2
        have pf : ∀ o, w3.frozen? ⟨w.heap.size, o, none⟩ = false := fun o => (hbW3.frozen (p := ⟨w.heap.size, o, none⟩) zW).trans (f0 o)
        clear hb1 hb2 hb3 zN
        by_cases hw : many ≤ hi - lo + 1
        · have hw' : decide (many ≤ hi - lo + 1) = true := decide_eq_true hw
          rw [hw']
          go_wp2
          refine bodyPost_ret (v := .agg #[.slice (some ⟨wr.heap.size, 0, none⟩) k k, .int .i64 lo, .int .i64 hi]) (by simp [results, Try.results74, go_sem, p0, p1, p2]) rfl ?_
          refine ⟨beg la k, wr.heap.size, k, by rw [beg_length, HG.out.1, HG.out.2], by rw [HG.out.1, HG.out.2]; exact hw, Or.inl ⟨k, by rw [← HD.out]; exact hk, rfl⟩, ?_, ?_⟩
          · have : wr.heap.size ≠ w.heap.size := by have := hbr.size; omega
            exact ((hs3.setOld this).setOld this).setOld this
          · exact (((hb0.thru hbW3 hb0.size).setCell (by simp) _).setCell (by simp) _).setCell (by simp) _
        · have hw' : decide (many ≤ hi - lo + 1) = false := decide_eq_false hw
          rw [hw']
          clear n0 n1 n2 hs3 hs2 hs1 HG hw hw' p0 p1 p2 pf
          by_cases hkb : k < lb.length
          · have hi3 : ¬ ((k : Int) ≥ lb.length) := by omega
            have hbw3 : Below w.heap.size w w3 := hb0.thru hbW3 hb0.size
            have ha3 := ha.below hbw3 (Nat.le_refl _)
            have hb3 := hb.below hbw3 (Nat.le_refl _)
            go_wp2_with fail
            refine (beginning_any _ _ k lb _ (by omega) hb3).mono ?_
            rintro e w4 ⟨rfl, hw4⟩
            have hs4 : StepsAt w4 (some ⟨w3.heap.size, 0, none⟩) (beg lb k) := by rw [hw4]; exact stepsAt_new w3 _
            have hb4 : Below w3.heap.size w3 w4 := by rw [hw4]; exact (Below.refl _ _).alloc (Nat.le_refl _) _
            clear hw4
            go_wp2_with fail
            refine (gapBehind_any _ _ _ _ _ _ _ (beg lb k) la lb site _ (beg_length lb k).symm (by rw [beg_length]; omega) hla hlb hca hcb hs4 (ha3.below hb4 (Nat.le_refl _)) (hb3.below hb4 (Nat.le_refl _)) oa ob).mono ?_
            rintro e w5 ⟨rfl, hb5⟩
            have lo5 := gapLow_bd (beg lb k) site oa
            have hi5 := gapHigh_bd (beg lb k) site ob
            have hs5 := hs4.below hb5 (Nat.le_refl _)
            have hbW5 : Below wc.heap.size wc w5 := (hbW3.thru hb4 hbW3.size).thru hb5 (Nat.le_trans hbW3.size hb4.size)
            have zW5 := hbW5.size
            generalize hlo : gapLow (beg lb k) la site = lo2 at *
            generalize hhi : gapHigh (beg lb k) lb site = hi2 at *
            have HG : Hid (gapLow (beg lb k) la site = lo2 ∧ gapHigh (beg lb k) lb site = hi2) := ⟨hlo, hhi⟩
            clear hlo hhi
            go_wp2_with fail
            refine (wanted_any _ _ _ _ lo2 hi2 many _ (by omega) lo5.2 hi5.1 hi5.2 (by simp; omega) (Lib.cell?_alloc_some _ ((hbW5.cell (p := ⟨B, 0, none⟩) zB).trans hBW))).mono ?_
            rintro e w6 ⟨rfl, hb6⟩
            have zN : w5.heap.size < (w5.alloc (Obj.cells #[.slice (some ⟨w3.heap.size, 0, none⟩) k k, .int .i64 lo2, .int .i64 hi2] 107)).heap.size := by simp
            have n0 : w6.cell? ⟨w5.heap.size, 0, none⟩ = some (.slice (some ⟨w3.heap.size, 0, none⟩) k k) := (hb6.cell (p := ⟨w5.heap.size, 0, none⟩) zN).trans (by go_simp)
            have n1 : w6.cell? ⟨w5.heap.size, 1, none⟩ = some (.int .i64 lo2) := (hb6.cell (p := ⟨w5.heap.size, 1, none⟩) zN).trans (by go_simp)
            have n2 : w6.cell? ⟨w5.heap.size, 2, none⟩ = some (.int .i64 hi2) := (hb6.cell (p := ⟨w5.heap.size, 2, none⟩) zN).trans (by go_simp)
            have hbW6 : Below wc.heap.size wc w6 := (hbW5.alloc zW5 _).thru hb6 (by simp; omega)
            have hs6 := (hs5.below ((Below.refl _ _).alloc (Nat.le_refl _) _) (Nat.le_refl _)).below hb6 (Nat.le_refl _)
            have p0 := (hbW6.cell (p := ⟨w.heap.size, 0, none⟩) zW).trans r0
            have p1 := (hbW6.cell (p := ⟨w.heap.size, 1, none⟩) zW).trans r1
            have p2 := (hbW6.cell (p := ⟨w.heap.size, 2, none⟩) zW).trans r2
            have pf : ∀ o, w6.frozen? ⟨w.heap.size, o, none⟩ = false := fun o => (hbW6.frozen (p := ⟨w.heap.size, o, none⟩) zW).trans (f0 o)
            clear hb4 hb5 hb6 zN
            by_cases hw : many ≤ hi2 - lo2 + 1
            · have hw' : decide (many ≤ hi2 - lo2 + 1) = true := decide_eq_true hw
              rw [hw']
              go_wp2
              refine bodyPost_ret (v := .agg #[.slice (some ⟨w3.heap.size, 0, none⟩) k k, .int .i64 lo2, .int .i64 hi2]) (by simp [results, Try.results74, go_sem, p0, p1, p2]) rfl ?_
              refine ⟨beg lb k, w3.heap.size, k, by rw [beg_length, HG.out.1, HG.out.2], by rw [HG.out.1, HG.out.2]; exact hw, Or.inr ⟨k, hkb, rfl⟩, ?_, ?_⟩
              · have : w3.heap.size ≠ w.heap.size := by have := hbW3.size; omega
                exact ((hs6.setOld this).setOld this).setOld this
              · exact (((hb0.thru hbW6 hb0.size).setCell (by simp) _).setCell (by simp) _).setCell (by simp) _
            · have hw' : decide (many ≤ hi2 - lo2 + 1) = false := decide_eq_false hw
              rw [hw']
              clear n0 n1 n2 hs6 hs5 hs4 HG hw hw' p0 p1 p2 pf
              go_wp2
              go_roundw
              case rel => exact ⟨k + 1, by omega, by go_num, hbW6⟩
              case measure => simp [intOf]; omega
          · have hi3 : (k : Int) ≥ lb.length := by omega
            go_wp2
            go_roundw
            case rel => exact ⟨k + 1, by omega, by go_num, hbW3⟩
            case measure => simp [intOf]; omega
      · have hkD : k = D := by omega
        subst hkD
        clear hlt hk
        go_wp2_with fail
        refine (beginning_any _ _ k la _ (by omega) har).mono ?_
        rintro e w1 ⟨rfl, hw1⟩
        have hs1 : StepsAt w1 (some ⟨wr.heap.size, 0, none⟩) (beg la k) := by rw [hw1]; exact stepsAt_new wr _
        have hb1 : Below wr.heap.size wr w1 := by rw [hw1]; exact (Below.refl _ _).alloc (Nat.le_refl _) _
        clear hw1
        go_wp2_with fail
        refine (gapBehind_any _ _ _ _ _ _ _ (beg la k) la lb site _ (beg_length la k).symm (by rw [beg_length]; omega) hla hlb hca hcb hs1 (har.below hb1 (Nat.le_refl _)) (hbr'.below hb1 (Nat.le_refl _)) oa ob).mono ?_
        rintro e w2 ⟨rfl, hb2⟩
        have hs2 := hs1.below hb2 (Nat.le_refl _)
        have hbW2 : Below wc.heap.size wc w2 := (hbr.thru hb1 hbr.size).thru hb2 (Nat.le_trans hbr.size hb1.size)
        have hlo := gapLow_out (pl := beg la k) (la := la) site (cutB_out (beg_length la k).symm (by omega))
        have hhi := gapHigh_out (pl := beg la k) (la := lb) site (cutB_out (beg_length la k).symm (by omega))
        have p0 := (hbW2.cell (p := ⟨w.heap.size, 0, none⟩) zW).trans r0
        have p1 := (hbW2.cell (p := ⟨w.heap.size, 1, none⟩) zW).trans r1
        have p2 := (hbW2.cell (p := ⟨w.heap.size, 2, none⟩) zW).trans r2
        have pf : ∀ o, w2.frozen? ⟨w.heap.size, o, none⟩ = false := fun o => (hbW2.frozen (p := ⟨w.heap.size, o, none⟩) zW).trans (f0 o)
        have HG : Hid (gapLow (beg la k) la site = 1 ∧ gapHigh (beg la k) lb site = 200) := ⟨hlo, hhi⟩
        rw [hlo, hhi]
        clear hlo hhi
        go_wp2
        refine bodyPost_ret (v := .agg #[.slice (some ⟨wr.heap.size, 0, none⟩) k k, .int .i64 1, .int .i64 200]) (by simp [results, Try.results74, go_sem, p0, p1, p2]) rfl ?_
        refine ⟨beg la k, wr.heap.size, k, by rw [beg_length, HG.out.1, HG.out.2], by rw [HG.out.1, HG.out.2]; omega, Or.inl ⟨k, by rw [← HD.out]; exact Nat.le_refl _, rfl⟩, ?_, ?_⟩
        · have : wr.heap.size ≠ w.heap.size := by have := hbr.size; omega
          exact ((hs2.setOld this).setOld this).setOld this
        · exact (((hb0.thru hbW2 hb0.size).setCell (by simp) _).setCell (by simp) _).setCell (by simp) _
end Go.Proofs.Ytlpfnpkmgkbngac
