/- Contract of the reference's IsBetween, where all that it asks holds. -/
import Derived.Test.YtnhjebdlcbhkcaeGreatPutS
import Derived.Lib.QuietBelow
namespace Go.Proofs.YtnhjebdlcbhkcaeGreat
open Go.RowKit

def deepOf (la lb : List (Int × Int)) (many : Int) : Int := max la.length lb.length + (if 1 < many then 2 else 1)

structure BtwAt (la : List (Int × Int)) (ca : Int) (lb : List (Int × Int)) (cb site clock many : Int) (ms : List (List (Int × Int) × Int)) (i : Nat) (h : i < ms.length) : Prop where
  ok : chk ms[i].1 ms[i].2 = 0
  clk : ms[i].2 = clock + i
  site : (lastS ms[i].1).2 = site
  deep : (ms[i].1.length : Int) ≤ deepOf la lb many
  rise : ∀ hi : 0 < i, ordM (ms[i - 1]'(by omega)).1 (ms[i - 1]'(by omega)).2 ms[i].1 ms[i].2 = -1
  above : ¬ (la.length = 0 ∧ ca = 0) → ordM la ca ms[i].1 ms[i].2 = -1
  below : ¬ (lb.length = 0 ∧ cb = 0) → ordM ms[i].1 ms[i].2 lb cb = -1

theorem orderNeg (a a' : Option Addr) (cap cap' : Nat) (l m : List (Int × Int)) (c d : Int) (w : World) (hl : l.length ≤ maxLen) (hm : m.length ≤ maxLen) (h : StepsAt w a l) (h' : StepsAt w a' m) (hn : ordM l c m d = -1) :
    Calls Tryz.prog 141 #[.agg #[.slice a l.length cap, .int .i64 c], .agg #[.slice a' m.length cap', .int .i64 d]] w fun e w' => e = .returned (.int .i64 (-1)) ∧ Below w.heap.size w w' := by
  rw [← hn]; exact orderOf_any a a' cap cap' l m c d w hl hm h h'
theorem isNone_is (a : Option Addr) (cap : Nat) (n : Nat) (c : Int) (w : World) (B : Bool) (h : (n == 0 && c == 0) = B) :
    Calls Tryz.prog 157 #[.agg #[.slice a n cap, .int .i64 c]] w fun e w' => e = .returned (.bool B) ∧ Below w.heap.size w w' := by
  rw [← h]; exact isNone_any a cap n c w

set_option maxRecDepth 100000 in
set_option maxHeartbeats 2000000 in
theorem isBetween_true (a b p : Option Addr) (cap cap' cp : Nat) (la lb : List (Int × Int)) (ca cb site clock : Int) (many : Nat) (ms : List (List (Int × Int) × Int)) (w : World) (hla : la.length ≤ maxLen) (hlb : lb.length ≤ maxLen)
   (ha : StepsAt w a la) (hb : StepsAt w b lb) (hm : MarksAt w p ms) (hl : ms.length = many) (hla8 : la.length ≤ 1000) (hlb8 : lb.length ≤ 1000) (hmn : many ≤ 1000) (hc0 : 0 ≤ clock) (hc1 : clock ≤ 100000)
   (hall : ∀ i (h : i < ms.length), BtwAt la ca lb cb site clock many ms i h) :
    Calls Tryz.prog 62 #[.agg #[.slice a la.length cap, .int .i64 ca], .agg #[.slice b lb.length cap', .int .i64 cb], .int .i64 site, .int .i64 clock, .int .i64 many, .slice p many cp] w fun e w' => e = .returned (.bool true) ∧ Below w.heap.size w w' := by
  obtain ⟨q0, q1, q2, q3, hz, hb0⟩ := boxes2 w (.slice a la.length cap) (.int .i64 ca) (.slice b lb.length cap') (.int .i64 cb) 42 42
  have HL := hidE hl
  clear hl
  go_enter Tryz.func62, Tryz.ntmps62
  go_upto_region 3 with fail
  generalize (w.alloc (Obj.cells #[.slice a la.length cap, .int .i64 ca] 42)).alloc (Obj.cells #[.slice b lb.length cap', .int .i64 cb] 42) = W at q0 q1 q2 q3 hz hb0 ⊢
  go_upto_if 27 with fail
  go_cut [13] (fun t wc => t = .int .i64 (max la.length lb.length : Nat) ∧ wc = W)
  case first =>
    go_wp2
    all_goals
      go_meet
      exact ⟨congrArg (Value.int .i64) (by omega), rfl⟩
  case rest =>
    obtain ⟨rfl, rfl⟩ := hcut
    go_upto_if 34 with fail
    go_cut [13] (fun t wd => t = .int .i64 (deepOf la lb many) ∧ wd = wc)
    case first =>
      go_wp2
      all_goals
        go_meet
        exact ⟨congrArg (Value.int .i64) (by unfold deepOf; split <;> omega), rfl⟩
    case rest =>
      obtain ⟨rfl, rfl⟩ := hcut
      have z1 : w.heap.size + 1 < wc.heap.size := by omega
      have z0 : w.heap.size < wc.heap.size := by omega
      clear hz
      go_wp2
      go_loopw [14] (fun i wr => ∃ k : Nat, k ≤ many ∧ i = .int .i64 k ∧ Below wc.heap.size wc wr) (fun i _ => many - (intOf i).toNat)
      case atStart => exact ⟨0, Nat.zero_le _, rfl, Below.refl _ _⟩
      case round =>
        obtain ⟨k, hk, rfl, hbr⟩ := hrel
        have hbw : Below w.heap.size w wr := hb0.thru hbr hb0.size
        by_cases hlt : k < many
        · have hlt' : k < ms.length := by rw [HL.out]; exact hlt
          have hA := hall k hlt'
          rcases hm.below hbw (Nat.le_refl _) with hs | ⟨mb, mo, rfl, hmb, hmc⟩
          · simp [hs] at hlt'
          obtain ⟨pp, cpp, e0, e1, hst, hle⟩ := hmc k hlt'
          rw [hA.clk] at e1
          have hok := hA.ok
          rw [hA.clk] at hok
          have hpos := (chk_ok hok).1
          have hten := (chk_ok hok).2.1
          rcases id hst with hs | ⟨pb, po, rfl, hpb, hpc⟩
          · rw [hs] at hpos; simp at hpos
          have e2 := (hpc (ms[k].1.length - 1) (by omega)).2
          have hls : (ms[k].1[ms[k].1.length - 1]'(by omega)).2 = site := by rw [← lastS_eq hpos]; exact hA.site
          rw [hls] at e2
          have hdeep := hA.deep
          have HOK := hidE hok
          clear hpc hok hls
          have hi1 : (k : Int) < many := by omega
          go_upto_region 13 with fail
          have n0 : (wr.alloc (Obj.cells #[.slice (some ⟨pb, po, none⟩) ms[k].1.length cpp, .int .i64 (clock + k)] 42)).cell? ⟨wr.heap.size, 0, none⟩ = some (.slice (some ⟨pb, po, none⟩) ms[k].1.length cpp) := by go_simp
          have n1 : (wr.alloc (Obj.cells #[.slice (some ⟨pb, po, none⟩) ms[k].1.length cpp, .int .i64 (clock + k)] 42)).cell? ⟨wr.heap.size, 1, none⟩ = some (.int .i64 (clock + k)) := by go_simp
          have hbV : Below wr.heap.size wr (wr.alloc (Obj.cells #[.slice (some ⟨pb, po, none⟩) ms[k].1.length cpp, .int .i64 (clock + k)] 42)) := (Below.refl _ _).alloc (Nat.le_refl _) _
          have zV : (wr.alloc (Obj.cells #[.slice (some ⟨pb, po, none⟩) ms[k].1.length cpp, .int .i64 (clock + k)] 42)).heap.size = wr.heap.size + 1 := by simp
          generalize wr.alloc (Obj.cells #[.slice (some ⟨pb, po, none⟩) ms[k].1.length cpp, .int .i64 (clock + k)] 42) = V at n0 n1 hbV zV ⊢
          have e3 := (hbV.cell (p := ⟨pb, po + (ms[k].1.length - 1) * 2 + 1, none⟩) hpb).trans e2
          have hsV := hst.below hbV (Nat.le_refl _)
          have zN : wr.heap.size < V.heap.size := by omega
          have zpb : pb < V.heap.size := by omega
          clear zV
          go_cut [77] (fun t we => t = .bool false ∧ Below V.heap.size V we)
          case first =>
            go_wp2_with (go_at_call 156; refine (checkMark_any _ _ ms[k].1 _ _ hle (by exact hsV)).mono ?_; rintro e w' ⟨rfl, hb1⟩; rw [HOK.out]; obtain ⟨hcc, hff⟩ := bcell hb1)
            go_meet
            exact ⟨congrArg Value.bool (by simp; omega), hb1⟩
          case rest =>
            obtain ⟨rfl, hb1⟩ := hcut
            have hbU : Below wr.heap.size wr wc := hbV.thru hb1 hbV.size
            have hbwU : Below w.heap.size w wc := hbw.thru hbU hbw.size
            have m0 := (hb1.cell (p := ⟨wr.heap.size, 0, none⟩) zN).trans n0
            have m1 := (hb1.cell (p := ⟨wr.heap.size, 1, none⟩) zN).trans n1
            have hsU := hst.below hbU (Nat.le_refl _)
            have haU := ha.below hbwU (Nat.le_refl _)
            have hbUU := hb.below hbwU (Nat.le_refl _)
            have zz := hbr.size
            have zu := hbU.size
            have a0 := (hbU.cell (p := ⟨w.heap.size, 0, none⟩) (show w.heap.size < wr.heap.size by omega)).trans ((hbr.cell (p := ⟨w.heap.size, 0, none⟩) z0).trans q0)
            have a1 := (hbU.cell (p := ⟨w.heap.size, 1, none⟩) (show w.heap.size < wr.heap.size by omega)).trans ((hbr.cell (p := ⟨w.heap.size, 1, none⟩) z0).trans q1)
            have b0 := (hbU.cell (p := ⟨w.heap.size + 1, 0, none⟩) (show w.heap.size + 1 < wr.heap.size by omega)).trans ((hbr.cell (p := ⟨w.heap.size + 1, 0, none⟩) z1).trans q2)
            have b1 := (hbU.cell (p := ⟨w.heap.size + 1, 1, none⟩) (show w.heap.size + 1 < wr.heap.size by omega)).trans ((hbr.cell (p := ⟨w.heap.size + 1, 1, none⟩) z1).trans q3)
            have hx1 := hidE hA.above
            have hx2 := hidE hA.below
            rw [hA.clk] at hx1 hx2
            clear q0 q1 q2 q3 n0 n1 e0 e1 e2 e3 hst hbw
            go_upto_region 15 with fail
            go_cut [111] (fun t we => t = .bool false ∧ Below wc.heap.size wc we)
            case first =>
              by_cases hk0 : k = 0
              · subst hk0
                have ez : clock + ((0 : Nat) : Int) = clock := by simp
                rw [ez] at m1 hx1 hx2
                clear hmc ez
                by_cases na : la.length = 0 ∧ ca = 0
                · by_cases nb : lb.length = 0 ∧ cb = 0
                  · have HNa : Hid ((la.length == 0 && ca == 0) = true) := by show _ = _; simp [na.1, na.2]
                    have HNb : Hid ((lb.length == 0 && cb == 0) = true) := by show _ = _; simp [nb.1, nb.2]
                    clear na nb
                    have hBd : Below wc.heap.size wc wc.drew := (Below.refl _ _).drew
                    have k_a0 := cell_regrown a0
                    have k_a1 := cell_regrown a1
                    have k_b0 := cell_regrown b0
                    have k_b1 := cell_regrown b1
                    have k_m0 := cell_regrown m0
                    have k_m1 := cell_regrown m1
                    refine wp_region_quiet_below (by kernel_rfl) (by kernel_rfl) ?_
                    repeat (first | go_big_quiet_step ((first | (go_at_call 157; exact Calls.regrown_of (isNone_is _ _ _ _ _ _ (by first | exact HNa.out | exact HNb.out))))) | quiet_step ((first | (go_at_call 157; exact Calls.regrown_of (isNone_is _ _ _ _ _ _ (by first | exact HNa.out | exact HNb.out))))))
                    refine wpQuiet_nil ?_
                    intro _ hw'
                    obtain ⟨⟨dq, osq⟩, hw''⟩ := hw'
                    subst hw''
                    go_wp2
                    go_meet
                    exact ⟨rfl, below_regrown _ _ _⟩
                  · have HX2 := hidE (hx2.out nb)
                    have HNa : Hid ((la.length == 0 && ca == 0) = true) := by show _ = _; simp [na.1, na.2]
                    have HNb : Hid ((lb.length == 0 && cb == 0) = false) := by show _ = _; rw [Bool.eq_false_iff]; intro e; simp at e; exact nb ⟨by rw [e.1]; rfl, e.2⟩
                    clear na nb
                    have hBd : Below wc.heap.size wc wc.drew := (Below.refl _ _).drew
                    have k_a0 := cell_regrown a0
                    have k_a1 := cell_regrown a1
                    have k_b0 := cell_regrown b0
                    have k_b1 := cell_regrown b1
                    have k_m0 := cell_regrown m0
                    have k_m1 := cell_regrown m1
                    refine wp_region_quiet_below (by kernel_rfl) (by kernel_rfl) ?_
                    repeat (first | go_big_quiet_step ((first | (go_at_call 141; exact Calls.regrown_of (orderNeg _ _ _ _ _ _ _ _ _ (by first | exact hla | exact hlb | exact hle) (by first | exact hla | exact hlb | exact hle) (by first | exact haU.below (below_regrown _ _ _) (Nat.le_refl _) | exact hbUU.below (below_regrown _ _ _) (Nat.le_refl _) | exact hsU.below (below_regrown _ _ _) (Nat.le_refl _)) (by first | exact haU.below (below_regrown _ _ _) (Nat.le_refl _) | exact hbUU.below (below_regrown _ _ _) (Nat.le_refl _) | exact hsU.below (below_regrown _ _ _) (Nat.le_refl _)) (by first | exact HX2.out))) | (go_at_call 157; exact Calls.regrown_of (isNone_is _ _ _ _ _ _ (by first | exact HNa.out | exact HNb.out))))) | quiet_step ((first | (go_at_call 141; exact Calls.regrown_of (orderNeg _ _ _ _ _ _ _ _ _ (by first | exact hla | exact hlb | exact hle) (by first | exact hla | exact hlb | exact hle) (by first | exact haU.below (below_regrown _ _ _) (Nat.le_refl _) | exact hbUU.below (below_regrown _ _ _) (Nat.le_refl _) | exact hsU.below (below_regrown _ _ _) (Nat.le_refl _)) (by first | exact haU.below (below_regrown _ _ _) (Nat.le_refl _) | exact hbUU.below (below_regrown _ _ _) (Nat.le_refl _) | exact hsU.below (below_regrown _ _ _) (Nat.le_refl _)) (by first | exact HX2.out))) | (go_at_call 157; exact Calls.regrown_of (isNone_is _ _ _ _ _ _ (by first | exact HNa.out | exact HNb.out))))))
                    refine wpQuiet_nil ?_
                    intro _ hw'
                    obtain ⟨⟨dq, osq⟩, hw''⟩ := hw'
                    subst hw''
                    go_wp2
                    go_meet
                    exact ⟨rfl, below_regrown _ _ _⟩
                · by_cases nb : lb.length = 0 ∧ cb = 0
                  · have HX1 := hidE (hx1.out na)
                    have HNa : Hid ((la.length == 0 && ca == 0) = false) := by show _ = _; rw [Bool.eq_false_iff]; intro e; simp at e; exact na ⟨by rw [e.1]; rfl, e.2⟩
                    have HNb : Hid ((lb.length == 0 && cb == 0) = true) := by show _ = _; simp [nb.1, nb.2]
                    clear na nb
                    have hBd : Below wc.heap.size wc wc.drew := (Below.refl _ _).drew
                    have k_a0 := cell_regrown a0
                    have k_a1 := cell_regrown a1
                    have k_b0 := cell_regrown b0
                    have k_b1 := cell_regrown b1
                    have k_m0 := cell_regrown m0
                    have k_m1 := cell_regrown m1
                    refine wp_region_quiet_below (by kernel_rfl) (by kernel_rfl) ?_
                    repeat (first | go_big_quiet_step ((first | (go_at_call 141; exact Calls.regrown_of (orderNeg _ _ _ _ _ _ _ _ _ (by first | exact hla | exact hlb | exact hle) (by first | exact hla | exact hlb | exact hle) (by first | exact haU.below (below_regrown _ _ _) (Nat.le_refl _) | exact hbUU.below (below_regrown _ _ _) (Nat.le_refl _) | exact hsU.below (below_regrown _ _ _) (Nat.le_refl _)) (by first | exact haU.below (below_regrown _ _ _) (Nat.le_refl _) | exact hbUU.below (below_regrown _ _ _) (Nat.le_refl _) | exact hsU.below (below_regrown _ _ _) (Nat.le_refl _)) (by first | exact HX1.out))) | (go_at_call 157; exact Calls.regrown_of (isNone_is _ _ _ _ _ _ (by first | exact HNa.out | exact HNb.out))))) | quiet_step ((first | (go_at_call 141; exact Calls.regrown_of (orderNeg _ _ _ _ _ _ _ _ _ (by first | exact hla | exact hlb | exact hle) (by first | exact hla | exact hlb | exact hle) (by first | exact haU.below (below_regrown _ _ _) (Nat.le_refl _) | exact hbUU.below (below_regrown _ _ _) (Nat.le_refl _) | exact hsU.below (below_regrown _ _ _) (Nat.le_refl _)) (by first | exact haU.below (below_regrown _ _ _) (Nat.le_refl _) | exact hbUU.below (below_regrown _ _ _) (Nat.le_refl _) | exact hsU.below (below_regrown _ _ _) (Nat.le_refl _)) (by first | exact HX1.out))) | (go_at_call 157; exact Calls.regrown_of (isNone_is _ _ _ _ _ _ (by first | exact HNa.out | exact HNb.out))))))
                    refine wpQuiet_nil ?_
                    intro _ hw'
                    obtain ⟨⟨dq, osq⟩, hw''⟩ := hw'
                    subst hw''
                    go_wp2
                    go_meet
                    exact ⟨rfl, below_regrown _ _ _⟩
                  · have HX1 := hidE (hx1.out na)
                    have HX2 := hidE (hx2.out nb)
                    have HNa : Hid ((la.length == 0 && ca == 0) = false) := by show _ = _; rw [Bool.eq_false_iff]; intro e; simp at e; exact na ⟨by rw [e.1]; rfl, e.2⟩
                    have HNb : Hid ((lb.length == 0 && cb == 0) = false) := by show _ = _; rw [Bool.eq_false_iff]; intro e; simp at e; exact nb ⟨by rw [e.1]; rfl, e.2⟩
                    clear na nb
                    have hBd : Below wc.heap.size wc wc.drew := (Below.refl _ _).drew
                    have k_a0 := cell_regrown a0
                    have k_a1 := cell_regrown a1
                    have k_b0 := cell_regrown b0
                    have k_b1 := cell_regrown b1
                    have k_m0 := cell_regrown m0
                    have k_m1 := cell_regrown m1
                    refine wp_region_quiet_below (by kernel_rfl) (by kernel_rfl) ?_
                    repeat (first | go_big_quiet_step ((first | (go_at_call 141; exact Calls.regrown_of (orderNeg _ _ _ _ _ _ _ _ _ (by first | exact hla | exact hlb | exact hle) (by first | exact hla | exact hlb | exact hle) (by first | exact haU.below (below_regrown _ _ _) (Nat.le_refl _) | exact hbUU.below (below_regrown _ _ _) (Nat.le_refl _) | exact hsU.below (below_regrown _ _ _) (Nat.le_refl _)) (by first | exact haU.below (below_regrown _ _ _) (Nat.le_refl _) | exact hbUU.below (below_regrown _ _ _) (Nat.le_refl _) | exact hsU.below (below_regrown _ _ _) (Nat.le_refl _)) (by first | exact HX1.out | exact HX2.out))) | (go_at_call 157; exact Calls.regrown_of (isNone_is _ _ _ _ _ _ (by first | exact HNa.out | exact HNb.out))))) | quiet_step ((first | (go_at_call 141; exact Calls.regrown_of (orderNeg _ _ _ _ _ _ _ _ _ (by first | exact hla | exact hlb | exact hle) (by first | exact hla | exact hlb | exact hle) (by first | exact haU.below (below_regrown _ _ _) (Nat.le_refl _) | exact hbUU.below (below_regrown _ _ _) (Nat.le_refl _) | exact hsU.below (below_regrown _ _ _) (Nat.le_refl _)) (by first | exact haU.below (below_regrown _ _ _) (Nat.le_refl _) | exact hbUU.below (below_regrown _ _ _) (Nat.le_refl _) | exact hsU.below (below_regrown _ _ _) (Nat.le_refl _)) (by first | exact HX1.out | exact HX2.out))) | (go_at_call 157; exact Calls.regrown_of (isNone_is _ _ _ _ _ _ (by first | exact HNa.out | exact HNb.out))))))
                    refine wpQuiet_nil ?_
                    intro _ hw'
                    obtain ⟨⟨dq, osq⟩, hw''⟩ := hw'
                    subst hw''
                    go_wp2
                    go_meet
                    exact ⟨rfl, below_regrown _ _ _⟩
              · have hk1 : k - 1 < ms.length := by omega
                have hkp : (k : Int) > 0 := by omega
                have hkn : 0 < k := by omega
                have hkd : decide (0 < k) = true := decide_eq_true hkn
                have hke : decide ((0 : Int) < k) = true := decide_eq_true hkp
                have i5 : (0 : Int) ≤ (k : Int) - 1 := by omega
                have i6 : (k : Int) - 1 < many := by omega
                obtain ⟨p1, c1, l0, l1, hs1, hle1⟩ := hmc (k - 1) hk1
                have hx3 := hidE (hA.rise (by omega))
                rw [hA.clk] at hx3
                have HX3 := hx3
                clear hx3
                replace l0 := (hbU.cell (p := ⟨mb, mo + (k - 1) * 2, none⟩) hmb).trans l0
                replace l1 := (hbU.cell (p := ⟨mb, mo + (k - 1) * 2 + 1, none⟩) hmb).trans l1
                replace hs1 := hs1.below hbU (Nat.le_refl _)
                by_cases na : la.length = 0 ∧ ca = 0
                · by_cases nb : lb.length = 0 ∧ cb = 0
                  · have HNa : Hid ((la.length == 0 && ca == 0) = true) := by show _ = _; simp [na.1, na.2]
                    have HNb : Hid ((lb.length == 0 && cb == 0) = true) := by show _ = _; simp [nb.1, nb.2]
                    clear na nb
                    have hBd : Below wc.heap.size wc wc.drew := (Below.refl _ _).drew
                    have k_a0 := cell_regrown a0
                    have k_a1 := cell_regrown a1
                    have k_b0 := cell_regrown b0
                    have k_b1 := cell_regrown b1
                    have k_m0 := cell_regrown m0
                    have k_m1 := cell_regrown m1
                    have k_l0 := cell_regrown l0
                    have k_l1 := cell_regrown l1
                    refine wp_region_quiet_below (by kernel_rfl) (by kernel_rfl) ?_
                    repeat (first | go_big_quiet_step ((first | (go_at_call 141; exact Calls.regrown_of (orderNeg _ _ _ _ _ _ _ _ _ (by first | exact hla | exact hlb | exact hle | exact hle1) (by first | exact hla | exact hlb | exact hle | exact hle1) (by first | exact haU.below (below_regrown _ _ _) (Nat.le_refl _) | exact hbUU.below (below_regrown _ _ _) (Nat.le_refl _) | exact hsU.below (below_regrown _ _ _) (Nat.le_refl _) | exact hs1.below (below_regrown _ _ _) (Nat.le_refl _)) (by first | exact haU.below (below_regrown _ _ _) (Nat.le_refl _) | exact hbUU.below (below_regrown _ _ _) (Nat.le_refl _) | exact hsU.below (below_regrown _ _ _) (Nat.le_refl _) | exact hs1.below (below_regrown _ _ _) (Nat.le_refl _)) (by first | exact HX3.out))) | (go_at_call 157; exact Calls.regrown_of (isNone_is _ _ _ _ _ _ (by first | exact HNa.out | exact HNb.out))))) | quiet_step ((first | (go_at_call 141; exact Calls.regrown_of (orderNeg _ _ _ _ _ _ _ _ _ (by first | exact hla | exact hlb | exact hle | exact hle1) (by first | exact hla | exact hlb | exact hle | exact hle1) (by first | exact haU.below (below_regrown _ _ _) (Nat.le_refl _) | exact hbUU.below (below_regrown _ _ _) (Nat.le_refl _) | exact hsU.below (below_regrown _ _ _) (Nat.le_refl _) | exact hs1.below (below_regrown _ _ _) (Nat.le_refl _)) (by first | exact haU.below (below_regrown _ _ _) (Nat.le_refl _) | exact hbUU.below (below_regrown _ _ _) (Nat.le_refl _) | exact hsU.below (below_regrown _ _ _) (Nat.le_refl _) | exact hs1.below (below_regrown _ _ _) (Nat.le_refl _)) (by first | exact HX3.out))) | (go_at_call 157; exact Calls.regrown_of (isNone_is _ _ _ _ _ _ (by first | exact HNa.out | exact HNb.out))))))
                    refine wpQuiet_nil ?_
                    intro _ hw'
                    obtain ⟨⟨dq, osq⟩, hw''⟩ := hw'
                    subst hw''
                    go_wp2
                    go_meet
                    exact ⟨rfl, below_regrown _ _ _⟩
                  · have HX2 := hidE (hx2.out nb)
                    have HNa : Hid ((la.length == 0 && ca == 0) = true) := by show _ = _; simp [na.1, na.2]
                    have HNb : Hid ((lb.length == 0 && cb == 0) = false) := by show _ = _; rw [Bool.eq_false_iff]; intro e; simp at e; exact nb ⟨by rw [e.1]; rfl, e.2⟩
                    clear na nb
                    have hBd : Below wc.heap.size wc wc.drew := (Below.refl _ _).drew
                    have k_a0 := cell_regrown a0
                    have k_a1 := cell_regrown a1
                    have k_b0 := cell_regrown b0
                    have k_b1 := cell_regrown b1
                    have k_m0 := cell_regrown m0
                    have k_m1 := cell_regrown m1
                    have k_l0 := cell_regrown l0
                    have k_l1 := cell_regrown l1
                    refine wp_region_quiet_below (by kernel_rfl) (by kernel_rfl) ?_
                    repeat (first | go_big_quiet_step ((first | (go_at_call 141; exact Calls.regrown_of (orderNeg _ _ _ _ _ _ _ _ _ (by first | exact hla | exact hlb | exact hle | exact hle1) (by first | exact hla | exact hlb | exact hle | exact hle1) (by first | exact haU.below (below_regrown _ _ _) (Nat.le_refl _) | exact hbUU.below (below_regrown _ _ _) (Nat.le_refl _) | exact hsU.below (below_regrown _ _ _) (Nat.le_refl _) | exact hs1.below (below_regrown _ _ _) (Nat.le_refl _)) (by first | exact haU.below (below_regrown _ _ _) (Nat.le_refl _) | exact hbUU.below (below_regrown _ _ _) (Nat.le_refl _) | exact hsU.below (below_regrown _ _ _) (Nat.le_refl _) | exact hs1.below (below_regrown _ _ _) (Nat.le_refl _)) (by first | exact HX2.out | exact HX3.out))) | (go_at_call 157; exact Calls.regrown_of (isNone_is _ _ _ _ _ _ (by first | exact HNa.out | exact HNb.out))))) | quiet_step ((first | (go_at_call 141; exact Calls.regrown_of (orderNeg _ _ _ _ _ _ _ _ _ (by first | exact hla | exact hlb | exact hle | exact hle1) (by first | exact hla | exact hlb | exact hle | exact hle1) (by first | exact haU.below (below_regrown _ _ _) (Nat.le_refl _) | exact hbUU.below (below_regrown _ _ _) (Nat.le_refl _) | exact hsU.below (below_regrown _ _ _) (Nat.le_refl _) | exact hs1.below (below_regrown _ _ _) (Nat.le_refl _)) (by first | exact haU.below (below_regrown _ _ _) (Nat.le_refl _) | exact hbUU.below (below_regrown _ _ _) (Nat.le_refl _) | exact hsU.below (below_regrown _ _ _) (Nat.le_refl _) | exact hs1.below (below_regrown _ _ _) (Nat.le_refl _)) (by first | exact HX2.out | exact HX3.out))) | (go_at_call 157; exact Calls.regrown_of (isNone_is _ _ _ _ _ _ (by first | exact HNa.out | exact HNb.out))))))
                    refine wpQuiet_nil ?_
                    intro _ hw'
                    obtain ⟨⟨dq, osq⟩, hw''⟩ := hw'
                    subst hw''
                    go_wp2
                    go_meet
                    exact ⟨rfl, below_regrown _ _ _⟩
                · by_cases nb : lb.length = 0 ∧ cb = 0
                  · have HX1 := hidE (hx1.out na)
                    have HNa : Hid ((la.length == 0 && ca == 0) = false) := by show _ = _; rw [Bool.eq_false_iff]; intro e; simp at e; exact na ⟨by rw [e.1]; rfl, e.2⟩
                    have HNb : Hid ((lb.length == 0 && cb == 0) = true) := by show _ = _; simp [nb.1, nb.2]
                    clear na nb
                    have hBd : Below wc.heap.size wc wc.drew := (Below.refl _ _).drew
                    have k_a0 := cell_regrown a0
                    have k_a1 := cell_regrown a1
                    have k_b0 := cell_regrown b0
                    have k_b1 := cell_regrown b1
                    have k_m0 := cell_regrown m0
                    have k_m1 := cell_regrown m1
                    have k_l0 := cell_regrown l0
                    have k_l1 := cell_regrown l1
                    refine wp_region_quiet_below (by kernel_rfl) (by kernel_rfl) ?_
                    repeat (first | go_big_quiet_step ((first | (go_at_call 141; exact Calls.regrown_of (orderNeg _ _ _ _ _ _ _ _ _ (by first | exact hla | exact hlb | exact hle | exact hle1) (by first | exact hla | exact hlb | exact hle | exact hle1) (by first | exact haU.below (below_regrown _ _ _) (Nat.le_refl _) | exact hbUU.below (below_regrown _ _ _) (Nat.le_refl _) | exact hsU.below (below_regrown _ _ _) (Nat.le_refl _) | exact hs1.below (below_regrown _ _ _) (Nat.le_refl _)) (by first | exact haU.below (below_regrown _ _ _) (Nat.le_refl _) | exact hbUU.below (below_regrown _ _ _) (Nat.le_refl _) | exact hsU.below (below_regrown _ _ _) (Nat.le_refl _) | exact hs1.below (below_regrown _ _ _) (Nat.le_refl _)) (by first | exact HX1.out | exact HX3.out))) | (go_at_call 157; exact Calls.regrown_of (isNone_is _ _ _ _ _ _ (by first | exact HNa.out | exact HNb.out))))) | quiet_step ((first | (go_at_call 141; exact Calls.regrown_of (orderNeg _ _ _ _ _ _ _ _ _ (by first | exact hla | exact hlb | exact hle | exact hle1) (by first | exact hla | exact hlb | exact hle | exact hle1) (by first | exact haU.below (below_regrown _ _ _) (Nat.le_refl _) | exact hbUU.below (below_regrown _ _ _) (Nat.le_refl _) | exact hsU.below (below_regrown _ _ _) (Nat.le_refl _) | exact hs1.below (below_regrown _ _ _) (Nat.le_refl _)) (by first | exact haU.below (below_regrown _ _ _) (Nat.le_refl _) | exact hbUU.below (below_regrown _ _ _) (Nat.le_refl _) | exact hsU.below (below_regrown _ _ _) (Nat.le_refl _) | exact hs1.below (below_regrown _ _ _) (Nat.le_refl _)) (by first | exact HX1.out | exact HX3.out))) | (go_at_call 157; exact Calls.regrown_of (isNone_is _ _ _ _ _ _ (by first | exact HNa.out | exact HNb.out))))))
                    refine wpQuiet_nil ?_
                    intro _ hw'
                    obtain ⟨⟨dq, osq⟩, hw''⟩ := hw'
                    subst hw''
                    go_wp2
                    go_meet
                    exact ⟨rfl, below_regrown _ _ _⟩
                  · have HX1 := hidE (hx1.out na)
                    have HX2 := hidE (hx2.out nb)
                    have HNa : Hid ((la.length == 0 && ca == 0) = false) := by show _ = _; rw [Bool.eq_false_iff]; intro e; simp at e; exact na ⟨by rw [e.1]; rfl, e.2⟩
                    have HNb : Hid ((lb.length == 0 && cb == 0) = false) := by show _ = _; rw [Bool.eq_false_iff]; intro e; simp at e; exact nb ⟨by rw [e.1]; rfl, e.2⟩
                    clear na nb
                    have hBd : Below wc.heap.size wc wc.drew := (Below.refl _ _).drew
                    have k_a0 := cell_regrown a0
                    have k_a1 := cell_regrown a1
                    have k_b0 := cell_regrown b0
                    have k_b1 := cell_regrown b1
                    have k_m0 := cell_regrown m0
                    have k_m1 := cell_regrown m1
                    have k_l0 := cell_regrown l0
                    have k_l1 := cell_regrown l1
                    refine wp_region_quiet_below (by kernel_rfl) (by kernel_rfl) ?_
                    repeat (first | go_big_quiet_step ((first | (go_at_call 141; exact Calls.regrown_of (orderNeg _ _ _ _ _ _ _ _ _ (by first | exact hla | exact hlb | exact hle | exact hle1) (by first | exact hla | exact hlb | exact hle | exact hle1) (by first | exact haU.below (below_regrown _ _ _) (Nat.le_refl _) | exact hbUU.below (below_regrown _ _ _) (Nat.le_refl _) | exact hsU.below (below_regrown _ _ _) (Nat.le_refl _) | exact hs1.below (below_regrown _ _ _) (Nat.le_refl _)) (by first | exact haU.below (below_regrown _ _ _) (Nat.le_refl _) | exact hbUU.below (below_regrown _ _ _) (Nat.le_refl _) | exact hsU.below (below_regrown _ _ _) (Nat.le_refl _) | exact hs1.below (below_regrown _ _ _) (Nat.le_refl _)) (by first | exact HX1.out | exact HX2.out | exact HX3.out))) | (go_at_call 157; exact Calls.regrown_of (isNone_is _ _ _ _ _ _ (by first | exact HNa.out | exact HNb.out))))) | quiet_step ((first | (go_at_call 141; exact Calls.regrown_of (orderNeg _ _ _ _ _ _ _ _ _ (by first | exact hla | exact hlb | exact hle | exact hle1) (by first | exact hla | exact hlb | exact hle | exact hle1) (by first | exact haU.below (below_regrown _ _ _) (Nat.le_refl _) | exact hbUU.below (below_regrown _ _ _) (Nat.le_refl _) | exact hsU.below (below_regrown _ _ _) (Nat.le_refl _) | exact hs1.below (below_regrown _ _ _) (Nat.le_refl _)) (by first | exact haU.below (below_regrown _ _ _) (Nat.le_refl _) | exact hbUU.below (below_regrown _ _ _) (Nat.le_refl _) | exact hsU.below (below_regrown _ _ _) (Nat.le_refl _) | exact hs1.below (below_regrown _ _ _) (Nat.le_refl _)) (by first | exact HX1.out | exact HX2.out | exact HX3.out))) | (go_at_call 157; exact Calls.regrown_of (isNone_is _ _ _ _ _ _ (by first | exact HNa.out | exact HNb.out))))))
                    refine wpQuiet_nil ?_
                    intro _ hw'
                    obtain ⟨⟨dq, osq⟩, hw''⟩ := hw'
                    subst hw''
                    go_wp2
                    go_meet
                    exact ⟨rfl, below_regrown _ _ _⟩
            case rest =>
              obtain ⟨rfl, hb2⟩ := hcut
              go_wp2
              go_roundw
              case rel => exact ⟨k + 1, by omega, by go_num, (hbr.thru hbU hbr.size).thru hb2 (by omega)⟩
              case measure => simp [intOf]; omega
        · go_wp2
          go_ret
          exact ⟨rfl, hbw⟩
end Go.Proofs.YtnhjebdlcbhkcaeGreat
