/- Contract of the law CaretStays. -/
import Derived.Test.YtlpfnpkmgkbngacCStayPu
import Derived.Test.YtlpfnpkmgkbngacDoC
import Derived.Test.YtlpfnpkmgkbngacSBeg
import Derived.Test.YtlpfnpkmgkbngacTakeOf
namespace Go.Proofs.Ytlpfnpkmgkbngac
open Go.RowKit

set_option maxRecDepth 100000 in
set_option maxHeartbeats 8000000 in
theorem caretStays_ok (a b r : Option Addr) (cap cap' cr : Nat) (l : List At) (g : List Mk) (place : Int) (ds : List Dd) (w : World) (hl : l.length ≤ maxLen) (hn : ds.length ≤ maxLen) (h : AtomsAt w a l) (h' : MarksAt w b g) (hr : DeedsAt w r ds) :
    Calls Try.prog 6 #[.agg #[.slice a l.length cap, .slice b g.length cap'], .int .i64 place, .slice r ds.length cr] w fun e w' => e = .returned (.bool true) ∧ Below w.heap.size w w' := by
  have hB := (Below.refl w.heap.size w).alloc (Nat.le_refl _) (Obj.cells #[.slice a l.length cap, .slice b g.length cap'] 32)
  have q0 : (w.alloc (Obj.cells #[.slice a l.length cap, .slice b g.length cap'] 32)).cell? ⟨w.heap.size, 0, none⟩ = some (.slice a l.length cap) := by simp
  have q1 : (w.alloc (Obj.cells #[.slice a l.length cap, .slice b g.length cap'] 32)).cell? ⟨w.heap.size, 1, none⟩ = some (.slice b g.length cap') := by simp
  have z : w.heap.size < (w.alloc (Obj.cells #[.slice a l.length cap, .slice b g.length cap'] 32)).heap.size := by simp
  replace h := h.below hB (Nat.le_refl _)
  replace h' := h'.below hB (Nat.le_refl _)
  replace hr := hr.below hB
  go_enter Try.func6, Try.ntmps6
  go_upto_region 1 with fail
  generalize w.alloc (Obj.cells #[.slice a l.length cap, .slice b g.length cap'] 32) = W at hB q0 q1 z h h' hr ⊢
  generalize hzz : w.heap.size = Z at hB q0 q1 z ⊢
  have HZ := hidE hzz
  clear hzz
  go_wp2_with fail
  refine (caretBegun_true W).mono ?_
  rintro e w1 ⟨rfl, hb⟩
  replace q0 := (hb.cell (p := ⟨Z, 0, none⟩) z).trans q0
  replace q1 := (hb.cell (p := ⟨Z, 1, none⟩) z).trans q1
  replace h := h.below hb (Nat.le_refl _)
  replace h' := h'.below hb (Nat.le_refl _)
  replace hr := hr.below hb
  replace hB := hB.thru hb (Nat.le_of_lt z)
  replace z := Nat.lt_of_lt_of_le z hb.size
  clear hb
  go_wp2_with fail
  refine (stateBegun_true w1).mono ?_
  rintro e w2 ⟨rfl, hb⟩
  replace q0 := (hb.cell (p := ⟨Z, 0, none⟩) z).trans q0
  replace q1 := (hb.cell (p := ⟨Z, 1, none⟩) z).trans q1
  replace h := h.below hb (Nat.le_refl _)
  replace h' := h'.below hb (Nat.le_refl _)
  replace hr := hr.below hb
  replace hB := hB.thru hb (Nat.le_of_lt z)
  replace z := Nat.lt_of_lt_of_le z hb.size
  clear hb
  have HC := hidE (caretOf_any a b cap cap' l g place w2 hl h h')
  have HE := hidE (@ofL_err l g place)
  have HL := hidE (@caret_law l g place)
  generalize (ofL l g place).1 = mp at *
  generalize (ofL l g place).2.1 = mc at *
  generalize (ofL l g place).2.2 = er at *
  go_wp2_with fail
  refine HC.out.mono ?_
  rintro e w3 ⟨p, c, rfl, hs, hb⟩
  clear HC
  replace q0 := (hb.cell (p := ⟨Z, 0, none⟩) z).trans q0
  replace q1 := (hb.cell (p := ⟨Z, 1, none⟩) z).trans q1
  replace h := h.below hb (Nat.le_refl _)
  replace h' := h'.below hb (Nat.le_refl _)
  replace hr := hr.below hb
  replace hB := hB.thru hb (Nat.le_of_lt z)
  replace z := Nat.lt_of_lt_of_le z hb.size
  clear hb
  by_cases he : er = 0
  case neg =>
    have hmp := HE.out he
    subst hmp
    have heb : (er != 0) = true := by rw [bne_iff_ne]; exact he
    clear he HE HL
    go_wp2_with fail
    go_ret
    rw [HZ.out]
    exact ⟨rfl, hB.alloc (Nat.le_of_lt z) _⟩
  obtain ⟨pl, hpl, hok, hmp10, hat1, hlaw⟩ := HL.out he
  subst hpl
  have HOK := hidE hok
  have HLAW := hidE hlaw
  rw [he]
  clear HE HL he hok hlaw
  go_upto_region 6 with fail
  have hb := (Below.refl w3.heap.size w3).alloc (Nat.le_refl _) (Obj.cells #[.slice p mp.length c, .int .i64 mc] 41)
  have m0 : (w3.alloc (Obj.cells #[.slice p mp.length c, .int .i64 mc] 41)).cell? ⟨w3.heap.size, 0, none⟩ = some (.slice p mp.length c) := by simp
  have m1 : (w3.alloc (Obj.cells #[.slice p mp.length c, .int .i64 mc] 41)).cell? ⟨w3.heap.size, 1, none⟩ = some (.int .i64 mc) := by simp
  have zM : w3.heap.size < (w3.alloc (Obj.cells #[.slice p mp.length c, .int .i64 mc] 41)).heap.size := by simp
  replace q0 := (hb.cell (p := ⟨Z, 0, none⟩) z).trans q0
  replace q1 := (hb.cell (p := ⟨Z, 1, none⟩) z).trans q1
  replace h := h.below hb (Nat.le_refl _)
  replace h' := h'.below hb (Nat.le_refl _)
  replace hr := hr.below hb
  replace hs := hs.below hb (Nat.le_refl _)
  replace hB := hB.thru hb (Nat.le_of_lt z)
  replace z := Nat.lt_of_lt_of_le z hb.size
  generalize w3.alloc (Obj.cells #[.slice p mp.length c, .int .i64 mc] 41) = w4 at hb m0 m1 zM q0 q1 z h h' hr hs hB ⊢
  generalize w3.heap.size = M at m0 m1 zM ⊢
  clear hb
  have hml : mp.length ≤ maxLen := by unfold maxLen; omega
  have HC := hidE (caretAt_any a b p cap cap' c l g mp mc w4 hl hml h h' hs)
  rw [hat1] at HC
  clear hat1
  go_wp2_with fail
  refine HC.out.mono ?_
  rintro e w5 ⟨rfl, hb⟩
  clear HC
  replace q0 := (hb.cell (p := ⟨Z, 0, none⟩) z).trans q0
  replace q1 := (hb.cell (p := ⟨Z, 1, none⟩) z).trans q1
  replace m0 := (hb.cell (p := ⟨M, 0, none⟩) zM).trans m0
  replace m1 := (hb.cell (p := ⟨M, 1, none⟩) zM).trans m1
  replace h := h.below hb (Nat.le_refl _)
  replace h' := h'.below hb (Nat.le_refl _)
  replace hr := hr.below hb
  replace hs := hs.below hb (Nat.le_refl _)
  replace hB := hB.thru hb (Nat.le_of_lt z)
  replace z := Nat.lt_of_lt_of_le z hb.size
  replace zM := Nat.lt_of_lt_of_le zM hb.size
  clear hb
  have HC := hidE (stateAll_ok a b r cap cap' cr l g ds w5 hl hn h h' hr)
  go_wp2_with fail
  refine HC.out.mono ?_
  rintro e w6 ⟨hb, hp⟩
  clear HC
  replace q0 := (hb.cell (p := ⟨Z, 0, none⟩) z).trans q0
  replace q1 := (hb.cell (p := ⟨Z, 1, none⟩) z).trans q1
  replace m0 := (hb.cell (p := ⟨M, 0, none⟩) zM).trans m0
  replace m1 := (hb.cell (p := ⟨M, 1, none⟩) zM).trans m1
  replace h := h.below hb (Nat.le_refl _)
  replace h' := h'.below hb (Nat.le_refl _)
  replace hr := hr.below hb
  replace hs := hs.below hb (Nat.le_refl _)
  replace hB := hB.thru hb (Nat.le_of_lt z)
  replace z := Nat.lt_of_lt_of_le z hb.size
  replace zM := Nat.lt_of_lt_of_le zM hb.size
  clear hb
  rcases hp with ⟨hne, rfl⟩ | ⟨_, l', g', pt, ct, qt, dt, _, hda, hok', rfl, hP, hM⟩
  · generalize errAll l g ds = er2 at hne ⊢
    have heb : (er2 != 0) = true := by rw [bne_iff_ne]; exact hne
    clear hne
    go_wp2_with fail
    go_ret
    rw [HZ.out]
    exact ⟨rfl, hB.alloc (Nat.le_of_lt z) _⟩
  obtain ⟨k, hk1, hst⟩ := HLAW.out l' g' ds hok' hda
  have hl3 := hok'.atoms.len
  have hg6 := hok'.len
  have hl0 := HOK.out.atoms.len
  obtain ⟨hkl, hside, hlast⟩ := hst
  have HSIDE := hidE hside
  have HLAST := hidE hlast
  clear hda hok' HLAW HOK hside hlast
  obtain ⟨p1, c1, e1, hat, _⟩ := hP.owns.atoms (Below.refl _ _)
  cases e1
  obtain ⟨p2, c2, e2, hmk, _⟩ := hM.marks
  cases e2
  clear hP hM
  go_upto_region 12 with fail
  have hb := (Below.refl w6.heap.size w6).alloc (Nat.le_refl _) (Obj.cells #[.slice pt l'.length ct, .slice qt g'.length dt] 32)
  have t0 : (w6.alloc (Obj.cells #[.slice pt l'.length ct, .slice qt g'.length dt] 32)).cell? ⟨w6.heap.size, 0, none⟩ = some (.slice pt l'.length ct) := by simp
  have t1 : (w6.alloc (Obj.cells #[.slice pt l'.length ct, .slice qt g'.length dt] 32)).cell? ⟨w6.heap.size, 1, none⟩ = some (.slice qt g'.length dt) := by simp
  have zT : w6.heap.size < (w6.alloc (Obj.cells #[.slice pt l'.length ct, .slice qt g'.length dt] 32)).heap.size := by simp
  replace q0 := (hb.cell (p := ⟨Z, 0, none⟩) z).trans q0
  replace q1 := (hb.cell (p := ⟨Z, 1, none⟩) z).trans q1
  replace m0 := (hb.cell (p := ⟨M, 0, none⟩) zM).trans m0
  replace m1 := (hb.cell (p := ⟨M, 1, none⟩) zM).trans m1
  replace h := h.below hb (Nat.le_refl _)
  replace h' := h'.below hb (Nat.le_refl _)
  replace hr := hr.below hb
  replace hs := hs.below hb (Nat.le_refl _)
  replace hat := hat.below hb (Nat.le_refl _)
  replace hmk := hmk.below hb (Nat.le_refl _)
  replace hB := hB.thru hb (Nat.le_of_lt z)
  replace z := Nat.lt_of_lt_of_le z hb.size
  replace zM := Nat.lt_of_lt_of_le zM hb.size
  generalize w6.alloc (Obj.cells #[.slice pt l'.length ct, .slice qt g'.length dt] 32) = w7 at hb t0 t1 zT m0 m1 zM q0 q1 z h h' hr hs hat hmk hB ⊢
  generalize w6.heap.size = T at t0 t1 zT ⊢
  clear hb
  have HC := hidE (caretAt_any pt qt p ct dt c l' g' mp mc w7 (by unfold maxLen; omega) hml hat hmk hs)
  rw [hk1] at HC
  clear hk1
  go_wp2_with fail
  refine HC.out.mono ?_
  rintro e w8 ⟨rfl, hb⟩
  clear HC
  replace q0 := (hb.cell (p := ⟨Z, 0, none⟩) z).trans q0
  replace q1 := (hb.cell (p := ⟨Z, 1, none⟩) z).trans q1
  replace m0 := (hb.cell (p := ⟨M, 0, none⟩) zM).trans m0
  replace m1 := (hb.cell (p := ⟨M, 1, none⟩) zM).trans m1
  replace t0 := (hb.cell (p := ⟨T, 0, none⟩) zT).trans t0
  replace t1 := (hb.cell (p := ⟨T, 1, none⟩) zT).trans t1
  replace h := h.below hb (Nat.le_refl _)
  replace h' := h'.below hb (Nat.le_refl _)
  replace hr := hr.below hb
  replace hs := hs.below hb (Nat.le_refl _)
  replace hat := hat.below hb (Nat.le_refl _)
  replace hmk := hmk.below hb (Nat.le_refl _)
  replace hB := hB.thru hb (Nat.le_of_lt z)
  replace z := Nat.lt_of_lt_of_le z hb.size
  replace zM := Nat.lt_of_lt_of_le zM hb.size
  replace zT := Nat.lt_of_lt_of_le zT hb.size
  clear hb
  have hk0 : ¬ ((k : Int) < 0) := by omega
  have hk2 : ¬ ((k : Int) > l'.length) := by omega
  go_upto_region 15 with fail
  go_wp2_with fail
  go_loopw [12] (fun i wr => ∃ i' : Nat, i' ≤ l.length ∧ i = .int .i64 i' ∧ Below w8.heap.size w8 wr) (fun i _ => l.length - (intOf i).toNat)
  case atStart => exact ⟨0, Nat.zero_le _, rfl, Below.refl _ _⟩
  case round =>
    obtain ⟨i, hi, rfl, hb⟩ := hrel
    have r0 := (hb.cell (p := ⟨Z, 0, none⟩) z).trans q0
    by_cases hlt : i < l.length
    · have hi1 : (i : Int) < l.length := by omega
      go_wp2_with fail
      go_loopw [13] (fun i2 wr2 => ∃ j' : Nat, j' ≤ l'.length ∧ i2 = .int .i64 j' ∧ Below w8.heap.size w8 wr2) (fun i2 _ => l'.length - (intOf i2).toNat)
      case atStart => exact ⟨0, Nat.zero_le _, rfl, hb⟩
      case round =>
        obtain ⟨j, hj, rfl, hb2⟩ := hrel
        have r0 := (hb2.cell (p := ⟨Z, 0, none⟩) z).trans q0
        have s0 := (hb2.cell (p := ⟨T, 0, none⟩) zT).trans t0
        by_cases hltj : j < l'.length
        · have hj1 : (j : Int) < l'.length := by omega
          rcases h.below hb2 (Nat.le_refl _) with e | ⟨ab, ao, rfl, hab, hc⟩
          · simp [e] at hlt
          rcases hat.below hb2 (Nat.le_refl _) with e | ⟨tb, tf, rfl, htb, hct⟩
          · simp [e] at hltj
          obtain ⟨py, cy, c0, c1, _, hsy, hly, _⟩ := hc i hlt
          obtain ⟨pz, cz, d0, d1, _, hsz, hlz, _⟩ := hct j hltj
          have HS := hidE (HSIDE.out i j hlt hltj)
          clear hc hct
          generalize l[i].path = lp at c0 hsy hly HS
          generalize l[i].clock = lc at c1 HS
          generalize l'[j].path = zp at d0 hsz hlz HS
          generalize l'[j].clock = zc at d1 HS
          have k0 := cell_regrown r0
          have k1 := cell_regrown s0
          have k2 := cell_regrown c0
          have k3 := cell_regrown c1
          have k4 := cell_regrown d0
          have k5 := cell_regrown d1
          have HSM := hidE (fun d os => sameMark_n py pz cy cz lp.length zp.length lp zp lc zc _ rfl rfl hly hlz (hsy.below (below_regrown wr d os) (Nat.le_refl _)) (hsz.below (below_regrown wr d os) (Nat.le_refl _)))
          clear hsy hsz
          cases hsm : (ordM lp lc zp zc == 0)
          · rw [hsm] at HSM
            clear hsm HS
            go_upto_region 21 with fail
            refine wp_region_quiet_below (by kernel_rfl) (by kernel_rfl) ?_
            repeat (first | go_big_quiet_step ((go_at_call 20; with_reducible exact Calls.regrown_of (HSM.out _ _))) | quiet_step ((go_at_call 20; with_reducible exact Calls.regrown_of (HSM.out _ _))))
            refine wpQuiet_nil ?_
            intro _ hw'
            obtain ⟨⟨dq, osq⟩, hw''⟩ := hw'
            subst hw''
            replace hb2 := hb2.thru (below_regrown wr dq osq) hb2.size
            go_wp2_with fail
            go_roundw
            case rel => exact ⟨j + 1, by omega, by go_num, hb2⟩
            case measure => simp [intOf]; omega
          · have hsd := HS.out (by simpa using hsm)
            have hor : ((j : Int) < k ∧ (i : Int) < pl) ∨ (¬ ((j : Int) < k) ∧ ¬ ((i : Int) < pl)) := by
              by_cases hjk : j < k
              · have := hsd.1 hjk
                exact Or.inl ⟨by omega, by omega⟩
              · have : ¬ i < pl := fun e => hjk (hsd.2 e)
                exact Or.inr ⟨by omega, by omega⟩
            rw [hsm] at HSM
            clear hsm HS hsd
            rcases hor with ⟨a1, a2⟩ | ⟨a1, a2⟩
            all_goals
              go_upto_region 21 with fail
              refine wp_region_quiet_below (by kernel_rfl) (by kernel_rfl) ?_
              repeat (first | go_big_quiet_step ((go_at_call 20; with_reducible exact Calls.regrown_of (HSM.out _ _))) | quiet_step ((go_at_call 20; with_reducible exact Calls.regrown_of (HSM.out _ _))))
              refine wpQuiet_nil ?_
              intro _ hw'
              obtain ⟨⟨dq, osq⟩, hw''⟩ := hw'
              subst hw''
              replace hb2 := hb2.thru (below_regrown wr dq osq) hb2.size
              go_wp2_with fail
              go_roundw
              case rel => exact ⟨j + 1, by omega, by go_num, hb2⟩
              case measure => simp [intOf]; omega
        · have hj1 : ¬ ((j : Int) < l'.length) := by omega
          go_wp2_with fail
          go_roundw
          case rel => exact ⟨i + 1, by omega, by go_num, hb2⟩
          case measure => simp [intOf]; omega
    · have hi1 : ¬ ((i : Int) < l.length) := by omega
      have s0 := (hb.cell (p := ⟨T, 0, none⟩) zT).trans t0
      have s1 := (hb.cell (p := ⟨T, 1, none⟩) zT).trans t1
      have n0 := (hb.cell (p := ⟨M, 0, none⟩) zM).trans m0
      have n1 := (hb.cell (p := ⟨M, 1, none⟩) zM).trans m1
      have k0 := cell_regrown s0
      have k1 := cell_regrown s1
      have k2 := cell_regrown n0
      have k3 := cell_regrown n1
      have HHG := hidE (fun d os => hasGone_any qt p dt c g' mp mc _ (by unfold maxLen; omega) hml ((hmk.below hb (Nat.le_refl _)).below (below_regrown wr d os) (Nat.le_refl _)) ((hs.below hb (Nat.le_refl _)).below (below_regrown wr d os) (Nat.le_refl _)))
      by_cases hp0 : pl = 0
      · have hpb : ((pl : Int) == 0) = true := by rw [hp0]; rfl
        clear HLAST hp0
        go_upto_region 23 with fail
        refine wp_region_quiet_below (by kernel_rfl) (by kernel_rfl) ?_
        repeat (first | go_big_quiet_step (fail) | quiet_step (fail))
        refine wpQuiet_nil ?_
        intro _ hw'
        obtain ⟨⟨dq, osq⟩, hw''⟩ := hw'
        subst hw''
        replace hb := hb.thru (below_regrown wr dq osq) hb.size
        go_wp2_with fail
        go_ret
        rw [HZ.out]
        exact ⟨rfl, hB.thru hb (Nat.le_of_lt z)⟩
      have hpb : ((pl : Int) == 0) = false := by simpa using hp0
      cases hgo : hasGone g' mp mc
      case true =>
        rw [hgo] at HHG
        clear HLAST hp0 hgo
        go_upto_region 23 with fail
        refine wp_region_quiet_below (by kernel_rfl) (by kernel_rfl) ?_
        repeat (first | go_big_quiet_step ((go_at_call 23; with_reducible exact Calls.regrown_of (HHG.out _ _))) | quiet_step ((go_at_call 23; with_reducible exact Calls.regrown_of (HHG.out _ _))))
        refine wpQuiet_nil ?_
        intro _ hw'
        obtain ⟨⟨dq, osq⟩, hw''⟩ := hw'
        subst hw''
        replace hb := hb.thru (below_regrown wr dq osq) hb.size
        go_wp2_with fail
        go_ret
        rw [HZ.out]
        exact ⟨rfl, hB.thru hb (Nat.le_of_lt z)⟩
      rw [hgo] at HHG
      rcases HLAST.out with e | e | ⟨j, hj, rfl, hsm⟩
      · exact absurd e hp0
      · rw [hgo] at e; cases e
      clear HLAST hp0 hgo
      rcases hat.below hb (Nat.le_refl _) with e | ⟨tb, tf, rfl, htb, hct⟩
      · simp [e] at hj
      obtain ⟨pz, cz, d0, d1, _, hsz, hlz, _⟩ := hct j hj
      clear hct
      generalize l'[j].path = zp at d0 hsz hlz hsm
      generalize l'[j].clock = zc at d1 hsm
      have HSM := hidE (fun d os => sameMark_n pz p cz c zp.length mp.length zp mp zc mc _ rfl rfl hlz hml (hsz.below (below_regrown wr d os) (Nat.le_refl _)) ((hs.below hb (Nat.le_refl _)).below (below_regrown wr d os) (Nat.le_refl _)))
      rw [show (ordM zp zc mp mc == 0) = true by simpa using hsm] at HSM
      have k4 := cell_regrown d0
      have k5 := cell_regrown d1
      have hw1 : IntKind.i64.wrap (((j + 1 : Nat) : Int) - 1) = (j : Int) := by rw [IntKind.wrap_i64] <;> omega
      have hg : decide (((j + 1 : Nat) : Int) > 0) = true := by simp
      have hj1 : (j : Int) < l'.length := by omega
      clear hsm hsz
      go_upto_region 23 with fail
      refine wp_region_quiet_below (by kernel_rfl) (by kernel_rfl) ?_
      repeat (first | go_big_quiet_step ((first | (go_at_call 23; with_reducible exact Calls.regrown_of (HHG.out _ _)) | (go_at_call 20; with_reducible exact Calls.regrown_of (HSM.out _ _)))) | quiet_step ((first | (go_at_call 23; with_reducible exact Calls.regrown_of (HHG.out _ _)) | (go_at_call 20; with_reducible exact Calls.regrown_of (HSM.out _ _)))))
      refine wpQuiet_nil ?_
      intro _ hw'
      obtain ⟨⟨dq, osq⟩, hw''⟩ := hw'
      subst hw''
      replace hb := hb.thru (below_regrown wr dq osq) hb.size
      go_wp2_with fail
      go_ret
      rw [HZ.out]
      exact ⟨rfl, hB.thru hb (Nat.le_of_lt z)⟩
end Go.Proofs.Ytlpfnpkmgkbngac
