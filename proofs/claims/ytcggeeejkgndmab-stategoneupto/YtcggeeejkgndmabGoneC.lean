/- Contract of the law StateGone. -/
import Derived.Test.YtcggeeejkgndmabDoC
import Derived.Test.YtcggeeejkgndmabSBeg
import Derived.Test.YtcggeeejkgndmabTakeOf
namespace Go.Proofs.Ytcggeeejkgndmab
open Go.RowKit

set_option maxRecDepth 100000 in
set_option maxHeartbeats 4000000 in
theorem stateGone_ok (a b r : Option Addr) (cap cap' cr : Nat) (l : List At) (g : List Mk) (ds : List Dd) (w : World) (hl : l.length ≤ maxLen) (hg : g.length ≤ maxLen) (hn : ds.length ≤ 1048576) (h : AtomsAt w a l) (h' : MarksAt w b g) (hr : DeedsAt w r ds) :
    Calls Try.prog 8 #[.agg #[.slice a l.length cap, .slice b g.length cap'], .slice r ds.length cr] w fun e w' => e = .returned (.bool true) ∧ Below w.heap.size w w' := by
  have hB := (Below.refl w.heap.size w).alloc (Nat.le_refl _) (Obj.cells #[.slice a l.length cap, .slice b g.length cap'] 51)
  have q0 : (w.alloc (Obj.cells #[.slice a l.length cap, .slice b g.length cap'] 51)).cell? ⟨w.heap.size, 0, none⟩ = some (.slice a l.length cap) := by simp
  have q1 : (w.alloc (Obj.cells #[.slice a l.length cap, .slice b g.length cap'] 51)).cell? ⟨w.heap.size, 1, none⟩ = some (.slice b g.length cap') := by simp
  have z : w.heap.size < (w.alloc (Obj.cells #[.slice a l.length cap, .slice b g.length cap'] 51)).heap.size := by simp
  replace h := h.below hB (Nat.le_refl _)
  replace h' := h'.below hB (Nat.le_refl _)
  replace hr := hr.below hB
  have hg' : g.length ≤ 9223372036854775807 := by unfold maxLen at hg; omega
  go_enter Try.func8, Try.ntmps8
  go_upto_region 1 with fail
  generalize w.alloc (Obj.cells #[.slice a l.length cap, .slice b g.length cap'] 51) = W at hB q0 q1 z h h' hr ⊢
  generalize hzz : w.heap.size = Z at hB q0 q1 z ⊢
  have HZ := hidE hzz
  clear hzz
  go_wp2_with fail
  refine (stateBegun_true W).mono ?_
  rintro e w1 ⟨rfl, hb⟩
  replace q0 := (hb.cell (p := ⟨Z, 0, none⟩) z).trans q0
  replace q1 := (hb.cell (p := ⟨Z, 1, none⟩) z).trans q1
  replace h := h.below hb (Nat.le_refl _)
  replace h' := h'.below hb (Nat.le_refl _)
  replace hr := hr.below hb
  replace hB := hB.thru hb (Nat.le_of_lt z)
  replace z := Nat.lt_of_lt_of_le z hb.size
  clear hb
  have HAL := hidE (stateAll_ok a b r cap cap' cr l g ds w1 hl (by unfold maxLen; omega) h h' hr)
  go_wp2_with fail
  refine HAL.out.mono ?_
  rintro e w2 ⟨hb, hp⟩
  clear HAL
  replace q0 := (hb.cell (p := ⟨Z, 0, none⟩) z).trans q0
  replace q1 := (hb.cell (p := ⟨Z, 1, none⟩) z).trans q1
  replace h := h.below hb (Nat.le_refl _)
  replace h' := h'.below hb (Nat.le_refl _)
  replace hr := hr.below hb
  replace hB := hB.thru hb (Nat.le_of_lt z)
  replace z := Nat.lt_of_lt_of_le z hb.size
  clear hb
  rcases hp with ⟨hne, rfl⟩ | ⟨h0, l', g', p, c, q, d, hok, hda, hok', rfl, hP, hM⟩
  · generalize errAll l g ds = er at hne ⊢
    have hcb : (er != 0) = true := by rw [bne_iff_ne]; exact hne
    clear hne
    go_wp2_with fail
    go_ret
    rw [HZ.out]
    exact ⟨rfl, hB.alloc (Nat.le_of_lt z) _⟩
  · have hcs : chkDs ds = 0 := by
      unfold errAll at h0
      rw [okS_chk hok] at h0
      by_cases e : chkDs ds = 0
      · exact e
      · rw [if_neg (by decide), if_pos e] at h0; exact absurd h0 e
    have HDC := hidE (chkDs_all hcs)
    have HF := hidE (doAll_facts hok (chkDs_all hcs) hda)
    have hl3 := hok'.atoms.len
    have hg6 := hok'.len
    clear hcs h0 hok hda hok'
    obtain ⟨p1, c1, e1, hat, _⟩ := hP.owns.atoms (Below.refl _ _)
    cases e1
    obtain ⟨p2, c2, e2, hmk, _⟩ := hM.marks
    cases e2
    clear hP hM
    go_upto_region 6 with fail
    have hbT := (Below.refl w2.heap.size w2).alloc (Nat.le_refl _) (Obj.cells #[.slice p l'.length c, .slice q g'.length d] 51)
    have t0 : (w2.alloc (Obj.cells #[.slice p l'.length c, .slice q g'.length d] 51)).cell? ⟨w2.heap.size, 0, none⟩ = some (.slice p l'.length c) := by simp
    have t1 : (w2.alloc (Obj.cells #[.slice p l'.length c, .slice q g'.length d] 51)).cell? ⟨w2.heap.size, 1, none⟩ = some (.slice q g'.length d) := by simp
    have zT : w2.heap.size < (w2.alloc (Obj.cells #[.slice p l'.length c, .slice q g'.length d] 51)).heap.size := by simp
    replace q0 := (hbT.cell (p := ⟨Z, 0, none⟩) z).trans q0
    replace q1 := (hbT.cell (p := ⟨Z, 1, none⟩) z).trans q1
    replace h := h.below hbT (Nat.le_refl _)
    replace h' := h'.below hbT (Nat.le_refl _)
    replace hat := hat.below hbT (Nat.le_refl _)
    replace hmk := hmk.below hbT (Nat.le_refl _)
    replace hr := hr.below hbT
    replace hB := hB.thru hbT (Nat.le_of_lt z)
    replace z := Nat.lt_of_lt_of_le z hbT.size
    generalize w2.alloc (Obj.cells #[.slice p l'.length c, .slice q g'.length d] 51) = w3 at hbT t0 t1 zT q0 q1 h h' hat hmk hr hB z ⊢
    generalize w2.heap.size = T at t0 t1 zT ⊢
    clear hbT
    go_wp2_with fail
    go_loopw [7] (fun i wr => ∃ k : Nat, k ≤ g.length ∧ i = .int .i64 k ∧ Below w3.heap.size w3 wr) (fun i _ => g.length - (intOf i).toNat)
    case atStart => exact ⟨0, Nat.zero_le _, rfl, Below.refl _ _⟩
    case round =>
      obtain ⟨k, hk, rfl, hb⟩ := hrel
      replace q0 := (hb.cell (p := ⟨Z, 0, none⟩) z).trans q0
      replace q1 := (hb.cell (p := ⟨Z, 1, none⟩) z).trans q1
      replace t0 := (hb.cell (p := ⟨T, 0, none⟩) zT).trans t0
      replace t1 := (hb.cell (p := ⟨T, 1, none⟩) zT).trans t1
      replace hat := hat.below hb (Nat.le_refl _)
      replace h' := h'.below hb (Nat.le_refl _)
      by_cases hlt : k < g.length
      · replace hmk := hmk.below hb (Nat.le_refl _)
        rcases h' with hs | ⟨ab, ao, rfl, hab, hc⟩
        · simp [hs] at hlt
        obtain ⟨pp, cp, c0, c1, hst, hle⟩ := hc k hlt
        have HG : Hid (hasGone g' g[k].1 g[k].2 = true ∧ hasMk l' g[k].1 g[k].2 = false) := ⟨hasGone_mem (HF.out.1 _ (List.getElem_mem hlt)), HF.out.2.2.apart _ (HF.out.1 _ (List.getElem_mem hlt))⟩
        have hi1 : (k : Int) < g.length := by omega
        clear hc
        generalize g[k].1 = pk at *
        generalize g[k].2 = ck at *
        go_upto_region 9 with fail
        have k0 := cell_regrown q1
        have k1 := cell_regrown t0
        have k2 := cell_regrown t1
        have k3 := cell_regrown c0
        have k4 := cell_regrown c1
        have S1 := hidE (fun d os => hat.below (below_regrown wr d os) (Nat.le_refl _))
        have S2 := hidE (fun d os => hmk.below (below_regrown wr d os) (Nat.le_refl _))
        have S3 := hidE (fun d os => hst.below (below_regrown wr d os) (Nat.le_refl _))
        have hl4 : l'.length ≤ maxLen := by unfold maxLen; omega
        have hg4 : g'.length ≤ maxLen := by unfold maxLen; omega
        have HA := hidE (fun (w : World) (x : AtomsAt w p l') (y : StepsAt w pp pk) => by have := hasMark_any p pp c cp l' pk ck w hl4 hle x y; rw [HG.out.2] at this; exact this)
        have HB := hidE (fun (w : World) (x : MarksAt w q g') (y : StepsAt w pp pk) => by have := hasGone_any q pp d cp g' pk ck w hg4 hle x y; rw [HG.out.1] at this; exact this)
        refine wp_region_quiet_below (by kernel_rfl) (by kernel_rfl) ?_
        repeat (first | go_big_quiet_step (first | (go_at_call 34; exact Calls.regrown_of (HB.out _ (S2.out _ _) (S3.out _ _))) | (go_at_call 35; exact Calls.regrown_of (HA.out _ (S1.out _ _) (S3.out _ _)))) | quiet_step (first | (go_at_call 34; exact Calls.regrown_of (HB.out _ (S2.out _ _) (S3.out _ _))) | (go_at_call 35; exact Calls.regrown_of (HA.out _ (S1.out _ _) (S3.out _ _)))))
        refine wpQuiet_nil ?_
        intro _ hw'
        obtain ⟨⟨dq, osq⟩, hw''⟩ := hw'
        subst hw''
        clear k0 k1 k2 k3 k4
        go_wp2
        go_roundw
        case rel => exact ⟨k + 1, by omega, by go_num, hb.thru (below_regrown _ _ _) hb.size⟩
        case measure => simp [intOf]; omega
      · replace h := h.below hb (Nat.le_refl _)
        replace hr := hr.below hb
        replace hB := hB.thru hb (Nat.le_of_lt z)
        replace z := Nat.lt_of_lt_of_le z hb.size
        replace zT := Nat.lt_of_lt_of_le zT hb.size
        clear hmk h' hb t1
        obtain ⟨wS, hwS⟩ : ∃ x, x = wr := ⟨_, rfl⟩
        subst hwS
        obtain ⟨i0, hi0, hz0, hz1, hz2⟩ := Try.info24
        have HP0 : Hid (putsTo (ds.take 0) = []) := rfl
        go_wp2_with fail
        clear hk hlt q1
        go_loopw [8, 9] (fun v8 i wq => ∃ k : Nat, k ≤ ds.length ∧ i = .int .i64 k ∧ MkRow wq wS.heap.size v8 (putsTo (ds.take k)) ∧ Below wS.heap.size wS wq) (fun _ i _ => ds.length - (intOf i).toNat)
        case atStart => exact ⟨0, Nat.zero_le _, rfl, by rw [HP0.out]; exact MkRow.nil _ _, Below.refl _ _⟩
        case round =>
          obtain ⟨k, hk, rfl, hrow, hb⟩ := hrel
          by_cases hlt : k < ds.length
          · rcases hr.below hb with hs | ⟨ab, ao, rfl, hab, hc⟩
            · simp [hs] at hlt
            have HSN := hidE (putsTo_take hlt)
            have hchk := HDC.out _ (List.getElem_mem hlt)
            have HLN : Hid ((putsTo (ds.take k)).length ≤ 60 * 1048576) := by
              show _ ≤ _
              have h1 := putsTo_len (ds := ds.take k) (fun x hx => HDC.out x (List.mem_of_mem_take hx))
              have h2 : (ds.take k).length ≤ ds.length := by simp; omega
              omega
            have HML := hidE (putsM_len hchk)
            obtain ⟨pp, cp, qq, cq, c0, c1', c2', c3, c4, c5, c6, hDd, hm1, hm2⟩ := hc k hlt
            have HMO := hidE (marksOf_ok ds[k] pp qq cp cq wr hDd hchk)
            have HPM : Hid (ds[k].kind = 1 → putsM ds[k] = marksD ds[k]) := fun e => by unfold putsM; rw [if_pos e]
            have HPN : Hid (ds[k].kind ≠ 1 → putsM ds[k] = []) := fun e => by unfold putsM; rw [if_neg e]
            have HM0 : Hid (ds[k].kind = 1 → 0 < (marksD ds[k]).length) := fun e => by unfold marksD; rw [if_pos e, nextsL_len]; exact (okRun_of (okPut_of e hchk)).len0
            have HKD := hidE (kind_of hchk)
            unfold ddV at HMO
            clear hc hDd hm1 hm2 hchk
            generalize ds[k] = dd at *
            have hi1 : (k : Int) < ds.length := by omega
            by_cases hk1 : dd.kind = 1
            · have HPE := hidE (HPM.out hk1)
              have HME := hidE (HM0.out hk1)
              rw [hk1] at c0 HMO
              clear HPM HPN HM0 HKD hk1
              go_wp2_with fail
              refine HMO.out.mono ?_
              rintro e w4 ⟨vm, cm, rfl, hrow4, hb4⟩
              clear HMO c0 c1' c2' c3 c4 c5 c6
              obtain ⟨rs, hrl, hrown, hrr⟩ := hrow.below hb4
              obtain ⟨rs2, hrl2, hown2, hrr2⟩ := hrow4.mono hb.size
              obtain ⟨gm, cm', hvm⟩ := owns_form hown2 HME.out
              obtain ⟨rfl, rfl⟩ : vm = some ⟨gm, 0, none⟩ ∧ cm = cm' := by simpa using hvm
              have HB4 := hidE (hb.thru hb4 hb.size)
              have hbase : wS.heap.size ≤ w4.heap.size := HB4.out.size
              have HJ := hidE (fun (v' : Value) (w5 : World) (hgrow : w4.grownBy w5 (Value.ownBlock u8)) (h5 : w5.ownsRow wS.heap.size 24 2 v' ((putsTo (ds.take k)).length + (marksD dd).length) (flatK rs ++ flatK rs2)) => MkRow.join hrl hrown hrr hrl2 hrr2 hgrow h5)
              have HCL := hidE (hown2.cells (g := gm) rfl)
              have HFL : Hid ((flatK rs2).length = (marksD dd).length * 2) := by show _ = _; rw [flatK_length, hrl2]
              have HB5 := hidE (fun (w5 : World) (hgrow : w4.grownBy w5 (Value.ownBlock u8)) => HB4.out.grown hgrow hbase (fun j hj => (hrown.lt j hj).1))
              rw [HPE.out] at HML HSN
              clear hrl hrr hrl2 hown2 hrr2 hrow hrow4 hvm hb4
              go_wp2_with (at_builtin; refine wpList_append_own _ rfl _ _ 49 rfl wS.heap.size 24 i0 (.agg #[.slice none 0 0, .int .i64 0]) 2 32 Try.underlying49 hi0 hz0 hz1 hz2 rfl (by decide) _ _ _ rfl hrown ⟨gm, 0, none⟩ (marksD dd).length cm (flatK rs2) rfl HFL.out HCL.out (flatK_one _) ?qa4 ?qa5 hbase ?_)
              case qa4 => have h1 := HLN.out; have h2 := HML.out; unfold maxLen; omega
              case qa5 => have h1 := HLN.out; have h2 := HML.out; omega
              intro v' w5 hown5 hgrow _
              have hrow5 : MkRow w5 wS.heap.size v' (putsTo (ds.take (k + 1))) := by
                rw [HSN.out]
                exact HJ.out v' w5 hgrow hown5
              have hb5 := HB5.out w5 hgrow
              clear hown5 hgrow HJ HB5 hrown
              go_wp2_with fail
              go_roundw
              case rel => exact ⟨k + 1, by omega, by go_num, hrow5, hb5⟩
              case measure => simp [intOf]; omega
            · have hk2 : dd.kind = 2 := by rcases HKD.out with e | e <;> omega
              have HPE := hidE (HPN.out hk1)
              rw [hk2] at c0
              clear HMO HPM HPN HM0 HKD hk1 hk2 c1' c2' c3 c4 c5 c6
              go_wp2_with fail
              go_roundw
              case rel => exact ⟨k + 1, by omega, by go_num, by rw [HSN.out, HPE.out, List.append_nil]; exact hrow, hb⟩
              case measure => simp [intOf]; omega
          · have hke : ds.length = k := by omega
            subst hke
            rw [List.take_length] at hrow
            obtain ⟨pn, cn, hvn, hMn, _, _⟩ := hrow.marks
            subst hvn
            have HLN : Hid ((putsTo ds).length ≤ maxLen) := by
              show _ ≤ _
              have h1 := putsTo_len HDC.out
              unfold maxLen
              omega
            have r0 := (hb.cell (p := ⟨Z, 0, none⟩) z).trans q0
            have s0 := (hb.cell (p := ⟨T, 0, none⟩) zT).trans t0
            have zr := Nat.lt_of_lt_of_le z hb.size
            have zTr := Nat.lt_of_lt_of_le zT hb.size
            replace h := h.below hb (Nat.le_refl _)
            replace hat := hat.below hb (Nat.le_refl _)
            have hBr := hB.thru hb (Nat.le_of_lt z)
            have HFF := hidE HF.out.2.1
            clear hrow hr hb hB q0 t0 z zT HF HDC
            obtain ⟨wT, hwT⟩ : ∃ x, x = wr := ⟨_, rfl⟩
            subst hwT
            generalize hput : putsTo ds = puts at hMn HLN HFF ⊢
            clear hput
            go_wp2_with fail
            clear hk hlt
            go_loopw [10] (fun i wq => ∃ k : Nat, k ≤ l'.length ∧ i = .int .i64 k ∧ Below wT.heap.size wT wq) (fun i _ => l'.length - (intOf i).toNat)
            case atStart => exact ⟨0, Nat.zero_le _, rfl, Below.refl _ _⟩
            case round =>
              obtain ⟨k, hk, rfl, hb⟩ := hrel
              replace r0 := (hb.cell (p := ⟨Z, 0, none⟩) zr).trans r0
              replace s0 := (hb.cell (p := ⟨T, 0, none⟩) zTr).trans s0
              by_cases hlt : k < l'.length
              · replace h := h.below hb (Nat.le_refl _)
                replace hMn := hMn.below hb (Nat.le_refl _)
                rcases hat.below hb (Nat.le_refl _) with hs | ⟨ab, ao, rfl, hab, hc⟩
                · simp [hs] at hlt
                obtain ⟨pp, cp, c0, c1', _, hst, hle, _, _⟩ := hc k hlt
                have HG : Hid (hasMk l l'[k].path l'[k].clock = true ∨ hasGone puts l'[k].path l'[k].clock = true) := by
                  rcases HFF.out _ (List.getElem_mem hlt) with e | e
                  · exact Or.inl (hasMk_mem e)
                  · exact Or.inr (hasGone_mem e)
                have hi1 : (k : Int) < l'.length := by omega
                clear hc
                generalize l'[k].path = pk at *
                generalize l'[k].clock = ck at *
                go_upto_region 20 with fail
                have k0 := cell_regrown r0
                have k1 := cell_regrown s0
                have k3 := cell_regrown c0
                have k4 := cell_regrown c1'
                have S1 := hidE (fun d os => h.below (below_regrown wr d os) (Nat.le_refl _))
                have S2 := hidE (fun d os => hMn.below (below_regrown wr d os) (Nat.le_refl _))
                have S3 := hidE (fun d os => hst.below (below_regrown wr d os) (Nat.le_refl _))
                cases hm : hasMk l pk ck
                · have hgn : hasGone puts pk ck = true := by
                    rcases HG.out with e | e
                    · rw [hm] at e; simp at e
                    · exact e
                  have HA := hidE (fun (w : World) (x : AtomsAt w a l) (y : StepsAt w pp pk) => by have := hasMark_any a pp cap cp l pk ck w hl hle x y; rw [hm] at this; exact this)
                  have HB := hidE (fun (w : World) (x : MarksAt w pn puts) (y : StepsAt w pp pk) => by have := hasGone_any pn pp cn cp puts pk ck w HLN.out hle x y; rw [hgn] at this; exact this)
                  clear hm hgn HG
                  refine wp_region_quiet_below (by kernel_rfl) (by kernel_rfl) ?_
                  repeat (first | go_big_quiet_step (first | (go_at_call 34; exact Calls.regrown_of (HB.out _ (S2.out _ _) (S3.out _ _))) | (go_at_call 35; exact Calls.regrown_of (HA.out _ (S1.out _ _) (S3.out _ _)))) | quiet_step (first | (go_at_call 34; exact Calls.regrown_of (HB.out _ (S2.out _ _) (S3.out _ _))) | (go_at_call 35; exact Calls.regrown_of (HA.out _ (S1.out _ _) (S3.out _ _)))))
                  refine wpQuiet_nil ?_
                  intro _ hw'
                  obtain ⟨⟨dq, osq⟩, hw''⟩ := hw'
                  subst hw''
                  clear k0 k1 k3 k4
                  go_wp2
                  go_roundw
                  case rel => exact ⟨k + 1, by omega, by go_num, hb.thru (below_regrown _ _ _) hb.size⟩
                  case measure => simp [intOf]; omega
                · have HA := hidE (fun (w : World) (x : AtomsAt w a l) (y : StepsAt w pp pk) => by have := hasMark_any a pp cap cp l pk ck w hl hle x y; rw [hm] at this; exact this)
                  clear hm HG
                  refine wp_region_quiet_below (by kernel_rfl) (by kernel_rfl) ?_
                  repeat (first | go_big_quiet_step ((go_at_call 35; exact Calls.regrown_of (HA.out _ (S1.out _ _) (S3.out _ _)))) | quiet_step ((go_at_call 35; exact Calls.regrown_of (HA.out _ (S1.out _ _) (S3.out _ _)))))
                  refine wpQuiet_nil ?_
                  intro _ hw'
                  obtain ⟨⟨dq, osq⟩, hw''⟩ := hw'
                  subst hw''
                  clear k0 k1 k3 k4
                  go_wp2
                  go_roundw
                  case rel => exact ⟨k + 1, by omega, by go_num, hb.thru (below_regrown _ _ _) hb.size⟩
                  case measure => simp [intOf]; omega
              · go_wp2
                go_ret
                rw [HZ.out]
                exact ⟨rfl, hBr.thru hb (Nat.le_of_lt zr)⟩
end Go.Proofs.Ytcggeeejkgndmab
