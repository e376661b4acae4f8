/- Contract of the reference's CheckRelay. -/
import Derived.Test.YtnhjebdlcbhkcafNoteR
import Derived.Test.YtnhjebdlcbhkcafRelPu
import Derived.Test.YtnhjebdlcbhkcafCloneX
import Derived.Laws.OwnMore
namespace Go.Proofs.Ytnhjebdlcbhkcaf
open Go.RowKit

/-- the row of how many notes are of each site -/
def cnR (l : List Nt) : List Value := [.int .i64 (cntS 0 l), .int .i64 (cntS 1 l), .int .i64 (cntS 2 l), .int .i64 (cntS 3 l), .int .i64 (cntS 4 l)]
theorem made5 : (madeCells (Value.int .i64 0).cells (5 * 1)).toList = cnR [] := by
  rw [show (Value.int .i64 0).cells = #[Value.int .i64 0] from rfl, toList_madeCells_one]
  rfl
theorem cnR_at (l : List Nt) (m : Nat) (hm : m < 5) : (cnR l)[m]? = some (.int .i64 (cntS (m : Int) l)) := by
  rcases (show m = 0 ∨ m = 1 ∨ m = 2 ∨ m = 3 ∨ m = 4 by omega) with rfl | rfl | rfl | rfl | rfl <;> rfl
theorem cnR_snoc (l : List Nt) (n : Nt) (m : Nat) (hm : m < 5) (hs : n.site = (m : Int)) : (cnR l).set m (.int .i64 ((cntS (m : Int) l : Int) + 1)) = cnR (l ++ [n]) := by
  unfold cnR
  simp only [cntS_snoc, hs]
  rcases (show m = 0 ∨ m = 1 ∨ m = 2 ∨ m = 3 ∨ m = 4 by omega) with rfl | rfl | rfl | rfl | rfl <;> simp

set_option maxRecDepth 100000 in
set_option maxHeartbeats 4000000 in
theorem refRelay_any (a : Option Addr) (c : Nat) (ns : List Nt) (w : World) (h : NotesAt w a ns) :
    Calls Try.prog 6 #[.agg #[.slice a ns.length c]] w fun e w' => e = .returned (.int .i64 (chkRel ns)) ∧ Below w.heap.size w w' := by
  obtain ⟨i0, hi, hz0, hz1, hz2⟩ := infoCI
  have hA := alloc_below w (Obj.cells #[.slice a ns.length c] 24)
  have hN := Blk.new w #[.slice a ns.length c] 24
  have H0 := hidE h
  clear h
  go_enter Try.func6, Try.ntmps6
  go_upto_region 1 with fail
  generalize w.alloc (Obj.cells #[.slice a ns.length c] 24) = W at *
  have n0 := hN.is 0 rfl
  by_cases h3 : 300 < ns.length
  · have HF : Hid (chkRel ns = 2) := by show _ = _; unfold chkRel; rw [if_pos h3]
    have hg : ((ns.length : Int) > 300) := by omega
    have HA := hidE hA
    clear hA hN
    go_wp2_with fail
    go_ret
    exact ⟨by rw [HF.out]; rfl, HA.out⟩
  have HF : Hid (chkRel ns = chkFromR [] ns) := by show _ = _; unfold chkRel; rw [if_neg h3]
  have hg : ¬ ((ns.length : Int) > 300) := by omega
  have hNlt := hN.lt
  have HN := hidE hN
  have HA := hidE hA
  have h3' : ns.length ≤ 300 := by omega
  clear hN hA h3
  go_upto_region 4 with (at_make; refine wpList_make_full _ rfl _ _ 25 rfl W.heap.size 3 i0 (.int .i64 0) 1 Try.underlying25 hi hz0 hz1 .i64 .i64 5 5 5 rfl rfl rfl rfl (by omega) (by decide) (Nat.le_refl _) ?_; intro w1 hO hG)
  have hO' : w1.ownsRow W.heap.size 3 1 (.slice (some ⟨W.heap.size, 0, none⟩) 5 5) 5 (cnR []) := by rw [← made5]; exact hO
  have hNM := HN.out.grown hG (by simp)
  have hBM : Below w.heap.size w w1 := HA.out.grown hG HA.out.size (fun k hk => by cases hk)
  have HO := hidE hO'
  have HNM := hidE hNM
  have HBM := hidE hBM
  have HZ := hidE hNlt
  have hBs := HA.out.size
  clear hO hO' hG hNM hBM HN HA hNlt n0 hg hi hz0 hz1 hz2
  generalize W.heap.size = M at *
  go_wp2_with fail
  go_loopw [4] (fun vi wr => ∃ k : Nat, k ≤ ns.length ∧ vi = .int .i64 k ∧ chkFromR (ns.take k) (ns.drop k) = chkFromR [] ns ∧ wr.ownsRow M 3 1 (.slice (some ⟨M, 0, none⟩) 5 5) 5 (cnR (ns.take k)) ∧ Blk wr w.heap.size #[.slice a ns.length c] 24 ∧ Below w.heap.size w wr) (fun vi _ => ns.length - (intOf vi).toNat)
  case atStart => exact ⟨0, Nat.zero_le _, rfl, rfl, HO.out, HNM.out, HBM.out⟩
  case round =>
    obtain ⟨k, hk, rfl, hR, hO, hN, hB⟩ := hrel
    have n0 := hN.is 0 rfl
    rcases Nat.lt_or_ge k ns.length with hlt | hge
    · have hi1 : (k : Int) < ns.length := by omega
      rcases H0.out with e0 | ⟨b, o, rfl, hb, hc⟩
      · simp [e0] at hlt
      obtain ⟨p1, cp1, q1, cq1, c0, c1, c2, c3, hda⟩ := hc k hlt
      have hbw := fun j => (hB.cell (p := ⟨b, j, none⟩) hb)
      rw [← hbw] at c0 c1 c2 c3
      have HDa := hidE (hda.below hB)
      have HStep := hidE (chkFromR_drop hlt)
      have HTk := hidE (List.take_succ_eq_append_getElem hlt)
      have HR := hidE hR
      clear hbw hc hda hR
      generalize ns[k] = d at *
      obtain ⟨site, number, needs, deeds⟩ := d
      have H2 := hidE (checkNote_any ⟨site, number, needs, deeds⟩ p1 q1 cp1 cq1 _ HDa.out)
      have HO1 := hidE hO
      have HN1 := hidE hN
      have HB1 := hidE hB
      have hcb : ∀ (j : Nat) (w' : World), Below wr.heap.size wr w' → w'.cell? ⟨b, j, none⟩ = wr.cell? ⟨b, j, none⟩ := fun j w' h => h.cell (p := ⟨b, j, none⟩) (Nat.lt_of_lt_of_le hb hB.size)
      have hBw := hB.size
      clear hO hN hB HDa
      generalize hnn : ns.length = n at *
      have HNN := hidE hnn
      clear hnn
      go_upto_region 8 with (go_at_call 7; refine H2.out.mono ?_; rintro r w5 ⟨rfl, hb5⟩)
      rw [← hcb _ w5 hb5] at c0 c1 c2 c3
      have hO5 := HO1.out.kept (grownBy_none (row := none) hb5) (Or.inr (by simp [Value.ownBlock]))
      have hN5 := HN1.out.thruB hb5
      have HB5 := hidE (HB1.out.thru hb5 hBw)
      clear n0 hcb H2 HO1 HN1 HB1 hb5 HO HNM HBM
      have n0 := hN5.is 0 rfl
      have hw5 := hN5.lt
      have HO5 := hidE hO5
      have HN5 := hidE hN5
      clear hO5 hN5
      by_cases he : chkN ⟨site, number, needs, deeds⟩ = 0
      case neg =>
        have HE : Hid (chkRel ns = chkN ⟨site, number, needs, deeds⟩) := by
          show _ = _
          rw [HF.out, ← HR.out, HStep.out, if_pos he]
        generalize chkN ⟨site, number, needs, deeds⟩ = er at *
        have he' : (er != 0) = true := by simpa using he
        clear he c0 c1 c2 c3 n0
        go_wp2_with fail
        go_ret
        exact ⟨by rw [HE.out]; rfl, HB5.out⟩
      have hst := chkN_site he
      simp only at hst
      rw [if_neg (by simpa using he)] at HStep
      rw [he]
      clear he
      obtain ⟨m, rfl⟩ : ∃ m : Nat, site = (m : Int) := ⟨site.toNat, by omega⟩
      have hm : m < 5 := by omega
      have hmI : (m : Int) < 5 := by omega
      have z0 := (HO5.out.cellAt m (by omega)).trans (cnR_at (ns.take k) m hm)
      have zf := HO5.out.frozenAt m
      have hst' := HO5.out.stored m (.int .i64 ((cntS (m : Int) (ns.take k) : Int) + 1))
      rw [cnR_snoc (ns.take k) ⟨(m : Int), number, needs, deeds⟩ m hm rfl, ← HTk.out] at hst'
      have hcl := cntS_le (m : Int) (ns.take k)
      rw [List.length_take] at hcl
      have hct : (cntS (m : Int) (ns.take (k + 1)) : Int) = (cntS (m : Int) (ns.take k) : Int) + 1 := by
        rw [HTk.out, cntS_snoc]
        simp
      have hcq : (cntS (m : Int) (ns.take k) : Int) ≤ 300 := by omega
      have hcq0 : 0 ≤ (cntS (m : Int) (ns.take k) : Int) := by omega
      have hz6 := (hst'.1.cellAt m (by omega)).trans (cnR_at (ns.take (k + 1)) m hm)
      rw [hct] at hz6
      have HST := hidE hst'
      clear hct hcl hst' hst
      generalize (cntS (m : Int) (ns.take k) : Int) = ct at *
      go_upto_region 11 with fail
      have hB6 : Below w.heap.size w (w5.setCell ⟨M, m, none⟩ (.int .i64 (ct + 1))) := HB5.out.setCell hBs _
      have hB56 : Below w.heap.size w5 (w5.setCell ⟨M, m, none⟩ (.int .i64 (ct + 1))) := (Below.refl w.heap.size w5).setCell hBs _
      have d0 := (hB56.cell (p := ⟨b, o + k * 4, none⟩) hb).trans c0
      have d1 := (hB56.cell (p := ⟨b, o + k * 4 + 1, none⟩) hb).trans c1
      have hN6 := HN5.out.grown HST.out.2 (by simp; have := HZ.out; omega)
      clear c0 c1 c2 c3 n0 z0 zf hB56 HO5 HN5 HB5 hw5
      generalize w5.setCell ⟨M, m, none⟩ (.int .i64 (ct + 1)) = W6 at *
      have e0 := cell_regrown d0
      have e1 := cell_regrown d1
      have en := cell_regrown (hN6.is 0 rfl)
      have e6 := cell_regrown hz6
      have HB6 := hidE hB6
      have HN6 := hidE hN6
      clear d0 d1 hz6 hB6 hN6
      by_cases hnum : number = ct + 1
      · subst hnum
        rw [if_neg (by simp)] at HStep
        have hbn : (ct + 1 != ct + 1) = false := by simp
        refine wp_region_quiet_below (by kernel_rfl) (by kernel_rfl) ?_
        repeat (first | go_big_quiet_step (fail) | quiet_step (fail))
        refine wpQuiet_nil ?_
        intro _ hw'
        obtain ⟨⟨dq, osq⟩, hw''⟩ := hw'
        subst hw''
        go_wp2_with fail
        go_roundw
        case rel => exact ⟨k + 1, hlt, by go_num, HStep.out.symm.trans HR.out, HST.out.1.kept (grownBy_none (row := none) (below_regrown _ _ _)) (Or.inr (by simp [Value.ownBlock])), HN6.out.thruB (below_regrown _ _ _), HB6.out.thru (below_regrown _ _ _) HB6.out.size⟩
        case measure => simp [intOf]; omega
      · rw [if_pos hnum] at HStep
        have hbn : (number != ct + 1) = true := by simpa using hnum
        have HE : Hid (chkRel ns = 4) := by
          show _ = _
          rw [HF.out, ← HR.out, HStep.out]
        clear hnum
        refine wp_region_quiet_below (by kernel_rfl) (by kernel_rfl) ?_
        repeat (first | go_big_quiet_step (fail) | quiet_step (fail))
        refine wpQuiet_nil ?_
        intro _ hw'
        obtain ⟨⟨dq, osq⟩, hw''⟩ := hw'
        subst hw''
        go_wp2_with fail
        go_ret
        exact ⟨by rw [HE.out]; rfl, HB6.out.thru (below_regrown _ _ _) HB6.out.size⟩
    · have hki : k = ns.length := by omega
      subst hki
      have hi1 : ¬ ((ns.length : Int) < (ns.length : Int)) := by omega
      have HE : Hid (chkRel ns = 0) := by
        show _ = _
        rw [HF.out, ← hR, chkFromR_end]
      have HB := hidE hB
      clear hR hB hge hk hO hN
      go_wp2_with fail
      go_ret
      exact ⟨by rw [HE.out]; rfl, HB.out⟩

end Go.Proofs.Ytnhjebdlcbhkcaf
