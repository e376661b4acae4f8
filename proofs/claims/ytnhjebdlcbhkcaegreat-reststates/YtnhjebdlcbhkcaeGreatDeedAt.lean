/- Contract of doer.take. -/
import Derived.Test.YtnhjebdlcbhkcaeGreatDoerC
import Derived.Test.YtnhjebdlcbhkcaeGreatStateCk
import Derived.Test.YtnhjebdlcbhkcaeGreatDoD
import Derived.Test.YtnhjebdlcbhkcaeGreatSearch
import Derived.Deep.RegionLaw
namespace Go.Proofs.YtnhjebdlcbhkcaeGreat
open Go.RowKit

theorem alloc_top (w : World) (o : Obj) : (w.alloc o).heap[w.heap.size]? = some o := by
  show (w.heap.push o)[w.heap.size]? = some o
  simp

set_option maxRecDepth 100000 in
set_option maxHeartbeats 8000000 in
theorem doerTake_ok (base D many : Nat) (vA vG : Value) (l : List At) (g : List Mk) (pb po cap : Nat) (mp : List (Int × Int)) (mc : Int) (w : World) (hd : DoerAt w base D vA vG l g) (hl : chkL l = 0) (hu : Up g) (hg : g.length ≤ 600) (hs : StepsAt w (some ⟨pb, po, none⟩) mp) (hc : chk mp mc = 0) (hm : many ≤ 60) (hn : ∀ i, i < many → chk (bump mp i) (mc + i) = 0) :
    Calls Tryz.prog 162 #[.pointer (some ⟨D, 0, none⟩), .agg #[.slice (some ⟨pb, po, none⟩) mp.length cap, .int .i64 mc], .int .i64 many] w fun e w' => Below base w w' ∧ ((600 < ((nextsL mp mc many).foldl insG g).length ∧ e = .returned (.int .i64 2)) ∨ (((nextsL mp mc many).foldl insG g).length ≤ 600 ∧ e = .returned (.int .i64 0) ∧ ∃ vA' vG', DoerAt w' base D vA' vG' (takeL l (nextsL mp mc many)) ((nextsL mp mc many).foldl insG g))) := by
  have HU := hidE hu
  have HN := hidE hn
  have HC := hidE hc
  clear hu hn hc
  have hB := (Below.refl w.heap.size w).alloc (Nat.le_refl _) (Obj.cells #[.slice (some ⟨pb, po, none⟩) mp.length cap, .int .i64 mc] 42)
  have f0 : (w.alloc (Obj.cells #[.slice (some ⟨pb, po, none⟩) mp.length cap, .int .i64 mc] 42)).cell? ⟨w.heap.size, 0, none⟩ = some (.slice (some ⟨pb, po, none⟩) mp.length cap) := by simp
  have f1 : (w.alloc (Obj.cells #[.slice (some ⟨pb, po, none⟩) mp.length cap, .int .i64 mc] 42)).cell? ⟨w.heap.size, 1, none⟩ = some (.int .i64 mc) := by simp
  have z : w.heap.size < (w.alloc (Obj.cells #[.slice (some ⟨pb, po, none⟩) mp.length cap, .int .i64 mc] 42)).heap.size := by simp
  have hbw : base ≤ w.heap.size := Nat.le_trans hd.le (Nat.le_of_lt hd.lt)
  replace hd := hd.below hB
  replace hs := hs.below hB (Nat.le_refl _)
  go_enter Tryz.func162, Tryz.ntmps162
  go_upto_region 1 with fail
  generalize w.alloc (Obj.cells #[.slice (some ⟨pb, po, none⟩) mp.length cap, .int .i64 mc] 42) = W at hB f0 f1 z hd hs ⊢
  have hBb := hB.mono hbw
  generalize w.heap.size = Z at f0 f1 z hbw ⊢
  go_wp2_with fail
  obtain ⟨i0, hi0, hz0, hz1, hz2⟩ := Tryz.info42
  have hlm0 := (chk_ok HC.out).1
  have hlm1 := (chk_ok HC.out).2.1
  have hmx : 1000 ≤ maxLen := by unfold maxLen; omega
  go_loopw [7, 16] (fun v7 i wr => ∃ k : Nat, k ≤ many ∧ i = .int .i64 k ∧ MkRow wr W.heap.size v7 (nextsL mp mc k) ∧ Below W.heap.size W wr) (fun _ i _ => many - (intOf i).toNat)
  case atStart => exact ⟨0, Nat.zero_le _, rfl, MkRow.nil _ _, Below.refl _ _⟩
  case round =>
    obtain ⟨k, hk, rfl, hrow, hb⟩ := hrel
    by_cases hlt : k < many
    · have hi1 : (k : Int) < many := by omega
      have g0 := (hb.cell (p := ⟨Z, 0, none⟩) z).trans f0
      have g1 := (hb.cell (p := ⟨Z, 1, none⟩) z).trans f1
      have HNX := hidE (next_own pb po cap mp mc k wr (hs.below hb (Nat.le_refl _)) HC.out (by omega) (by omega) (HN.out k hlt))
      have HSC := hidE (nextsL_succ mp mc k)
      have hkl := nextsL_len mp mc k
      have HKL := hidE hkl
      clear hkl
      go_wp2_with fail
      refine HNX.out.mono ?_
      rintro e w2 ⟨gg, cap2, rfl, hownM, hb2⟩
      clear HNX g0 g1
      go_upto_region 6 with fail
      have hbA := (Below.refl w2.heap.size w2).alloc (Nat.le_refl _) (Obj.cells #[.slice (some ⟨gg, 0, none⟩) mp.length cap2, .int .i64 (mc + k)] 42)
      have y0 : (w2.alloc (Obj.cells #[.slice (some ⟨gg, 0, none⟩) mp.length cap2, .int .i64 (mc + k)] 42)).cell? ⟨w2.heap.size, 0, none⟩ = some (.slice (some ⟨gg, 0, none⟩) mp.length cap2) := by simp
      have y1 : (w2.alloc (Obj.cells #[.slice (some ⟨gg, 0, none⟩) mp.length cap2, .int .i64 (mc + k)] 42)).cell? ⟨w2.heap.size, 1, none⟩ = some (.int .i64 (mc + k)) := by simp
      have hbN : Below wr.heap.size wr (w2.alloc (Obj.cells #[.slice (some ⟨gg, 0, none⟩) mp.length cap2, .int .i64 (mc + k)] 42)) := hb2.thru hbA hb2.size
      have hownA := owns_base (owns_below hownM hbA) hb.size
      generalize w2.alloc (Obj.cells #[.slice (some ⟨gg, 0, none⟩) mp.length cap2, .int .i64 (mc + k)] 42) = wA at hbA y0 y1 hbN hownA ⊢
      generalize w2.heap.size = Y at y0 y1 ⊢
      clear hbA hownM hb2
      have hbX := (Below.refl wA.heap.size wA).alloc (Nat.le_refl _) (Obj.cells #[.slice (some ⟨gg, 0, none⟩) mp.length cap2, .int .i64 (mc + k)] 42)
      have hrowX := (hrow.below hbN).below hbX
      have hownX := owns_below hownA hbX
      have hBX : Below W.heap.size W (wA.alloc (Obj.cells #[.slice (some ⟨gg, 0, none⟩) mp.length cap2, .int .i64 (mc + k)] 42)) := (hb.thru hbN hb.size).thru hbX (Nat.le_trans hb.size hbN.size)
      have hpk : PickK (wA.alloc (Obj.cells #[.slice (some ⟨gg, 0, none⟩) mp.length cap2, .int .i64 (mc + k)] 42)) W.heap.size ⟨some ⟨gg, 0, none⟩, (bump mp k).length, cap2, mc + k⟩ (bump mp k, mc + k) := by
        refine ⟨gg, cap2, rfl, ?_, by rw [bump_len]; omega⟩
        rw [bump_len]; exact hownX
      have hnew : ∀ j u, (flatK [⟨some ⟨gg, 0, none⟩, mp.length, cap2, mc + k⟩])[j]? = some u → (wA.alloc (Obj.cells #[.slice (some ⟨gg, 0, none⟩) mp.length cap2, .int .i64 (mc + k)] 42)).cell? ((⟨wA.heap.size, 0, none⟩ : Addr).add j) = some u := by
        intro j u hj
        rw [Addr.add_lit, Nat.zero_add]
        exact rawK_new wA ⟨some ⟨gg, 0, none⟩, mp.length, cap2, mc + k⟩ j u (by simpa [flatK] using hj)
      have hbase : W.heap.size ≤ (wA.alloc (Obj.cells #[.slice (some ⟨gg, 0, none⟩) mp.length cap2, .int .i64 (mc + k)] 42)).heap.size := hBX.size
      obtain ⟨rs, hrl, hrown, hrr⟩ := hrowX
      rw [HKL.out] at hrown
      have HRR := hidE hrr
      have HNEW := hidE hnew
      have HRL := hidE hrl
      clear hrr hnew hrl hrow hownA hbN
      go_wp2_with (at_builtin; refine wpList_append_own _ rfl _ _ 23 rfl W.heap.size 42 i0 (.agg #[.slice none 0 0, .int .i64 0]) 2 32 Tryz.underlying23 hi0 hz0 hz1 hz2 rfl (by decide) _ _ _ rfl hrown ⟨wA.heap.size, 0, none⟩ 1 1 (flatK [⟨some ⟨gg, 0, none⟩, mp.length, cap2, mc + k⟩]) rfl rfl HNEW.out (flatK_one _) ?qa4 ?qa5 hbase ?_)
      case qa4 => omega
      case qa5 => omega
      intro v' w5 hown5 hgrow _
      have hrow5 : MkRow w5 W.heap.size v' (nextsL mp mc (k + 1)) := by
        rw [HSC.out]
        refine MkRow.snoc HRL.out (by rw [HKL.out]; exact hrown) HRR.out hpk hgrow ?_
        rw [HKL.out, bump_len]
        simpa [flatK] using hown5
      have hb5 := hBX.grown hgrow hbase (fun j hj => (hrown.lt j hj).1)
      go_wp2_with fail
      go_roundw
      case rel => exact ⟨k + 1, by omega, by go_num, hrow5, hb5⟩
      case measure => simp [intOf]; omega
    · have hke : k = many := by omega
      subst hke
      have hdW := hd
      have hdr := hd.below hb
      clear hd
      obtain ⟨va, ca, hva, hat, _⟩ := hdr.atoms.owns.atoms (Below.refl _ _)
      subst hva
      obtain ⟨pn, cn, hvn, hMn, _, _⟩ := hrow.marks
      subst hvn
      have hnl := nextsL_len mp mc k
      have HTK := hidE (take_ok va pn ca cn l (nextsL mp mc k) wr hat hl (by omega) hMn)
      clear hMn hat
      have d0 := hdr.c0
      have df := hdr.free
      have hdl := hdr.lt
      have HD := hidE hdr
      have HROW := hidE hrow
      have HNL := hidE hnl
      clear hdr hrow hnl
      go_wp2_with fail
      refine HTK.out.mono ?_
      rintro e w3 ⟨p3, c3, rfl, _, hpk, hb3⟩
      have t1 := (hb3.cell (p := ⟨D, 0, none⟩) hdl).trans d0
      have t2 := fun o => (hb3.frozen (p := ⟨D, o, none⟩) hdl).trans (df o)
      clear HTK d0 df
      go_wp2_with fail
      have hbwr : base ≤ wr.heap.size := Nat.le_trans (Nat.le_trans hbw (Nat.le_of_lt z)) hb.size
      have hD4 : DoerAt (w3.setCell ⟨D, 0, none⟩ (.slice p3 (takeL l (nextsL mp mc k)).length c3)) base D (.slice p3 (takeL l (nextsL mp mc k)).length c3) vG (takeL l (nextsL mp mc k)) g := (HD.out.below hb3).set0 (hpk.mono hbwr)
      have hR4 : MkRow (w3.setCell ⟨D, 0, none⟩ (.slice p3 (takeL l (nextsL mp mc k)).length c3)) W.heap.size (.slice pn (nextsL mp mc k).length cn) (nextsL mp mc k) := (HROW.out.below hb3).setD (HD.out.below hb3).ty
      have hB4 : Below base w (w3.setCell ⟨D, 0, none⟩ (.slice p3 (takeL l (nextsL mp mc k)).length c3)) := ((hBb.thru hb (Nat.le_trans hbw (Nat.le_of_lt z))).thru hb3 hbwr).setCell HD.out.le _
      have hW4 : W.heap.size ≤ (w3.setCell ⟨D, 0, none⟩ (.slice p3 (takeL l (nextsL mp mc k)).length c3)).heap.size := by
        have h1 := hb.size
        have h2 := hb3.size
        simp [World.setCell]
        omega
      have hdis : (Value.slice pn (nextsL mp mc k).length cn).ownBlock = none ∨ vG.ownBlock ≠ (Value.slice pn (nextsL mp mc k).length cn).ownBlock := by
        obtain ⟨rs, _, hown, _⟩ := HROW.out
        rcases hown.2 with ⟨e, _⟩ | ⟨g1, c1, cur1, e, hge, _⟩
        · rw [e]; exact Or.inl rfl
        · right
          rw [e]
          obtain ⟨rs2, _, hown2, _⟩ := hdW.gone
          rcases hown2.2 with ⟨e2, _⟩ | ⟨g2, c2, cur2, e2, _, hg2, _⟩
          · rw [e2]; simp [Value.ownBlock]
          · rw [e2]
            have := (Array.getElem?_eq_some_iff.1 hg2).1
            simp [Value.ownBlock]
            omega
      have HNM := hidE (show ∀ j (h : j < (nextsL mp mc k).length), (nextsL mp mc k)[j].1.length ≤ 1000 ∧ True from fun j h => ⟨by simp [nextsL, bump_len]; omega, trivial⟩)
      have HSG := hidE (show ((nextsL mp mc k).take (nextsL mp mc k).length).foldl insG g = (nextsL mp mc k).foldl insG g from by rw [List.take_length])
      have hmax : 1000 ≤ maxLen := hmx
      have hnk : (nextsL mp mc k).length ≤ 60 := by rw [HNL.out]; exact hm
      generalize w3.setCell ⟨D, 0, none⟩ (.slice p3 (takeL l (nextsL mp mc k)).length c3) = w4 at hD4 hR4 hB4 hW4 ⊢
      generalize (Value.slice p3 (takeL l (nextsL mp mc k)).length c3) = vT at hD4 ⊢
      generalize hns : nextsL mp mc k = ns at hD4 hR4 hdis HNM HSG hnk ⊢
      have HNS := hidE hns
      clear hns hpk HROW HNL HD t1 t2 hb3 hdl hbwr hb hs f0 f1 hB hdW HN HC hlt hk hBb
      have hbW : base ≤ W.heap.size := by omega
      go_loopw [46] (fun i wq => ∃ j : Nat, j ≤ ns.length ∧ i = .int .i64 j ∧ ∃ vH, DoerAt wq base D vT vH (takeL l ns) ((ns.take j).foldl insG g) ∧ MkRow wq W.heap.size (.slice pn ns.length cn) ns ∧ ((Value.slice pn ns.length cn).ownBlock = none ∨ vH.ownBlock ≠ (Value.slice pn ns.length cn).ownBlock) ∧ Below base w wq ∧ W.heap.size ≤ wq.heap.size) (fun i _ => ns.length - (intOf i).toNat)
      case atStart => exact ⟨0, Nat.zero_le _, rfl, vG, hD4, hR4, hdis, hB4, hW4⟩
      case round =>
        clear hD4 hR4 hdis hB4 hW4
        obtain ⟨j, hj, rfl, vH, hD, hR, hdis, hBq, hWq⟩ := hrel
        have HUP := hidE (insAll_up HU.out (ns.take j))
        have hlen := insAll_len (ns.take j) g
        have hlen2 : ((ns.take j).foldl insG g).length ≤ 660 := by simp at hlen; omega
        clear hlen
        by_cases hlt : j < ns.length
        · obtain ⟨rs, hrl, hown, hrr⟩ := hR
          have hpk := hrr j hlt (by omega)
          have HSTEP := hidE (insAll_take (g := g) hlt)
          obtain ⟨gp, cq, hre, hpo, hpl⟩ := hpk
          obtain ⟨gn, cn', hvn⟩ := owns_form hown (by omega)
          obtain ⟨rfl, rfl⟩ : pn = some ⟨gn, 0, none⟩ ∧ cn = cn' := by simpa using hvn
          have cc := flatK_get rs j (by omega)
          rw [hre] at cc
          have x0 := (hown.cellAt (j * 2) (by omega)).trans cc.1
          have x1 := (hown.cellAt (j * 2 + 1) (by omega)).trans cc.2
          have HR : Hid (MkRow wr W.heap.size (.slice (some ⟨gn, 0, none⟩) ns.length cn) ns) := ⟨rs, hrl, hown, hrr⟩
          have hgn := hown.lt gn rfl
          clear hrr hown hvn cc hre hrl
          generalize ns[j] = x at HSTEP hpo hpl x0 x1
          obtain ⟨m1, d1⟩ := x
          simp only at HSTEP hpo hpl x0 x1
          have HSJ : Hid (∀ ms, ns.take j = ms → True) := fun _ _ => trivial
          generalize hGG : (ns.take j).foldl insG g = G at hD HUP hlen2 HSTEP
          clear hGG HSJ
          have hi1 : (j : Int) < ns.length := by omega
          go_upto_region 12 with fail
          have hbA : Below wr.heap.size wr (wr.alloc (Obj.cells #[.slice (some ⟨gp, 0, none⟩) m1.length cq, .int .i64 d1] 42)) := (Below.refl _ _).alloc (Nat.le_refl _) _
          have y0 : (wr.alloc (Obj.cells #[.slice (some ⟨gp, 0, none⟩) m1.length cq, .int .i64 d1] 42)).cell? ⟨wr.heap.size, 0, none⟩ = some (.slice (some ⟨gp, 0, none⟩) m1.length cq) := by simp
          have y1 : (wr.alloc (Obj.cells #[.slice (some ⟨gp, 0, none⟩) m1.length cq, .int .i64 d1] 42)).cell? ⟨wr.heap.size, 1, none⟩ = some (.int .i64 d1) := by simp
          have zy : wr.heap.size < (wr.alloc (Obj.cells #[.slice (some ⟨gp, 0, none⟩) m1.length cq, .int .i64 d1] 42)).heap.size := by simp
          have hbWr : base ≤ wr.heap.size := Nat.le_trans hbW hWq
          replace hD := hD.below hbA
          replace hpo := owns_below hpo hbA
          have hBA := hBq.thru hbA hbWr
          have hWA := Nat.le_trans hWq hbA.size
          have HRA := hidE (HR.out.below hbA)
          have hgn2 : gn < (wr.alloc (Obj.cells #[.slice (some ⟨gp, 0, none⟩) m1.length cq, .int .i64 d1] 42)).heap.size := Nat.lt_of_lt_of_le hgn.2 hbA.size
          clear HR
          generalize wr.alloc (Obj.cells #[.slice (some ⟨gp, 0, none⟩) m1.length cq, .int .i64 d1] 42) = wA at hbA y0 y1 zy hD hpo hBA hWA HRA hgn2 ⊢
          generalize wr.heap.size = Y at y0 y1 zy hbWr ⊢
          clear hbA x0 x1 hBq hWq
          obtain ⟨pg, cg, hvH, hMg, hcg1, hcg2⟩ := hD.gone.marks
          subst hvH
          have HFD := hidE (doerFind_any D pg (some ⟨gp, 0, none⟩) cg cq G m1 d1 wA (by omega) hpl hD.c1 hD.lt hMg (stepsAt_owns hpo rfl) HUP.out)
          have HD := hidE hD
          have d1c := hD.c1
          have dfr := hD.free
          have dlt := hD.lt
          clear hMg hD
          cases hh : hasGone G m1 d1
          · rw [hh] at HFD
            have HST2 : Hid ((ns.take (j + 1)).foldl insG g = G.take (lowM G m1 d1) ++ (m1, d1) :: G.drop (lowM G m1 d1)) := by show _ = _; rw [HSTEP.out]; unfold insG; rw [if_neg (by simp [hh])]
            have hlow := lowM_le G m1 d1
            generalize lowM G m1 d1 = lo at HFD HST2 hlow
            clear hh HSTEP
            go_upto_region 14 with (go_at_call 210; refine HFD.out.mono ?_; rintro e w5 ⟨rfl, hb5⟩)
            have HINS := hidE (fun (W' : World) (vb : Nat) (hb : Below w5.heap.size w5 W') (hvb : w5.heap.size ≤ vb) (hv : W'.heap[vb]? = some (.cells #[.slice (some ⟨gp, 0, none⟩) m1.length cq, .int .i64 d1] 42 (0, 0))) => insDoer (w := w) (u := .slice (some ⟨gn, 0, none⟩) ns.length cn) (HD.out.below hb5) (HRA.out.below hb5) hdis (hBA.thru hb5 (by omega)) hbW (Nat.le_trans hWA hb5.size) (owns_below hpo hb5) hpl hlow (by omega) hb hvb hv)
            have e1 := (hb5.cell (p := ⟨D, 1, none⟩) dlt).trans d1c
            have ef := fun o => (hb5.frozen (p := ⟨D, o, none⟩) dlt).trans (dfr o)
            have e2 := (hb5.cell (p := ⟨Y, 0, none⟩) zy).trans y0
            have e3 := (hb5.cell (p := ⟨Y, 1, none⟩) zy).trans y1
            have dl5 := Nat.lt_of_lt_of_le dlt hb5.size
            have zy5 := Nat.lt_of_lt_of_le zy hb5.size
            have hBd : Below w5.heap.size w5 w5.drew := (Below.refl _ _).drew
            clear HFD HD HRA hdis hBA hWA hpo d1c dfr y0 y1 dlt zy hb5 hgn hgn2
            go_region_with ((go_at_call 211; refine (HINS.out _ w5.heap.size ?_ ?_ ?_).mono ?_; (first | exact ((Below.refl _ _).alloc (Nat.le_refl _) _).drew | exact (Below.refl _ _).alloc (Nat.le_refl _) _ | exact hBd.alloc (Nat.le_refl _) _); exact Nat.le_refl _; exact alloc_top w5 _; rintro e w6 ⟨p6, n6, c6, rfl, t1, t2, hrs⟩; have HRS := hidE hrs; clear hrs))
            all_goals
              go_wp2_with fail
              go_roundw
              case rel => exact ⟨j + 1, by omega, by go_num, _, by rw [HST2.out]; exact HRS.out.1, HRS.out.2⟩
              case measure => simp [intOf]; omega
          · rw [hh] at HFD
            have HST2 : Hid ((ns.take (j + 1)).foldl insG g = G) := by show _ = _; rw [HSTEP.out]; unfold insG; rw [if_pos hh]
            clear hh HSTEP
            go_wp2_with (go_at_call 210; refine HFD.out.mono ?_; rintro e w5 ⟨rfl, hb5⟩)
            go_roundw
            case rel => exact ⟨j + 1, by omega, by go_num, _, by rw [HST2.out]; exact HD.out.below hb5, HRA.out.below hb5, hdis, hBA.thru hb5 (by omega), Nat.le_trans hWA hb5.size⟩
            case measure => simp [intOf]; omega
        · have hje : j = ns.length := by omega
          subst hje
          rw [HSG.out] at hD
          obtain ⟨pg, cg, hvH, hMg, hcg1, hcg2⟩ := hD.gone.marks
          subst hvH
          have d1c := hD.c1
          have HD := hidE hD
          have hl3 : (ns.foldl insG g).length ≤ 660 := by rw [HSG.out] at hlen2; exact hlen2
          clear hD hMg HUP hlen2
          have hi5 : ¬ ((ns.length : Int) < ns.length) := by omega
          by_cases h6 : 600 < (ns.foldl insG g).length
          · have hd6 : ((ns.foldl insG g).length : Int) > 600 := by omega
            go_wp2_with fail
            go_ret
            exact ⟨hBq, Or.inl ⟨by rw [HNS.out]; exact h6, rfl⟩⟩
          · have hd6 : ¬ ((ns.foldl insG g).length : Int) > 600 := by omega
            go_wp2_with fail
            go_ret
            exact ⟨hBq, Or.inr ⟨by rw [HNS.out]; omega, rfl, _, _, by rw [HNS.out]; exact HD.out⟩⟩
end Go.Proofs.YtnhjebdlcbhkcaeGreat

namespace Go.Proofs.YtnhjebdlcbhkcaeGreat
open Go.RowKit

set_option maxRecDepth 100000 in
set_option maxHeartbeats 4000000 in
theorem doerDo_ok (base D : Nat) (vA vG : Value) (l : List At) (g : List Mk) (d : Dd) (p q : Option Addr) (cp cq : Nat) (w : World) (hd : DoerAt w base D vA vG l g) (hok : OkS l g) (h : DdAt w d p q) (hc : chkD d = 0) :
    Calls Tryz.prog 68 #[.pointer (some ⟨D, 0, none⟩), ddV d p q cp cq] w fun e w' => Below base w w' ∧ ((doD l g d = none ∧ e = .returned (.int .i64 2)) ∨ ∃ l' g', doD l g d = some (l', g') ∧ e = .returned (.int .i64 0) ∧ ∃ vA' vG', DoerAt w' base D vA' vG' l' g') := by
  have hbw : base ≤ w.heap.size := Nat.le_trans hd.le (Nat.le_of_lt hd.lt)
  have hB := (Below.refl w.heap.size w).alloc (Nat.le_refl _) (Obj.cells #[.int .i64 d.kind, .slice p d.rp.length cp, .int .i64 d.rc, .string d.rt, .slice q d.mp.length cq, .int .i64 d.mc, .int .i64 d.many] 64)
  have hBb := hB.mono hbw
  replace hd := hd.below hB
  replace h := h.below hB
  by_cases hk : d.kind = 1
  · have HP := hidE (doerPut_ok base D vA vG l g p cp d.rp d.rc d.rt _ hd (okL_chk hok.atoms) hok.up (by have := hok.len; omega) h.run (okPut_of hk hc))
    have HE : Hid (∀ n, (if 300 < (putL l (putsD g d)).length then none else some (putL l (putsD g d), g)) = n → doD l g d = n) := fun n e => by unfold doD; rw [if_pos hk]; exact e
    clear hd hok h hc
    unfold ddV
    unfold putsD at HE
    obtain ⟨kind, rp, rc, rt, mp, mc, many⟩ := d
    simp only at hk HP HE hB hBb ⊢
    subst hk
    go_enter Tryz.func68, Tryz.ntmps68
    go_wp2_with fail
    refine HP.out.mono ?_
    rintro e w1 ⟨hb, hcs⟩
    clear HP
    have hB1 := hBb.trans hb
    rcases hcs with ⟨hn, rfl⟩ | ⟨hn, rfl, vA', hD⟩
    · have HN := hidE hn
      clear hn
      go_wp2_with fail
      go_ret
      exact ⟨hB1, Or.inl ⟨HE.out _ (if_pos HN.out), rfl⟩⟩
    · have HN := hidE hn
      clear hn
      go_wp2_with fail
      go_ret
      exact ⟨hB1, Or.inr ⟨_, _, HE.out _ (if_neg (Nat.not_lt.2 HN.out)), rfl, vA', vG, hD⟩⟩
  · have hk2 : d.kind = 2 := by rcases kind_of hc with h | h <;> omega
    obtain ⟨h0, h1, h60, hn⟩ := okTake_of hk2 hc
    have hpos := (chk_ok h0).1
    have hms := h.mark
    rcases h.mark with hs | ⟨pb, po, rfl, _⟩
    · rw [hs] at hpos; simp at hpos
    have HP := hidE (doerTake_ok base D d.many.toNat vA vG l g pb po cq d.mp d.mc _ hd (okL_chk hok.atoms) hok.up hok.len hms h0 (by omega) hn)
    have HE : Hid (∀ n, (if 600 < ((nextsL d.mp d.mc d.many.toNat).foldl insG g).length then none else some (takeL l (nextsL d.mp d.mc d.many.toNat), (nextsL d.mp d.mc d.many.toNat).foldl insG g)) = n → doD l g d = n) := fun n e => by unfold doD takesD; rw [if_neg hk]; exact e
    have hmn : ((d.many.toNat : Nat) : Int) = d.many := by omega
    clear hd hok h hc hms h0 hpos hn hk
    rw [hmn] at HP
    unfold ddV
    obtain ⟨kind, rp, rc, rt, mp, mc, many⟩ := d
    simp only at hk2 HP HE hB hBb hmn h1 h60 ⊢
    clear hmn
    subst hk2
    go_enter Tryz.func68, Tryz.ntmps68
    go_wp2_with fail
    refine HP.out.mono ?_
    rintro e w1 ⟨hb, hcs⟩
    clear HP
    have hB1 := hBb.trans hb
    rcases hcs with ⟨hn, rfl⟩ | ⟨hn, rfl, vA', vG', hD⟩
    · have HN := hidE hn
      clear hn
      go_wp2_with fail
      go_ret
      exact ⟨hB1, Or.inl ⟨HE.out _ (if_pos HN.out), rfl⟩⟩
    · have HN := hidE hn
      clear hn
      go_wp2_with fail
      go_ret
      exact ⟨hB1, Or.inr ⟨_, _, HE.out _ (if_neg (Nat.not_lt.2 HN.out)), rfl, vA', vG', hD⟩⟩
end Go.Proofs.YtnhjebdlcbhkcaeGreat

namespace Go.Proofs.YtnhjebdlcbhkcaeGreat
open Go.RowKit

theorem appDoer {base D cg : Nat} {vA v' : Value} {pg : Option Addr} {l : List At} {g : List Mk} {x : Mk} {r : RawK} {rs : List RawK} {w0 w w' : World}
    (hd : DoerAt w base D vA (.slice pg g.length cg) l g) (hrl : rs.length = g.length) (hown : w.ownsRow base 42 2 (.slice pg g.length cg) g.length (flatK rs)) (hrr : ∀ i (h : i < g.length) (h' : i < rs.length), PickK w base rs[i] g[i]) (hx : PickK w base r x) (hB : Below base w0 w) (hbw : base ≤ w.heap.size)
    (hgrow : w.grownBy w' (Value.slice pg g.length cg).ownBlock) (hown' : w'.ownsRow base 42 2 v' (g.length + 1) (flatK rs ++ r.cells)) :
    ∃ p6 n6 c6, v' = .slice p6 n6 c6 ∧ w'.cell? ⟨D, 1, none⟩ = some (.slice pg g.length cg) ∧ (∀ o, w'.frozen? ⟨D, o, none⟩ = false) ∧ DoerAt (w'.setCell ⟨D, 1, none⟩ v') base D vA v' l (g ++ [x]) ∧ Below base w0 (w'.setCell ⟨D, 1, none⟩ v') := by
  have hrow := MkRow.snoc hrl hown hrr hx hgrow hown'
  have hap := hd.apart hown
  have hblkD := hgrow.block D hd.lt hap
  obtain ⟨p6, c6, rfl, _⟩ := hrow.marks
  refine ⟨p6, _, c6, rfl, (grown_cell hgrow hd.lt hap 1).trans hd.c1, fun o => ?_, hd.grow1 hown hgrow hrow, (hB.grown hgrow hbw (fun j hj => (hown.lt j hj).1)).setCell hd.le _⟩
  have e4 := hd.free o
  unfold World.frozen? at e4 ⊢
  rw [hblkD]; exact e4

set_option maxRecDepth 100000 in
set_option maxHeartbeats 8000000 in
theorem doerOf_ok (a b : Option Addr) (cap cap' : Nat) (l : List At) (g : List Mk) (w : World) (hok : OkS l g) (h : AtomsAt w a l) (h' : MarksAt w b g) :
    Calls Tryz.prog 67 #[.agg #[.slice a l.length cap, .slice b g.length cap']] w fun e w' => ∃ D vA vG, e = .returned (.pointer (some ⟨D, 0, none⟩)) ∧ DoerAt w' w.heap.size D vA vG l g ∧ Below w.heap.size w w' := by
  have hB := ((Below.refl w.heap.size w).alloc (Nat.le_refl _) (Obj.cells #[.slice a l.length cap, .slice b g.length cap'] 25)).alloc (by simp) (Obj.cells #[.slice none 0 0, .slice none 0 0] 112)
  have q1 : ((w.alloc (Obj.cells #[.slice a l.length cap, .slice b g.length cap'] 25)).alloc (Obj.cells #[.slice none 0 0, .slice none 0 0] 112)).cell? ⟨w.heap.size, 1, none⟩ = some (.slice b g.length cap') := by simp
  have q0 : ((w.alloc (Obj.cells #[.slice a l.length cap, .slice b g.length cap'] 25)).alloc (Obj.cells #[.slice none 0 0, .slice none 0 0] 112)).cell? ⟨w.heap.size, 0, none⟩ = some (.slice a l.length cap) := by simp
  have z : w.heap.size < ((w.alloc (Obj.cells #[.slice a l.length cap, .slice b g.length cap'] 25)).alloc (Obj.cells #[.slice none 0 0, .slice none 0 0] 112)).heap.size := by simp; omega
  have hd : DoerAt ((w.alloc (Obj.cells #[.slice a l.length cap, .slice b g.length cap'] 25)).alloc (Obj.cells #[.slice none 0 0, .slice none 0 0] 112)) w.heap.size (w.heap.size + 1) (.slice none 0 0) (.slice none 0 0) [] [] := by
    refine ⟨⟨#[.slice none 0 0, .slice none 0 0], ?_⟩, by go_simp, by go_simp, fun o => by go_simp, by simp, by omega, ⟨[], rfl, World.ownsRow_nil _ _ 108 3, fun i h => by simp at h⟩, MkRow.nil _ _⟩
    have := alloc_top (w.alloc (Obj.cells #[.slice a l.length cap, .slice b g.length cap'] 25)) (Obj.cells #[.slice none 0 0, .slice none 0 0] 112)
    simpa using this
  have HOK := hidE hok
  have hl := hok.atoms.len
  have hg6 := hok.len
  clear hok
  replace h := h.below hB (Nat.le_refl _)
  obtain ⟨i0, hi0, hz0, hz1, hz2⟩ := Tryz.info42
  go_enter Tryz.func67, Tryz.ntmps67
  go_upto_region 2 with fail
  generalize (w.alloc (Obj.cells #[.slice a l.length cap, .slice b g.length cap'] 25)).alloc (Obj.cells #[.slice none 0 0, .slice none 0 0] 112) = W at hB q0 q1 z hd h ⊢
  have hZW : w.heap.size ≤ W.heap.size := Nat.le_of_lt z
  generalize hz : w.heap.size = Z at hB q0 q1 z hd hZW ⊢
  have HWZ := hidE hz
  clear hz
  have HPI := hidE (put_isP a none cap 0 l [] W h (Or.inl rfl) (okL_chk HOK.out.atoms) rfl hl)
  have d0 := hd.c0
  have d1 := hd.c1
  have df := hd.free
  have dl := hd.lt
  have HD := hidE hd
  clear hd h
  go_wp2_with fail
  refine HPI.out.mono ?_
  clear HPI
  rintro e w1 ⟨p1, c1, rfl, hpk, hb⟩
  have hnil : putL l [] = l := rfl
  rw [hnil] at hpk ⊢
  clear hnil
  replace q1 := (hb.cell (p := ⟨Z, 1, none⟩) z).trans q1
  have t0 := (hb.cell (p := ⟨Z + 1, 0, none⟩) dl).trans d0
  have tf := fun o => (hb.frozen (p := ⟨Z + 1, o, none⟩) dl).trans (df o)
  have dl1 := Nat.lt_of_lt_of_le dl hb.size
  clear d0 d1 df q0
  go_upto_region 3 with fail
  have hD1 := (HD.out.below hb).set0 (hpk.mono hZW)
  have q2 : (w1.setCell ⟨Z + 1, 0, none⟩ (.slice p1 l.length c1)).cell? ⟨Z, 1, none⟩ = some (.slice b g.length cap') := (World.cell?_setCell_other _ _ _ _ (by simp)).trans q1
  have hB1 : Below Z w (w1.setCell ⟨Z + 1, 0, none⟩ (.slice p1 l.length c1)) := (hB.thru hb hZW).setCell (by simp) _
  generalize w1.setCell ⟨Z + 1, 0, none⟩ (.slice p1 l.length c1) = w2 at hD1 q2 hB1 ⊢
  clear hpk hb q1 t0 tf dl1 HD hB hl z dl hZW
  go_wp2_with fail
  go_loopw [21] (fun i wr => ∃ k : Nat, k ≤ g.length ∧ i = .int .i64 k ∧ ∃ vG, DoerAt wr Z (Z + 1) (.slice p1 l.length c1) vG l (g.take k) ∧ Below Z w wr) (fun i _ => g.length - (intOf i).toNat)
  case atStart => exact ⟨0, Nat.zero_le _, rfl, _, hD1, hB1⟩
  case round =>
    clear hD1 hB1 q2
    obtain ⟨k, hk, rfl, vG, hD, hb⟩ := hrel
    by_cases hlt : k < g.length
    · have hchk := HOK.out.each g[k] (List.getElem_mem hlt)
      rcases h'.below hb (Nat.le_of_eq HWZ.out) with hs | ⟨ab, ao, rfl, hab, hc⟩
      · simp [hs] at hlt
      obtain ⟨p, cp, c0, c1', hst, hle⟩ := hc k hlt
      have HTK : Hid (g.take (k + 1) = g.take k ++ [(g[k].1, g[k].2)]) := List.take_succ_eq_append_getElem hlt
      have hi1 : (k : Int) < g.length := by omega
      have hpl := (chk_ok hchk).1
      have hpm := (chk_ok hchk).2.1
      clear hc hchk
      generalize g[k].1 = pk at *
      generalize g[k].2 = ck at *
      obtain ⟨pb, po, rfl⟩ : ∃ pb po, p = some ⟨pb, po, none⟩ := by
        rcases hst with e | ⟨pb, po, rfl, _⟩
        · rw [e] at hpl; simp at hpl
        · exact ⟨pb, po, rfl⟩
      go_upto_region 6 with fail
      have hbA : Below wr.heap.size wr (wr.alloc (Obj.cells #[.slice (some ⟨pb, po, none⟩) pk.length cp, .int .i64 ck] 42)) := (Below.refl _ _).alloc (Nat.le_refl _) _
      have y0 : (wr.alloc (Obj.cells #[.slice (some ⟨pb, po, none⟩) pk.length cp, .int .i64 ck] 42)).cell? ⟨wr.heap.size, 0, none⟩ = some (.slice (some ⟨pb, po, none⟩) pk.length cp) := by simp
      have y1 : (wr.alloc (Obj.cells #[.slice (some ⟨pb, po, none⟩) pk.length cp, .int .i64 ck] 42)).cell? ⟨wr.heap.size, 1, none⟩ = some (.int .i64 ck) := by simp
      have zy : wr.heap.size < (wr.alloc (Obj.cells #[.slice (some ⟨pb, po, none⟩) pk.length cp, .int .i64 ck] 42)).heap.size := by simp
      have hZr : Z ≤ wr.heap.size := Nat.le_trans hD.le (Nat.le_of_lt hD.lt)
      have hBA := hb.thru hbA hZr
      replace hD := hD.below hbA
      replace hst := hst.below hbA (Nat.le_refl _)
      generalize wr.alloc (Obj.cells #[.slice (some ⟨pb, po, none⟩) pk.length cp, .int .i64 ck] 42) = wA at hbA y0 y1 zy hBA hD hst ⊢
      have hZA := Nat.le_trans hZr hbA.size
      generalize wr.heap.size = Y at y0 y1 zy ⊢
      clear hbA hab c0 c1' hb hZr
      have HGL : Hid ((g.take k).length ≤ 600) := by show _ ≤ _; simp; omega
      have HKE : Hid (g.take k = g.take k) := rfl
      generalize g.take k = gs at hD HTK HGL
      clear HKE
      obtain ⟨pg, cg, hvG, _, _, _⟩ := hD.gone.marks
      subst hvG
      have d1c := hD.c1
      have dfr := hD.free
      have dlt := hD.lt
      have HD := hidE hD
      obtain ⟨rs, hrl, hown, hrr⟩ := hD.gone
      have hBd : Below wA.heap.size wA wA.drew := (Below.refl _ _).drew
      have HAPP := hidE (fun (w3 : World) (gg cap2 : Nat) (hb3 : Below wA.heap.size wA w3) (hS : w3.ownsRow wA.heap.size 124 2 (.slice (some ⟨gg, 0, none⟩) pk.length cap2) pk.length (flatS pk)) (hbn : Below w3.heap.size w3 (w3.alloc (Obj.cells #[.slice (some ⟨gg, 0, none⟩) pk.length cap2, .int .i64 ck] 42))) (v' : Value) (w4 : World) (hown4 : w4.ownsRow Z 42 2 v' (gs.length + 1) (flatK rs ++ (⟨some ⟨gg, 0, none⟩, pk.length, cap2, ck⟩ : RawK).cells)) (hgrow : (w3.alloc (Obj.cells #[.slice (some ⟨gg, 0, none⟩) pk.length cap2, .int .i64 ck] 42)).grownBy w4 (Value.slice pg gs.length cg).ownBlock) => appDoer (w0 := w) (x := (pk, ck)) ((HD.out.below hb3).below hbn) hrl (owns_below (owns_below hown hb3) hbn) (fun i h h' => ((hrr i h h').below hb3).below hbn) ⟨gg, cap2, rfl, owns_base (owns_below hS hbn) hZA, hle⟩ ((hBA.thru hb3 hZA).thru hbn (Nat.le_trans hZA hb3.size)) (Nat.le_trans (Nat.le_trans hZA hb3.size) hbn.size) hgrow hown4)
      have HOWN := hidE (fun (w3 : World) (o : Obj) (hb3 : Below wA.heap.size wA w3) => (owns_below hown hb3).alloc o)
      clear hD hrr hrl hown
      go_region_law (first
        | (refine step_append_own rfl (.tmp 30) (.tmp 33) 23 rfl Z 42 i0 (.agg #[.slice none 0 0, .int .i64 0]) 2 32 Tryz.underlying23 hi0 hz0 hz1 hz2 rfl (by decide) (.slice pg gs.length cg) gs.length (flatK rs) (by simp [Act.eval]) (HOWN.out w3 _ hb3') ⟨w3.heap.size, 0, none⟩ 1 1 (⟨some ⟨gg, 0, none⟩, pk.length, cap2, ck⟩ : RawK).cells (by simp [Act.eval]) rfl (by intro j u hj; rw [Addr.add_lit, Nat.zero_add]; exact rawK_new w3 (⟨some ⟨gg, 0, none⟩, pk.length, cap2, ck⟩ : RawK) j u hj) (fun u hu => flatK_one [(⟨some ⟨gg, 0, none⟩, pk.length, cap2, ck⟩ : RawK)] u (by simpa [flatK] using hu)) (by have := HGL.out; unfold maxLen; omega) (by have := HGL.out; omega) (by have := hb3'.size; simp; omega) ?_; intro v' w4 hown4 hgrow; obtain ⟨p6, n6, c6, rfl, t1, t2, hrs⟩ := HAPP.out w3 gg cap2 hb3' hownS ((Below.refl _ _).alloc (Nat.le_refl _) _) v' w4 hown4 hgrow; have HRS := hidE hrs; clear hrs)
        | (go_simp; go_at_call 76; refine (freshMark_ok pb po _ _ pk _ _ rfl hle (by omega) (hst.below hBd (Nat.le_refl _))).mono ?_; rintro e w3 ⟨gg, cap2, rfl, hownS, hb3⟩; have hb3' : Below wA.heap.size wA w3 := hBd.thru hb3 (Nat.le_refl _); have e1 := (hb3'.cell (p := ⟨Z + 1, 1, none⟩) dlt).trans d1c; have dl3 := Nat.lt_of_lt_of_le dlt hb3'.size; have e2 := fun o => (hb3'.frozen (p := ⟨Z + 1, o, none⟩) dlt).trans (dfr o)))
      all_goals
        go_wp2_with fail
        go_roundw
        case rel => exact ⟨k + 1, by omega, by go_num, _, by rw [HTK.out]; exact HRS.out.1, HRS.out.2⟩
        case measure => simp [intOf]; omega
    · have hkl : k = g.length := by omega
      subst hkl
      rw [List.take_length] at hD
      go_wp2
      go_ret
      rw [HWZ.out]
      exact ⟨_, _, _, rfl, hD, hb⟩
end Go.Proofs.YtnhjebdlcbhkcaeGreat

namespace Go.Proofs.YtnhjebdlcbhkcaeGreat
open Go.RowKit

def DeedsAt (w : World) (r : Option Addr) (ds : List Dd) : Prop :=
  ds = [] ∨ ∃ b o, r = some ⟨b, o, none⟩ ∧ b < w.heap.size ∧ ∀ i (h : i < ds.length), ∃ p cp q cq, w.cell? ⟨b, o + i * 7, none⟩ = some (.int .i64 ds[i].kind) ∧ w.cell? ⟨b, o + i * 7 + 1, none⟩ = some (.slice p ds[i].rp.length cp) ∧ w.cell? ⟨b, o + i * 7 + 2, none⟩ = some (.int .i64 ds[i].rc) ∧ w.cell? ⟨b, o + i * 7 + 3, none⟩ = some (.string ds[i].rt) ∧ w.cell? ⟨b, o + i * 7 + 4, none⟩ = some (.slice q ds[i].mp.length cq) ∧ w.cell? ⟨b, o + i * 7 + 5, none⟩ = some (.int .i64 ds[i].mc) ∧ w.cell? ⟨b, o + i * 7 + 6, none⟩ = some (.int .i64 ds[i].many) ∧ DdAt w ds[i] p q ∧ -9223372036854775808 ≤ ds[i].many ∧ ds[i].many ≤ 9223372036854775807

theorem DeedsAt.below {w w' : World} {r : Option Addr} {ds : List Dd} (h : DeedsAt w r ds) (hb : Below w.heap.size w w') : DeedsAt w' r ds := by
  rcases h with h | ⟨b, o, rfl, hlt, hc⟩
  · exact Or.inl h
  · refine Or.inr ⟨b, o, rfl, Nat.lt_of_lt_of_le hlt hb.size, fun i hi => ?_⟩
    obtain ⟨p, cp, q, cq, h0, h1, h2, h3, h4, h5, h6, h7, h8⟩ := hc i hi
    exact ⟨p, cp, q, cq, (hb.cell (p := ⟨b, o + i * 7, none⟩) hlt).trans h0, (hb.cell (p := ⟨b, o + i * 7 + 1, none⟩) hlt).trans h1, (hb.cell (p := ⟨b, o + i * 7 + 2, none⟩) hlt).trans h2, (hb.cell (p := ⟨b, o + i * 7 + 3, none⟩) hlt).trans h3, (hb.cell (p := ⟨b, o + i * 7 + 4, none⟩) hlt).trans h4, (hb.cell (p := ⟨b, o + i * 7 + 5, none⟩) hlt).trans h5, (hb.cell (p := ⟨b, o + i * 7 + 6, none⟩) hlt).trans h6, h7.below hb, h8⟩
end Go.Proofs.YtnhjebdlcbhkcaeGreat
