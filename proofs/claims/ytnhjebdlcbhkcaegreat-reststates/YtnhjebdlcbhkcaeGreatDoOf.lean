/- Contract of the reference's DoOf. -/
import Derived.Test.YtnhjebdlcbhkcaeGreatAllC
import Derived.Test.YtnhjebdlcbhkcaeGreatPutG
import Derived.Deep.RegionLaw
namespace Go.Proofs.YtnhjebdlcbhkcaeGreat
open Go.RowKit

structure RefAt (w : World) (Z : Nat) (p q : Option Addr) (c d : Nat) (l : List At) (g : List Mk) : Prop where
  box : w.heap[Z]? = some (Obj.cells #[.slice p l.length c, .slice q g.length d] 25)
  atoms : AtomsAt w p l
  gone : MarksAt w q g
  out : w.heap[Z + 1]? = some (Obj.cells #[.slice none 0 0, .slice none 0 0] 25)

theorem RefAt.below {w w' : World} {Z : Nat} {p q : Option Addr} {c d : Nat} {l : List At} {g : List Mk} (h : RefAt w Z p q c d l g) (hb : Below w.heap.size w w') : RefAt w' Z p q c d l g := by
  have h1 := (Array.getElem?_eq_some_iff.1 h.box).1
  have h2 := (Array.getElem?_eq_some_iff.1 h.out).1
  exact ⟨(hb.block Z h1).trans h.box, h.atoms.below hb (Nat.le_refl _), h.gone.below hb (Nat.le_refl _), (hb.block (Z + 1) h2).trans h.out⟩

theorem RefAt.cells {w : World} {Z : Nat} {p q : Option Addr} {c d : Nat} {l : List At} {g : List Mk} (h : RefAt w Z p q c d l g) : w.cell? ⟨Z, 0, none⟩ = some (.slice p l.length c) ∧ w.cell? ⟨Z, 1, none⟩ = some (.slice q g.length d) ∧ w.cell? ⟨Z + 1, 0, none⟩ = some (.slice none 0 0) ∧ w.cell? ⟨Z + 1, 1, none⟩ = some (.slice none 0 0) ∧ (∀ o, w.frozen? ⟨Z, o, none⟩ = false) ∧ (∀ o, w.frozen? ⟨Z + 1, o, none⟩ = false) ∧ Z < w.heap.size ∧ Z + 1 < w.heap.size := by
  have h1 := h.box
  have h2 := h.out
  refine ⟨by simp [World.cell?, h1], by simp [World.cell?, h1], by simp [World.cell?, h2], by simp [World.cell?, h2], fun o => by simp [World.frozen?, h1], fun o => by simp [World.frozen?, h2], (Array.getElem?_eq_some_iff.1 h1).1, (Array.getElem?_eq_some_iff.1 h2).1⟩

theorem RefAt.set0 {w : World} {Z : Nat} {p q p' : Option Addr} {c d c' : Nat} {l l' : List At} {g : List Mk} (h : RefAt w Z p q c d l g) (hl : AtomsAt w p' l') : RefAt (w.setCell ⟨Z, 0, none⟩ (.slice p' l'.length c')) Z p' q c' d l' g := by
  have hZ := BoxOf.of h.box
  refine ⟨?_, hl.setBox hZ, h.gone.setBox hZ, ?_⟩
  · simp [World.setCell, Array.getElem?_modify, h.box]
  · simp [World.setCell, Array.getElem?_modify, h.out]
theorem RefAt.set1 {w : World} {Z : Nat} {p q q' : Option Addr} {c d d' : Nat} {l : List At} {g g' : List Mk} (h : RefAt w Z p q c d l g) (hg : MarksAt w q' g') : RefAt (w.setCell ⟨Z, 1, none⟩ (.slice q' g'.length d')) Z p q' c d' l g' := by
  have hZ := BoxOf.of h.box
  refine ⟨?_, h.atoms.setBox hZ, hg.setBox hZ, ?_⟩
  · simp [World.setCell, Array.getElem?_modify, h.box]
  · simp [World.setCell, Array.getElem?_modify, h.out]

set_option maxRecDepth 100000 in
set_option maxHeartbeats 8000000 in
theorem doOf_ok (a b r : Option Addr) (cap cap' cr : Nat) (l : List At) (g : List Mk) (ds : List Dd) (w : World) (hok : OkS l g) (hds : ∀ d ∈ ds, chkD d = 0) (hn : ds.length ≤ maxLen) (h : AtomsAt w a l) (h' : MarksAt w b g) (hr : DeedsAt w r ds) :
    Calls Tryz.prog 45 #[.agg #[.slice a l.length cap, .slice b g.length cap'], .slice r ds.length cr] w fun e w' => Below w.heap.size w w' ∧ ((doAll l g ds = none ∧ e = .returned (.tuple #[.agg #[.slice none 0 0, .slice none 0 0], .bool false])) ∨ ∃ l' g' p c q d, doAll l g ds = some (l', g') ∧ e = .returned (.tuple #[.agg #[.slice p (List.length l') c, .slice q (List.length g') d], .bool true]) ∧ AtomsAt w' p l' ∧ MarksAt w' q g') := by
  have hB := ((Below.refl w.heap.size w).alloc (Nat.le_refl _) (Obj.cells #[.slice a l.length cap, .slice b g.length cap'] 25)).alloc (by simp) (Obj.cells #[.slice none 0 0, .slice none 0 0] 25)
  have hR : RefAt ((w.alloc (Obj.cells #[.slice a l.length cap, .slice b g.length cap'] 25)).alloc (Obj.cells #[.slice none 0 0, .slice none 0 0] 25)) w.heap.size a b cap cap' l g := by
    refine ⟨?_, h.below hB (Nat.le_refl _), h'.below hB (Nat.le_refl _), ?_⟩
    · have hb2 := (Below.refl (w.alloc (Obj.cells #[.slice a l.length cap, .slice b g.length cap'] 25)).heap.size (w.alloc (Obj.cells #[.slice a l.length cap, .slice b g.length cap'] 25))).alloc (Nat.le_refl _) (Obj.cells #[.slice none 0 0, .slice none 0 0] 25)
      exact (hb2.block w.heap.size (by simp)).trans (alloc_top w (Obj.cells #[.slice a l.length cap, .slice b g.length cap'] 25))
    · have := alloc_top (w.alloc (Obj.cells #[.slice a l.length cap, .slice b g.length cap'] 25)) (Obj.cells #[.slice none 0 0, .slice none 0 0] 25)
      simpa using this
  have hn' : ds.length ≤ 9223372036854775807 := by unfold maxLen at hn; omega
  have HDS := hidE hds
  have HOK := hidE hok
  clear hn h h' hds hok
  go_enter Tryz.func45, Tryz.ntmps45
  go_upto_region 1 with fail
  generalize (w.alloc (Obj.cells #[.slice a l.length cap, .slice b g.length cap'] 25)).alloc (Obj.cells #[.slice none 0 0, .slice none 0 0] 25) = W at hB hR ⊢
  generalize hzz : w.heap.size = Z at hB hR ⊢
  have HZ := hidE hzz
  clear hzz
  go_wp2_with fail
  go_loopw [6] (fun i wr => ∃ k : Nat, k ≤ ds.length ∧ i = .int .i64 k ∧ ∃ l1 g1 p c q d, doAll l g (ds.take k) = some (l1, g1) ∧ OkS l1 g1 ∧ RefAt wr Z p q c d l1 g1 ∧ Below Z w wr) (fun i _ => ds.length - (intOf i).toNat)
  case atStart => exact ⟨0, Nat.zero_le _, rfl, l, g, a, cap, b, cap', rfl, HOK.out, hR, hB⟩
  case round =>
    clear hR hB
    obtain ⟨k, hk, rfl, l1, g1, p, c, q, d, hda, hok1, hR, hb⟩ := hrel
    have HDA := hidE hda
    have HO1 := hidE hok1
    have hl1 := hok1.atoms.len
    have hg1 := hok1.len
    clear hda hok1
    obtain ⟨q0, q1, r0, r1, qf, rf, z0, z1⟩ := hR.cells
    have HR := hidE hR
    clear hR
    by_cases hlt : k < ds.length
    · rcases hr.below (w' := wr) (by rw [HZ.out]; exact hb) with hs | ⟨ab, ao, rfl, hab, hc⟩
      · simp [hs] at hlt
      have HSN := hidE (doAll_snoc (l := l) (g := g) hlt)
      have HCD := hidE (HDS.out _ (List.getElem_mem hlt))
      obtain ⟨pp, cp, qq, cq, c0, c1, c2, c3, c4, c5, c6, hDd, hm1, hm2⟩ := hc k hlt
      have HMO := hidE (marksOf_ok ds[k] pp qq cp cq wr hDd HCD.out)
      unfold ddV at HMO
      clear hc hDd hm1 hm2
      generalize ds[k] = dd at *
      have hi1 : (k : Int) < ds.length := by omega
      go_wp2_with fail
      refine HMO.out.mono ?_
      rintro e w2 ⟨vm, cm, rfl, hrow, hb2⟩
      clear HMO
      have hb2Z := hb.thru hb2 (Nat.le_of_lt z0)
      obtain ⟨pm, cm', hvm, hMm, _, _⟩ := hrow.marks
      obtain ⟨rfl, rfl⟩ : vm = pm ∧ cm = cm' := by simpa using hvm
      have HR2 := hidE (HR.out.below hb2)
      have d0 := (hb2.cell (p := ⟨ab, ao + k * 7, none⟩) hab).trans c0
      have d3 := (hb2.cell (p := ⟨ab, ao + k * 7 + 3, none⟩) hab).trans c3
      have hab2 := Nat.lt_of_lt_of_le hab hb2.size
      have HROW := hidE hrow
      have HZS := hidE z0
      clear hvm hrow c0 c1 c2 c3 c4 c5 c6 q0 q1 r0 r1 qf rf z0 z1 HR hb
      obtain ⟨wS, hwS⟩ : ∃ x, x = wr := ⟨_, rfl⟩
      subst hwS
      by_cases hk1 : dd.kind = 1
      · have HRU := hidE (okRun_of (okPut_of hk1 HCD.out))
        have HMD : Hid (marksD dd = nextsL dd.rp dd.rc dd.rt.size) := by show _ = _; unfold marksD; rw [if_pos hk1]
        have HDD : Hid (∀ n, (if 300 < (putL l1 (putsD g1 dd)).length then none else some (putL l1 (putsD g1 dd), g1)) = n → doD l1 g1 dd = n) := fun n e => by unfold doD; rw [if_pos hk1]; exact e
        have HLN : Hid ((marksD dd).length = dd.rt.size) := by show _ = _; rw [HMD.out, nextsL_len]
        have h60 := HRU.out.len
        rw [hk1] at d0
        rw [HLN.out] at HROW ⊢
        clear hk1 hMm
        have HP0 := hidE (putTo_zero l1 g1 dd)
        go_wp2_with fail
        go_loopw [8] (fun i wq => ∃ j : Nat, j ≤ dd.rt.size ∧ i = .int .i64 j ∧ ∃ p' c', RefAt wq Z p' q c' d (putTo l1 g1 dd j) g1 ∧ MkRow wq wS.heap.size (.slice vm dd.rt.size cm) (marksD dd) ∧ Below Z w wq ∧ wq.cell? ⟨ab, ao + k * 7, none⟩ = some (.int .i64 1) ∧ wq.cell? ⟨ab, ao + k * 7 + 3, none⟩ = some (.string dd.rt) ∧ ab < wq.heap.size) (fun i _ => dd.rt.size - (intOf i).toNat)
        case atStart => exact ⟨0, Nat.zero_le _, rfl, p, c, by rw [HP0.out]; exact HR2.out, HROW.out, hb2Z, d0, d3, hab2⟩
        case round =>
          obtain ⟨j, hj, rfl, p', c', hRj, hMj, hbj, dj, ej, habj⟩ := hrel
          have HRJ := hidE hRj
          have hpl : (putTo l1 g1 dd j).length ≤ 360 := by have := putTo_len (l := l1) (g := g1) (d := dd) (k := j); omega
          obtain ⟨q0, q1, r0, r1, qf, rf, z0, z1⟩ := hRj.cells
          have hZab : Z ≠ ab := by
            intro e
            subst e
            obtain ⟨x, y, u, e⟩ := BoxOf.of hRj.box _ _ dj
            cases e
          by_cases hjl : j < dd.rt.size
          · have hjm : j < (marksD dd).length := by rw [HLN.out]; exact hjl
            have hja : j < (atomsR dd.rp dd.rc dd.rt).length := by rw [atomsR_len]; exact hjl
            have HPGO := hidE (putTo_gone (l := l1) (g := g1) hja)
            have HPPU := hidE (putTo_put (l := l1) (g := g1) hja)
            have HAG : Hid ((atomsR dd.rp dd.rc dd.rt)[j] = ⟨bump dd.rp j, dd.rc + j, dd.rt[j].toNat⟩) := atomsR_get hjl
            have HMG : Hid ((marksD dd)[j] = (bump dd.rp j, dd.rc + j)) := by
              show _ = _
              have e : (nextsL dd.rp dd.rc dd.rt.size)[j]'(by rw [nextsL_len]; exact hjl) = (bump dd.rp j, dd.rc + j) := by simp [nextsL]
              rw [← e]
              congr 1
            have HMJ := hidE hMj
            obtain ⟨rs, hrl, hown, hrr⟩ := hMj
            have hpk := hrr j hjm (by omega)
            rw [HMG.out] at hpk
            obtain ⟨gp, cq', hre, hpo, hple⟩ := hpk
            have hrl2 : rs.length = dd.rt.size := by rw [hrl, HLN.out]
            rw [HLN.out] at hown
            obtain ⟨gm, cm2, hvm2⟩ := owns_form hown (by omega)
            obtain ⟨rfl, rfl⟩ : vm = some ⟨gm, 0, none⟩ ∧ cm = cm2 := by simpa using hvm2
            have cc := flatK_get rs j (by omega)
            rw [hre] at cc
            have x0 := (hown.cellAt (j * 2) (by omega)).trans cc.1
            have x1 := (hown.cellAt (j * 2 + 1) (by omega)).trans cc.2
            have hst := stepsAt_owns hpo rfl
            have hgml := (hown.lt gm rfl).2
            have hcap : (bump dd.rp j).length ≤ cq' := by
              rcases hpo.2 with ⟨e, _⟩ | ⟨g5, c5, _, e, _, _, hcc, _⟩
              · simp at e
              · have e2 : cq' = c5 := by simp at e; exact e.2
                rw [e2]; exact hcc
            have hsg := u8_range dd.rt[j]
            have hi2 : (j : Int) < dd.rt.size := by omega
            have HGA : Hid (goneA g1 (atomsR dd.rp dd.rc dd.rt)[j] = hasGone g1 (bump dd.rp j) (dd.rc + j)) := by show _ = _; rw [HAG.out]; rfl
            rw [HAG.out] at HPPU
            rw [HGA.out] at HPGO
            clear hrr hown cc hre hrl hrl2 hvm2 HMG hRj HGA
            generalize bump dd.rp j = pk at *
            generalize dd.rc + (j : Int) = ck at *
            have k0 := cell_regrown q1
            have k1 := cell_regrown x0
            have k2 := cell_regrown x1
            have S1 := hidE (fun d os => HRJ.out.gone.below (below_regrown wr d os) (Nat.le_refl _))
            have S2 := hidE (fun d os => hst.below (below_regrown wr d os) (Nat.le_refl _))
            have HHG := hidE (fun (w : World) (x : MarksAt w q g1) (y : StepsAt w (some ⟨gp, 0, none⟩) pk) => hasGone_any q (some ⟨gp, 0, none⟩) d cq' g1 pk ck w (by unfold maxLen; omega) hple x y)
            go_upto_region 10 with fail
            refine wp_region_quiet_below (by kernel_rfl) (by kernel_rfl) ?_
            repeat (first | go_big_quiet_step ((go_at_call 122; exact Calls.regrown_of (HHG.out _ (S1.out _ _) (S2.out _ _)))) | quiet_step ((go_at_call 122; exact Calls.regrown_of (HHG.out _ (S1.out _ _) (S2.out _ _)))))
            refine wpQuiet_nil ?_
            intro wq hw'
            obtain ⟨⟨dq, osq⟩, hw''⟩ := hw'
            have hbq : Below wr.heap.size wr wq := by rw [hw'']; exact below_regrown _ _ _
            clear hw'' k0 k1 k2 S1 S2 HHG
            cases hg : hasGone g1 pk ck
            · have HPE := hidE (HPPU.out hg)
              clear hg HPGO HPPU
              have hB9 := hbj.thru hbq (Nat.le_of_lt z0)
              have HR9 := hidE (HRJ.out.below hbq)
              have HM9 := hidE (HMJ.out.below hbq)
              have y0 := (hbq.cell (p := ⟨Z, 0, none⟩) z0).trans q0
              have yf := fun o => (hbq.frozen (p := ⟨Z, o, none⟩) z0).trans (qf o)
              have yx0 := (hbq.cell (p := ⟨gm, j * 2, none⟩) hgml).trans x0
              have yx1 := (hbq.cell (p := ⟨gm, j * 2 + 1, none⟩) hgml).trans x1
              have yd := (hbq.cell (p := ⟨ab, ao + k * 7, none⟩) habj).trans dj
              have ye := (hbq.cell (p := ⟨ab, ao + k * 7 + 3, none⟩) habj).trans ej
              have yz := Nat.lt_of_lt_of_le z0 hbq.size
              have yab := Nat.lt_of_lt_of_le habj hbq.size
              have hst9 := hst.below hbq (Nat.le_refl _)
              have HPA := hidE (fun (W' : World) (hb' : Below wq.heap.size wq W') => putAtom_ok p' c' (putTo l1 g1 dd j) W' (HR9.out.atoms.below hb' (Nat.le_refl _)) (by omega) ⟨some ⟨gp, 0, none⟩, pk.length, cq', ck, dd.rt[j].toNat⟩ ⟨pk, ck, dd.rt[j].toNat⟩ ⟨rfl, rfl, rfl, hst9.below hb' (Nat.le_refl _), hple, hcap, hsg.1, hsg.2⟩)
              clear q0 q1 r0 r1 qf rf x0 x1 dj ej hbq
              generalize hpt : putTo l1 g1 dd j = lj at *
              clear hpt
              have hBd : Below wq.heap.size wq wq.drew := (Below.refl _ _).drew
              go_upto_region 11 with fail
              go_region_with ((go_at_call 128; refine (HPA.out _ ?_).mono ?_; (first | exact hBd | exact Below.refl _ _); rintro e w6 ⟨p6, c6, rfl, hm6, hb6⟩; have hb6' : Below wq.heap.size wq w6 := hBd.thru hb6 (Nat.le_refl _); have t1 := (hb6'.cell (p := ⟨Z, 0, none⟩) yz).trans y0; have tf := fun o => (hb6'.frozen (p := ⟨Z, o, none⟩) yz).trans (yf o)))
              all_goals
                have hR6 := (HR9.out.below hb6').set0 (c' := c6) hm6
                have hM6 := (HM9.out.below hb6').setLow HZS.out 0 (.slice p6 (putA ⟨pk, ck, dd.rt[j].toNat⟩ lj false).length c6)
                have hB6 := (hB9.thru hb6' (Nat.le_of_lt yz)).setCell (p := ⟨Z, 0, none⟩) (Nat.le_refl _) (.slice p6 (putA ⟨pk, ck, dd.rt[j].toNat⟩ lj false).length c6)
                have d6 : (w6.setCell ⟨Z, 0, none⟩ (.slice p6 (putA ⟨pk, ck, dd.rt[j].toNat⟩ lj false).length c6)).cell? ⟨ab, ao + k * 7, none⟩ = some (.int .i64 1) := (World.cell?_setCell_other _ _ _ _ (by simp)).trans ((hb6'.cell (p := ⟨ab, ao + k * 7, none⟩) yab).trans yd)
                have e6 : (w6.setCell ⟨Z, 0, none⟩ (.slice p6 (putA ⟨pk, ck, dd.rt[j].toNat⟩ lj false).length c6)).cell? ⟨ab, ao + k * 7 + 3, none⟩ = some (.string dd.rt) := (World.cell?_setCell_other _ _ _ _ (by simp)).trans ((hb6'.cell (p := ⟨ab, ao + k * 7 + 3, none⟩) yab).trans ye)
                have a6 : ab < (w6.setCell ⟨Z, 0, none⟩ (.slice p6 (putA ⟨pk, ck, dd.rt[j].toNat⟩ lj false).length c6)).heap.size := by simpa [World.setCell] using Nat.lt_of_lt_of_le yab hb6'.size
                go_wp2_with fail
                go_roundw
                case rel => exact ⟨j + 1, by omega, by go_num, p6, c6, by rw [HPE.out]; exact hR6, hM6, hB6, d6, e6, a6⟩
                case measure => simp [intOf]; omega
            · have HPE := hidE (HPGO.out hg)
              clear hg HPGO HPPU
              have hB9 := hbj.thru hbq (Nat.le_of_lt z0)
              go_wp2
              go_roundw
              case rel => exact ⟨j + 1, by omega, by go_num, p', c', by rw [HPE.out]; exact HRJ.out.below hbq, HMJ.out.below hbq, hB9, (hbq.cell (p := ⟨ab, ao + k * 7, none⟩) habj).trans dj, (hbq.cell (p := ⟨ab, ao + k * 7 + 3, none⟩) habj).trans ej, Nat.lt_of_lt_of_le habj hbq.size⟩
              case measure => simp [intOf]; omega
          · have hje : dd.rt.size = j := by omega
            subst hje
            have HPT := hidE (putTo_all l1 g1 dd)
            rw [HPT.out] at HRJ hpl q0
            have HR8 := hidE HRJ.out
            clear hRj hMj HPT
            have hg6' : ¬ ((g1.length : Int) > 600) := by omega
            by_cases h3 : 300 < (putL l1 (putsD g1 dd)).length
            · have hd3 : ((putL l1 (putsD g1 dd)).length : Int) > 300 := by omega
              have HNN : Hid (doAll l g ds = none) := by
                show _ = _
                have e1 : doAll l g (ds.take (k + 1)) = none := by rw [HSN.out, HDA.out]; exact HDD.out _ (if_pos h3)
                exact doAll_none e1
              clear h3
              go_wp2_with fail
              refine bodyPost_ret (v := .tuple #[.agg #[.slice none 0 0, .slice none 0 0], .bool false]) (by simp [results, Tryz.results45, go_sem, r0, r1]) rfl ?_
              rw [HZ.out]
              exact ⟨(hbj.setCell (by simp) _).setCell (by simp) _, Or.inl ⟨HNN.out, rfl⟩⟩
            · have hd3 : ¬ ((putL l1 (putsD g1 dd)).length : Int) > 300 := by omega
              have HSS := hidE (HDD.out _ (if_neg h3))
              clear h3
              go_wp2_with fail
              go_roundw
              case rel => exact ⟨k + 1, by omega, by go_num, _, _, p', c', q, d, by rw [HSN.out, HDA.out]; exact HSS.out, doD_ok HO1.out HCD.out HSS.out, HR8.out, hbj⟩
              case measure => simp [intOf]; omega
      · have hk2 : dd.kind = 2 := by rcases kind_of HCD.out with e | e <;> omega
        have HMD : Hid (marksD dd = takesD dd) := by show _ = _; unfold marksD takesD; rw [if_neg hk1]
        have HDD : Hid (∀ n, (if 600 < ((takesD dd).foldl insG g1).length then none else some (takeL l1 (takesD dd), (takesD dd).foldl insG g1)) = n → doD l1 g1 dd = n) := fun n e => by unfold doD; rw [if_neg hk1]; exact e
        have hml : (takesD dd).length ≤ 60 := by
          unfold takesD; rw [nextsL_len]; have := (okTake_of hk2 HCD.out).2.2.1; omega
        rw [HMD.out] at hMm ⊢
        rw [hk2] at d0
        clear hk1 hk2
        have HG0 : Hid (goneTo g1 dd 0 = g1) := rfl
        go_wp2_with fail
        go_loopw [8] (fun i wq => ∃ j : Nat, j ≤ (takesD dd).length ∧ i = .int .i64 j ∧ ∃ q' d', RefAt wq Z p q' c d' l1 (goneTo g1 dd j) ∧ MarksAt wq vm (takesD dd) ∧ Below Z w wq ∧ wq.cell? ⟨ab, ao + k * 7, none⟩ = some (.int .i64 2) ∧ ab < wq.heap.size) (fun i _ => (takesD dd).length - (intOf i).toNat)
        case atStart => exact ⟨0, Nat.zero_le _, rfl, q, d, by rw [HG0.out]; exact HR2.out, hMm, hb2Z, d0, hab2⟩
        case round =>
          obtain ⟨j, hj, rfl, q', d', hRj, hMj, hbj, dj, habj⟩ := hrel
          have HRJ := hidE hRj
          have hgl : (goneTo g1 dd j).length ≤ 660 := by have := goneTo_len (g := g1) (d := dd) (k := j); omega
          obtain ⟨q0, q1, r0, r1, qf, rf, z0, z1⟩ := hRj.cells
          have hZab : Z ≠ ab := by
            intro e
            subst e
            obtain ⟨x, y, u, e⟩ := BoxOf.of hRj.box _ _ dj
            cases e
          by_cases hjl : j < (takesD dd).length
          · have HUJ : Hid (Up (goneTo g1 dd j)) := insAll_up HO1.out.up _
            have HGS := hidE (goneTo_succ (g := g1) hjl)
            rcases hMj with e | ⟨mb, mo, rfl, hmb, hmc⟩
            · simp [e] at hjl
            have HMJ : Hid (MarksAt wr (some ⟨mb, mo, none⟩) (takesD dd)) := Or.inr ⟨mb, mo, rfl, hmb, hmc⟩
            obtain ⟨px, cx, x0, x1, hsx, hlx⟩ := hmc j hjl
            have hi2 : (j : Int) < (takesD dd).length := by omega
            clear hmc hRj r0 r1 rf
            have HGS2 : Hid (goneTo g1 dd (j + 1) = insG (goneTo g1 dd j) ((takesD dd)[j].1, (takesD dd)[j].2)) := HGS.out
            generalize (takesD dd)[j].1 = pk at *
            generalize (takesD dd)[j].2 = ck at *
            generalize hgg : goneTo g1 dd j = gj at *
            clear hgg HGS
            have HPG := hidE (fun (W' : World) (hb' : Below wr.heap.size wr W') => putGone_ok q' px d' cx gj pk ck W' (HRJ.out.gone.below hb' (Nat.le_refl _)) (by omega) (hsx.below hb' (Nat.le_refl _)) hlx HUJ.out)
            have hBd : Below wr.heap.size wr wr.drew := (Below.refl _ _).drew
            go_upto_region 9 with fail
            go_region_with ((go_at_call 127; refine (HPG.out _ ?_).mono ?_; (first | exact hBd | exact Below.refl _ _); rintro e w6 ⟨p6, c6, rfl, hm6, hb6⟩; have hb6' : Below wr.heap.size wr w6 := hBd.thru hb6 (Nat.le_refl _); have t1 := (hb6'.cell (p := ⟨Z, 1, none⟩) z0).trans q1; have tf := fun o => (hb6'.frozen (p := ⟨Z, o, none⟩) z0).trans (qf o)))
            all_goals
              have hR6 := (HRJ.out.below hb6').set1 (d' := c6) hm6
              have hM6 := (HMJ.out.below hb6' (Nat.le_refl _)).setBox (o := 1) (u := .slice p6 (insG gj (pk, ck)).length c6) (BoxOf.of (HRJ.out.below hb6').box)
              have hB6 := (hbj.thru hb6' (Nat.le_of_lt z0)).setCell (p := ⟨Z, 1, none⟩) (Nat.le_refl _) (.slice p6 (insG gj (pk, ck)).length c6)
              have d6 : (w6.setCell ⟨Z, 1, none⟩ (.slice p6 (insG gj (pk, ck)).length c6)).cell? ⟨ab, ao + k * 7, none⟩ = some (.int .i64 2) := (World.cell?_setCell_other _ _ _ _ (by simp)).trans ((hb6'.cell (p := ⟨ab, ao + k * 7, none⟩) habj).trans dj)
              have a6 : ab < (w6.setCell ⟨Z, 1, none⟩ (.slice p6 (insG gj (pk, ck)).length c6)).heap.size := by simpa [World.setCell] using Nat.lt_of_lt_of_le habj hb6'.size
              generalize hnn : (insG gj (pk, ck)).length = nn at *
              go_wp2_with fail
              go_roundw
              case rel => exact ⟨j + 1, by omega, by go_num, p6, c6, by rw [HGS2.out]; exact hR6, hM6, hB6, d6, a6⟩
              case measure => simp [intOf]; omega
          · have hje : (takesD dd).length = j := by omega
            subst hje
            have HGA := hidE (goneTo_all g1 dd)
            have HTL : Hid ((takeL l1 (takesD dd)).length ≤ 300) := by
              show _ ≤ _
              exact (takeL_ok HO1.out.atoms).len
            have HTO := hidE (takeOf_ok p vm c cm l1 (takesD dd) wr HRJ.out.atoms hl1 (by unfold maxLen; omega) hMj)
            rw [HGA.out] at HRJ hgl q1
            clear hRj hMj HGA
            go_wp2_with fail
            refine HTO.out.mono ?_
            rintro e w7 ⟨p7, c7, rfl, hat7, hb7⟩
            clear HTO
            have s0 := (hb7.cell (p := ⟨Z, 0, none⟩) z0).trans q0
            have s1 := (hb7.cell (p := ⟨Z, 1, none⟩) z0).trans q1
            have sf := fun o => (hb7.frozen (p := ⟨Z, o, none⟩) z0).trans (qf o)
            have t0 := (hb7.cell (p := ⟨Z + 1, 0, none⟩) z1).trans r0
            have t1 := (hb7.cell (p := ⟨Z + 1, 1, none⟩) z1).trans r1
            have tf := fun o => (hb7.frozen (p := ⟨Z + 1, o, none⟩) z1).trans (rf o)
            have hR7 := (HRJ.out.below hb7).set0 (c' := c7) hat7
            have hB7 := (hbj.thru hb7 (Nat.le_of_lt z0)).setCell (p := ⟨Z, 0, none⟩) (Nat.le_refl _) (.slice p7 (takeL l1 (takesD dd)).length c7)
            clear q0 q1 r0 r1 qf rf hb7 dj hat7
            go_upto_region 14 with fail
            obtain ⟨x0, x1, y0, y1, xf, yf, z2, z3⟩ := hR7.cells
            have HR7 := hidE hR7
            clear hR7 s0 s1 sf t0 t1 tf
            generalize w7.setCell ⟨Z, 0, none⟩ (.slice p7 (takeL l1 (takesD dd)).length c7) = w8 at hB7 HR7 x0 x1 y0 y1 xf yf z2 z3 ⊢
            have ht3 : ¬ (((takeL l1 (takesD dd)).length : Int) > 300) := by have := HTL.out; omega
            by_cases h6 : 600 < ((takesD dd).foldl insG g1).length
            · have hd6 : (((takesD dd).foldl insG g1).length : Int) > 600 := by omega
              have HNN : Hid (doAll l g ds = none) := by
                show _ = _
                have e1 : doAll l g (ds.take (k + 1)) = none := by rw [HSN.out, HDA.out]; exact HDD.out _ (if_pos h6)
                exact doAll_none e1
              clear h6
              go_wp2_with fail
              refine bodyPost_ret (v := .tuple #[.agg #[.slice none 0 0, .slice none 0 0], .bool false]) (by simp [results, Tryz.results45, go_sem, y0, y1]) rfl ?_
              rw [HZ.out]
              exact ⟨(hB7.setCell (by simp) _).setCell (by simp) _, Or.inl ⟨HNN.out, rfl⟩⟩
            · have hd6 : ¬ (((takesD dd).foldl insG g1).length : Int) > 600 := by omega
              have HSS := hidE (HDD.out _ (if_neg h6))
              clear h6
              go_wp2_with fail
              go_roundw
              case rel => exact ⟨k + 1, by omega, by go_num, _, _, p7, c7, q', d', by rw [HSN.out, HDA.out]; exact HSS.out, doD_ok HO1.out HCD.out HSS.out, HR7.out, hB7⟩
              case measure => simp [intOf]; omega
    · have hke : ds.length = k := by omega
      subst hke
      rw [List.take_length] at HDA
      have s3 : (wr.setCell ⟨Z + 1, 0, none⟩ (.slice p l1.length c)).cell? ⟨Z + 1, 1, none⟩ = some (.slice none 0 0) := (World.cell?_setCell_other _ _ _ _ (by simp)).trans r1
      have hx1 : BoxOf wr (Z + 1) := BoxOf.of HR.out.out
      have hx2 : BoxOf (wr.setCell ⟨Z + 1, 0, none⟩ (.slice p l1.length c)) (Z + 1) := BoxOf.of (T := 25) (a := p) (n := l1.length) (c := c) (b := none) (m := 0) (d := 0) (by simp [World.setCell, Array.getElem?_modify, HR.out.out])
      have HX1 := hidE hx1
      have HX2 := hidE hx2
      clear hx1 hx2
      go_wp2_with fail
      refine bodyPost_ret (v := .tuple #[.agg #[.slice p l1.length c, .slice q g1.length d], .bool true]) (by simp [results, Tryz.results45, go_sem, r0, s3]) rfl ?_
      rw [HZ.out]
      exact ⟨(hb.setCell (by simp) _).setCell (by simp) _, Or.inr ⟨l1, g1, p, c, q, d, HDA.out, rfl, (HR.out.atoms.setBox HX1.out).setBox HX2.out, (HR.out.gone.setBox HX1.out).setBox HX2.out⟩⟩
end Go.Proofs.YtnhjebdlcbhkcaeGreat
