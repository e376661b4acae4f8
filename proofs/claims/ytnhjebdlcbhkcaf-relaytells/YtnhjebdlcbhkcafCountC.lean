/- Contract of relay's count. -/
import Derived.Test.YtnhjebdlcbhkcafRelPu
import Derived.Test.YtnhjebdlcbhkcafRowOwn
import Derived.Maps.OwnOps
import Derived.Maps.OwnSet
import Derived.Deep.RegionHeldLaw
namespace Go.Proofs.Ytnhjebdlcbhkcaf
open Go.RowKit Go.Maps

theorem lawK : Keyed Try.prog 3 := int_keyed Try.underlying3
theorem zeroK (w : World) : (zeroValue 3).run Try.prog w = .ok (.int .i64 0) w := by kernel_rfl

/-- a map of how many notes are of each site -/
def CntMap (w : World) (B n : Nat) (ns : List Nt) : Prop :=
  ∃ D : DataW Unit, w.ownsMap Try.prog 3 (plainElem Try.prog 3) B n D ∧ ∀ s : Int, D.atKey (.int .i64 s) (.lit (.int .i64 0)) = .lit (.int .i64 (cntS s ns))

/-- what count answers -/
def Counted (ns : List Nt) (w : World) (e : Ending) (w' : World) : Prop :=
  ∃ m, e = .returned (.tuple #[.map m, .int .i64 (chkRel ns)]) ∧ (chkRel ns = 0 → ∃ B n, m = some B ∧ w.heap.size ≤ B ∧ CntMap w' B n ns) ∧ Below w.heap.size w w'

set_option maxRecDepth 100000 in
set_option maxHeartbeats 4000000 in
theorem count_any (a : Option Addr) (c : Nat) (ns : List Nt) (w : World) (h : NotesAt w a ns) (hl : ns.length ≤ maxLen) :
    Calls Try.prog 12 #[.agg #[.slice a ns.length c]] w (Counted ns w) := by
  have hmm := @run_makeMap Try.prog
  have hA := alloc_below w (Obj.cells #[.slice a ns.length c] 24)
  have hN := Blk.new w #[.slice a ns.length c] 24
  have hW := h.below hA
  have H0 := hidE h
  clear h
  go_enter Try.func12, Try.ntmps12
  go_upto_region 1 with fail
  generalize w.alloc (Obj.cells #[.slice a ns.length c] 24) = W at *
  have n0 := hN.is 0 rfl
  by_cases h3 : 300 < ns.length
  · have HF : Hid (chkRel ns = 2) := by show _ = _; unfold chkRel; rw [if_pos h3]
    have hg : ((ns.length : Int) > 300) := by omega
    have HA := hidE hA
    clear hA hN hW
    go_wp2_with fail
    go_ret2
    exact ⟨none, by rw [HF.out]; rfl, fun e => by rw [HF.out] at e; omega, HA.out⟩
  have HF : Hid (chkRel ns = chkFromR [] ns) := by show _ = _; unfold chkRel; rw [if_neg h3]
  have hg : ¬ ((ns.length : Int) > 300) := by omega
  have hAM := alloc_below W (Obj.map #[] 0)
  have hOM : CntMap (W.alloc (Obj.map #[] 0)) W.heap.size 0 [] := ⟨.map [], World.ownsMap_made _ _ _ _, fun s => rfl⟩
  have hNM := hN.thruB hAM
  have hWM := hW.below hAM
  have hBs := hA.size
  have hBM := hA.thru hAM hA.size
  have hNlt := hN.lt
  clear hN hW hA hAM
  go_upto_region 4 with fail
  clear n0
  have n0 := hNM.is 0 rfl
  have HZ : Hid (w.heap.size < W.heap.size) := hNlt
  clear hNlt
  generalize W.alloc (Obj.map #[] 0) = W1 at *
  generalize W.heap.size = M at *
  have HNM := hidE hNM
  have HWM := hidE hWM
  have HBM := hidE hBM
  have HOM := hidE hOM
  clear hNM hWM hBM hOM h3 hg hmm
  go_wp2_with fail
  go_loopw [16] (fun vi wr => ∃ k : Nat, k ≤ ns.length ∧ vi = .int .i64 k ∧ chkFromR (ns.take k) (ns.drop k) = chkFromR [] ns ∧ CntMap wr M k (ns.take k) ∧ Below w.heap.size w wr) (fun vi _ => ns.length - (intOf vi).toNat)
  case atStart => exact ⟨0, Nat.zero_le _, rfl, rfl, HOM.out, HBM.out⟩
  case round =>
    obtain ⟨k, hk, rfl, hR, hC, hB⟩ := hrel
    rcases Nat.lt_or_ge k ns.length with hlt | hge
    · have hi1 : (k : Int) < ns.length := by omega
      rcases H0.out with e0 | ⟨b, o, rfl, hb, hc⟩
      · simp [e0] at hlt
      obtain ⟨p1, cp1, q1, cq1, c0, c1, c2, c3, hda⟩ := hc k hlt
      have hbw := fun j => (hB.cell (p := ⟨b, j, none⟩) hb)
      rw [← hbw] at c0 c1 c2 c3
      have hDa := hda.below hB
      have HStep := hidE (chkFromR_drop hlt)
      have HTk := hidE (List.take_succ_eq_append_getElem hlt)
      have HR := hidE hR
      clear hbw hc hda hR
      generalize ns[k] = d at *
      obtain ⟨site, number, needs, deeds⟩ := d
      have hA := alloc_below wr (Obj.cells #[.int .i64 site, .int .i64 number, .slice p1 needs.length cp1, .slice q1 deeds.length cq1] 28)
      have hX := Blk.new wr #[.int .i64 site, .int .i64 number, .slice p1 needs.length cp1, .slice q1 deeds.length cq1] 28
      have H2 := hidE (wireCheck_any ⟨site, number, needs, deeds⟩ p1 q1 cp1 cq1 _ (hDa.below hA))
      have HC := hidE hC
      have HB := hidE hB
      have hBw := hB.size
      have HA := hidE hA
      have HX := hidE hX
      clear hC hB hDa hA hX
      generalize hnn : ns.length = n at *
      have HNN := hidE hnn
      clear hnn
      go_upto_region 7 with fail
      generalize wr.alloc (Obj.cells #[.int .i64 site, .int .i64 number, .slice p1 needs.length cp1, .slice q1 deeds.length cq1] 28) = Wb at *
      have x0 := HX.out.is 0 rfl
      have x1 := HX.out.is 1 rfl
      have x2 := HX.out.is 2 rfl
      have x3 := HX.out.is 3 rfl
      clear c0 c1 c2 c3
      go_upto_region 8 with (go_at_call 14; refine H2.out.mono ?_; rintro r w5 ⟨rfl, hb5⟩)
      clear x0 x1 x2 x3
      have hX5 := HX.out.thruB hb5
      have x0 := hX5.is 0 rfl
      have x1 := hX5.is 1 rfl
      have hB5 := (HB.out.thru HA.out hBw).thru hb5 (Nat.le_trans hBw HA.out.size)
      obtain ⟨D, hown, hD⟩ := HC.out
      have hMlt := hown.lt
      have hown5 := (hown.kept (grownBy_none (row := none) HA.out) (by simp)).kept (grownBy_none (row := none) hb5) (by simp)
      have HX5 := hidE hX5
      clear hown HC HX hX5 H2 HA hb5
      have HB5 := hidE hB5
      have hkm : k < maxLen := Nat.lt_of_lt_of_le hlt hl
      have HHl := hidE hl
      clear hl hB5 HB hBw HNM HWM HBM HOM n0
      by_cases he : chkN ⟨site, number, needs, deeds⟩ = 0
      case neg =>
        have HE : Hid (chkRel ns = chkN ⟨site, number, needs, deeds⟩) := by
          show _ = _
          rw [HF.out, ← HR.out, HStep.out, if_pos he]
        have HNe := hidE he
        generalize chkN ⟨site, number, needs, deeds⟩ = er at *
        have he' : (er != 0) = true := by simpa using he
        clear he x0 x1 hown5
        go_wp2_with fail
        go_ret2
        exact ⟨none, by rw [HE.out]; rfl, fun e => absurd (HE.out.symm.trans e) HNe.out, HB5.out⟩
      have hst := chkN_site he
      simp only at hst
      have HSt := hidE hst
      have hkey : keyOf Try.prog 3 (.int .i64 site) = some (.int .i64 site) := keyOf_int_mk Try.underlying3 (WalkArith.wf_i64 (by omega))
      rw [if_neg (by simpa using he)] at HStep
      rw [he]
      clear he hst
      go_upto_region 11 with (first
        | (at_lookup; refine wpList_lookup_own_int _ rfl _ _ 40 rfl 3 3 .i64 lawK Try.underlying40 Try.underlying3 (zeroK _) M k _ rfl hown5 _ _ rfl hkey ?_; intro cc hat hwc)
        | (at_mapUpdate; refine wpList_mapUpdate_own _ rfl _ _ _ 40 rfl 3 3 lawK Try.underlying40 _ M k _ rfl hown5 hkm _ _ _ rfl rfl hkey _ [] (plainElem_int Try.underlying3 (wrap64_wf _)) ?_; intro w6 hown6 hgrow6))
      have hcl := cntS_le site (ns.take k)
      rw [List.length_take] at hcl
      obtain rfl : (cntS site (ns.take k) : Int) = cc := by
        have h9 := (hD site).symm.trans hat
        simpa using h9
      have hwr : wrap64 ((cntS site (ns.take k) : Int) + 1) = (cntS site (ns.take k) : Int) + 1 := by
        have := HHl.out
        have h8 := HNN.out
        unfold maxLen at hkm
        unfold wrap64
        omega
      have hD6 : ∀ s : Int, (D.put (.int .i64 site) (.lit (.int .i64 (wrap64 ((cntS site (ns.take k) : Int) + 1))))).atKey (.int .i64 s) (.lit (.int .i64 0)) = .lit (.int .i64 (cntS s (ns.take (k + 1)))) := by
        intro s
        rw [HTk.out, cntS_snoc, hwr]
        by_cases hs : site = s
        · subst hs
          rw [atKey_put_same hown5.isMap (by trivial)]
          simp
        · rw [atKey_put_other (by simpa using fun e => hs e.symm), hD s]
          simp [hs]
      have hX6 := HX5.out.grown hgrow6 (by simp; omega)
      clear x0 x1
      have x0 := hX6.is 0 rfl
      have x1 := hX6.is 1 rfl
      have HB6 := hidE (HB5.out.grown hgrow6 HB5.out.size (by intro j hj; cases hj; exact hBs))
      have HOW : Hid (CntMap w6 M (k + 1) (ns.take (k + 1))) := ⟨_, hown6, hD6⟩
      have hD7 := hD6 site
      have hct : (cntS site (ns.take (k + 1)) : Int) = (cntS site (ns.take k) : Int) + 1 := by
        rw [HTk.out, cntS_snoc]
        simp
      rw [hct] at hD7
      generalize (cntS site (ns.take k) : Int) = ct at *
      have HD7 := hidE hD7
      clear hX6 hgrow6 hD6 hct hcl hat hwc hD hD7 hown5
      generalize D.put (.int .i64 site) (.lit (.int .i64 (wrap64 (ct + 1)))) = D6 at *
      clear hwr
      have h8 : n ≤ maxLen := HHl.out
      have h9 : (k : Int) + 1 ≤ 9223372036854775807 := by unfold maxLen at h8; omega
      by_cases hnum : number = ct + 1
      · subst hnum
        rw [if_neg (by simp)] at HStep
        have hb : (ct + 1 != ct + 1) = false := by simp
        go_wp2_with (at_lookup; refine wpList_lookup_own_int _ rfl _ _ 40 rfl 3 3 .i64 lawK Try.underlying40 Try.underlying3 (zeroK _) M (k + 1) _ rfl hown6 _ _ rfl hkey ?_; intro c2 hat2 hwc2; obtain rfl : ct + 1 = c2 := by (have h9 := HD7.out.symm.trans hat2; simpa using h9))
        go_roundw
        case rel => exact ⟨k + 1, hlt, by go_num, HStep.out.symm.trans HR.out, HOW.out, HB6.out⟩
        case measure => simp [intOf]; omega
      · rw [if_pos hnum] at HStep
        have hb : (number != ct + 1) = true := by simpa using hnum
        have HE : Hid (chkRel ns = 4) := by
          show _ = _
          rw [HF.out, ← HR.out, HStep.out]
        clear hnum
        go_wp2_with (at_lookup; refine wpList_lookup_own_int _ rfl _ _ 40 rfl 3 3 .i64 lawK Try.underlying40 Try.underlying3 (zeroK _) M (k + 1) _ rfl hown6 _ _ rfl hkey ?_; intro c2 hat2 hwc2; obtain rfl : ct + 1 = c2 := by (have h9 := HD7.out.symm.trans hat2; simpa using h9))
        go_ret2
        exact ⟨none, by rw [HE.out]; rfl, fun e => by rw [HE.out] at e; omega, HB6.out⟩
    · have hki : k = ns.length := by omega
      subst hki
      have hi1 : ¬ ((ns.length : Int) < (ns.length : Int)) := by omega
      have HE : Hid (chkRel ns = 0) := by
        show _ = _
        rw [HF.out, ← hR, chkFromR_end]
      have HC := hidE hC
      have HB := hidE hB
      clear hR hC hB hge hk n0
      go_wp2_with fail
      go_ret2
      refine ⟨some M, by rw [HE.out]; rfl, fun _ => ⟨M, ns.length, rfl, hBs, ?_⟩, HB.out⟩
      have := HC.out
      rw [List.take_length] at this
      exact this

end Go.Proofs.Ytnhjebdlcbhkcaf
