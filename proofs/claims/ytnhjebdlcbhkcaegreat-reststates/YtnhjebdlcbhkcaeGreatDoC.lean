/- Contract of the reference's AllOf. -/
import Derived.Test.YtnhjebdlcbhkcaeGreatDoOf
import Derived.Test.YtnhjebdlcbhkcaeGreatStateCkR
import Derived.Test.YtnhjebdlcbhkcaeGreatEditPu
import Derived.Test.YtnhjebdlcbhkcaeGreatPutLe
import Derived.Test.YtnhjebdlcbhkcaeGreatNextOf
import Derived.Test.YtnhjebdlcbhkcaeGreatDelI
import Derived.Test.YtnhjebdlcbhkcaeGreatDoD
import Derived.Test.YtnhjebdlcbhkcaeGreatAllC
namespace Go.Proofs.YtnhjebdlcbhkcaeGreat
open Go.RowKit

def AllR (l : List At) (g : List Mk) (ds : List Dd) (e : Ending) (w' : World) : Prop :=
  (errAll l g ds ≠ 0 ∧ e = .returned (.tuple #[.agg #[.slice none 0 0, .slice none 0 0], .int .i64 (errAll l g ds)])) ∨
  (errAll l g ds = 0 ∧ ∃ l' g' p c q d, doAll l g ds = some (l', g') ∧ OkS l' g' ∧ e = .returned (.tuple #[.agg #[.slice p (List.length l') c, .slice q (List.length g') d], .int .i64 0]) ∧ AtomsAt w' p l' ∧ MarksAt w' q g')

theorem chkDs_take {ds : List Dd} {k : Nat} (hk : k < ds.length) (h : chkDs (ds.take k) = 0) : chkDs (ds.take (k + 1)) = chkD ds[k] := by
  induction ds generalizing k with
  | nil => simp at hk
  | cons d ds ih =>
    cases k with
    | zero => by_cases e : chkD d = 0 <;> simp [chkDs, e]
    | succ k =>
      rw [List.take_succ_cons] at h ⊢
      by_cases e : chkD d = 0
      · simp only [chkDs, e, ne_eq, not_true_eq_false, if_false] at h ⊢
        simpa using ih (by simpa using hk) h
      · simp [chkDs, e] at h
theorem chkDs_stop {ds : List Dd} {k : Nat} (h : chkDs (ds.take k) ≠ 0) : chkDs ds = chkDs (ds.take k) := by
  induction ds generalizing k with
  | nil => simp
  | cons d ds ih =>
    cases k with
    | zero => simp [chkDs] at h
    | succ k =>
      rw [List.take_succ_cons] at h ⊢
      by_cases e : chkD d = 0
      · simp only [chkDs, e, ne_eq, not_true_eq_false, if_false] at h ⊢
        exact ih h
      · simp [chkDs, e]

set_option maxRecDepth 100000 in
set_option maxHeartbeats 4000000 in
theorem allOf_ok (a b r : Option Addr) (cap cap' cr : Nat) (l : List At) (g : List Mk) (ds : List Dd) (w : World) (hl : l.length ≤ maxLen) (hn : ds.length ≤ maxLen) (h : AtomsAt w a l) (h' : MarksAt w b g) (hr : DeedsAt w r ds) :
    Calls Tryz.prog 15 #[.agg #[.slice a l.length cap, .slice b g.length cap'], .slice r ds.length cr] w fun e w' => Below w.heap.size w w' ∧ AllR l g ds e w' := by
  have hB := ((Below.refl w.heap.size w).alloc (Nat.le_refl _) (Obj.cells #[.slice a l.length cap, .slice b g.length cap'] 25)).alloc (by simp) (Obj.cells #[.slice none 0 0, .slice none 0 0] 25)
  obtain ⟨q0, q1, r0, r1, hz, hb0⟩ := boxes2 w (.slice a l.length cap) (.slice b g.length cap') (.slice none 0 0) (.slice none 0 0) 25 25
  clear hb0
  have rf : ∀ o, ((w.alloc (Obj.cells #[.slice a l.length cap, .slice b g.length cap'] 25)).alloc (Obj.cells #[.slice none 0 0, .slice none 0 0] 25)).frozen? ⟨w.heap.size + 1, o, none⟩ = false := fun o => by go_simp
  have hx : ((w.alloc (Obj.cells #[.slice a l.length cap, .slice b g.length cap'] 25)).alloc (Obj.cells #[.slice none 0 0, .slice none 0 0] 25)).heap[w.heap.size + 1]? = some (Obj.cells #[.slice none 0 0, .slice none 0 0] 25) := by
    have := alloc_top (w.alloc (Obj.cells #[.slice a l.length cap, .slice b g.length cap'] 25)) (Obj.cells #[.slice none 0 0, .slice none 0 0] 25)
    simpa using this
  replace h := h.below hB (Nat.le_refl _)
  replace h' := h'.below hB (Nat.le_refl _)
  replace hr := hr.below hB
  have hn' : ds.length ≤ 9223372036854775807 := by unfold maxLen at hn; omega
  go_enter Tryz.func15, Tryz.ntmps15
  go_upto_region 1 with fail
  generalize (w.alloc (Obj.cells #[.slice a l.length cap, .slice b g.length cap'] 25)).alloc (Obj.cells #[.slice none 0 0, .slice none 0 0] 25) = W at hB q0 q1 r0 r1 hz rf hx h h' hr ⊢
  generalize hzz : w.heap.size = Z at *
  have HZ := hidE hzz
  have HX := hidE hx
  clear hzz hx
  have HCS := hidE (checkState_any a b cap cap' l g W hl h h')
  go_wp2_with fail
  refine HCS.out.mono ?_
  rintro e w1 ⟨rfl, hb⟩
  clear HCS
  replace q0 := (hb.cell (p := ⟨Z, 0, none⟩) (by show Z < _; omega)).trans q0
  replace q1 := (hb.cell (p := ⟨Z, 1, none⟩) (by show Z < _; omega)).trans q1
  replace r0 := (hb.cell (p := ⟨Z + 1, 0, none⟩) (by show Z + 1 < _; omega)).trans r0
  replace r1 := (hb.cell (p := ⟨Z + 1, 1, none⟩) (by show Z + 1 < _; omega)).trans r1
  replace rf := fun o => (hb.frozen (p := ⟨Z + 1, o, none⟩) (by show Z + 1 < _; omega)).trans (rf o)
  replace h := h.below hb (Nat.le_refl _)
  replace h' := h'.below hb (Nat.le_refl _)
  replace hr := hr.below hb
  replace hB := hB.thru hb (by omega)
  have z1 : Z + 1 < w1.heap.size := by have := hb.size; omega
  replace HX := hidE ((hb.block (Z + 1) (by omega)).trans HX.out)
  clear hb hz
  by_cases hcs : chkS l g = 0
  · rw [hcs]
    go_wp2_with fail
    go_loopw [6, 7] (fun er i wr => ∃ k : Nat, k ≤ ds.length ∧ i = .int .i64 k ∧ er = .int .i64 (chkDs (ds.take k)) ∧ Below w1.heap.size w1 wr) (fun _ i _ => ds.length - (intOf i).toNat)
    case atStart => exact ⟨0, Nat.zero_le _, rfl, rfl, Below.refl _ _⟩
    case round =>
      obtain ⟨k, hk, rfl, rfl, hb⟩ := hrel
      replace q0 := (hb.cell (p := ⟨Z, 0, none⟩) (by show Z < _; omega)).trans q0
      replace q1 := (hb.cell (p := ⟨Z, 1, none⟩) (by show Z < _; omega)).trans q1
      replace r0 := (hb.cell (p := ⟨Z + 1, 0, none⟩) z1).trans r0
      replace r1 := (hb.cell (p := ⟨Z + 1, 1, none⟩) z1).trans r1
      replace rf := fun o => (hb.frozen (p := ⟨Z + 1, o, none⟩) z1).trans (rf o)
      replace h := h.below hb (Nat.le_refl _)
      replace h' := h'.below hb (Nat.le_refl _)
      replace hr := hr.below hb
      by_cases hce : chkDs (ds.take k) = 0
      · by_cases hlt : k < ds.length
        · have HTK := hidE (chkDs_take hlt hce)
          rw [hce]
          clear hce
          rcases hr with hs | ⟨ab, ao, rfl, hab, hc⟩
          · simp [hs] at hlt
          obtain ⟨pp, cp, qq, cq, c0, c1, c2, c3, c4, c5, c6, hDd, hm1, hm2⟩ := hc k hlt
          have HCD := hidE (checkDeed_any ds[k] pp qq cp cq wr hDd hm1 hm2)
          unfold ddV at HCD
          clear hc hDd hm1 hm2
          generalize ds[k] = dd at *
          have hi1 : (k : Int) < ds.length := by omega
          go_wp2_with fail
          refine HCD.out.mono ?_
          rintro e w2 ⟨rfl, hb2⟩
          clear HCD
          go_wp2_with fail
          go_roundw
          case rel => exact ⟨k + 1, by omega, by go_num, by rw [HTK.out], hb.thru hb2 hb.size⟩
          case measure => simp [intOf]; omega
        · have hke : ds.length = k := by omega
          subst hke
          rw [List.take_length] at hce ⊢
          have HDC := hidE (chkDs_all hce)
          have HOK := hidE (okS_of hcs)
          have HDO := hidE (doOf_ok a b r cap cap' cr l g ds wr HOK.out HDC.out hn h h' hr)
          have HE0 : Hid (∀ x, doAll l g ds = some x → errAll l g ds = 0) := fun x e => by unfold errAll; rw [hcs, hce, e]; rfl
          have HE2 : Hid (doAll l g ds = none → errAll l g ds = 2) := fun e => by unfold errAll; rw [hcs, hce, e]; rfl
          replace hB := hB.thru hb (by omega)
          have zz : Z + 1 < wr.heap.size := by have := hb.size; omega
          replace HX := hidE ((hb.block (Z + 1) z1).trans HX.out)
          rw [hce]
          clear hce hcs hb h h' hr hn hk hlt
          go_wp2_with fail
          refine HDO.out.mono ?_
          rintro e w2 ⟨hb2, hp⟩
          clear HDO
          replace r0 := (hb2.cell (p := ⟨Z + 1, 0, none⟩) zz).trans r0
          replace r1 := (hb2.cell (p := ⟨Z + 1, 1, none⟩) zz).trans r1
          replace rf := fun o => (hb2.frozen (p := ⟨Z + 1, o, none⟩) zz).trans (rf o)
          replace hB := hB.thru hb2 (by omega)
          replace HX := hidE ((hb2.block (Z + 1) zz).trans HX.out)
          replace zz := Nat.lt_of_lt_of_le zz hb2.size
          clear hb2 q0 q1
          rcases hp with ⟨hnn, rfl⟩ | ⟨l', g', p, c, q, d, hda, rfl, hat, hmk⟩
          · have HER := hidE (HE2.out hnn)
            clear hnn HE0 HE2
            have hbn := (Below.refl w2.heap.size w2).alloc (Nat.le_refl _) (Obj.cells #[.slice none 0 0, .slice none 0 0] 25)
            replace r0 := (hbn.cell (p := ⟨Z + 1, 0, none⟩) zz).trans r0
            replace r1 := (hbn.cell (p := ⟨Z + 1, 1, none⟩) zz).trans r1
            replace rf := fun o => (hbn.frozen (p := ⟨Z + 1, o, none⟩) zz).trans (rf o)
            replace hB := hB.thru hbn (by omega)
            go_upto_region 9 with fail
            generalize w2.alloc (Obj.cells #[.slice none 0 0, .slice none 0 0] 25) = w3 at hbn r0 r1 rf hB ⊢
            clear hbn
            go_wp2_with fail
            refine bodyPost_ret (v := .tuple #[.agg #[.slice none 0 0, .slice none 0 0], .int .i64 2]) (by simp [results, Tryz.results15, go_sem, r0, r1]) rfl ?_
            rw [HZ.out]
            exact ⟨(hB.setCell (by simp) _).setCell (by simp) _, Or.inl ⟨by rw [HER.out]; decide, by rw [HER.out]⟩⟩
          · have HER := hidE (HE0.out _ hda)
            have HDA := hidE hda
            clear hda HE0 HE2
            have HO2 := hidE (doAll_facts HOK.out HDC.out HDA.out)
            have hbn := (Below.refl w2.heap.size w2).alloc (Nat.le_refl _) (Obj.cells #[.slice p l'.length c, .slice q g'.length d] 25)
            have t0 : (w2.alloc (Obj.cells #[.slice p l'.length c, .slice q g'.length d] 25)).cell? ⟨w2.heap.size, 0, none⟩ = some (.slice p l'.length c) := by simp
            have t1 : (w2.alloc (Obj.cells #[.slice p l'.length c, .slice q g'.length d] 25)).cell? ⟨w2.heap.size, 1, none⟩ = some (.slice q g'.length d) := by simp
            replace r0 := (hbn.cell (p := ⟨Z + 1, 0, none⟩) zz).trans r0
            replace r1 := (hbn.cell (p := ⟨Z + 1, 1, none⟩) zz).trans r1
            replace rf := fun o => (hbn.frozen (p := ⟨Z + 1, o, none⟩) zz).trans (rf o)
            replace hB := hB.thru hbn (by omega)
            replace hat := hat.below hbn (Nat.le_refl _)
            replace hmk := hmk.below hbn (Nat.le_refl _)
            replace HX := hidE ((hbn.block (Z + 1) zz).trans HX.out)
            go_upto_region 9 with fail
            generalize w2.alloc (Obj.cells #[.slice p l'.length c, .slice q g'.length d] 25) = w3 at hbn r0 r1 rf hB t0 t1 hat hmk HX ⊢
            generalize w2.heap.size = T at t0 t1 zz ⊢
            clear hbn
            have s3 : (w3.setCell ⟨Z + 1, 0, none⟩ (.slice p l'.length c)).cell? ⟨Z + 1, 1, none⟩ = some (.slice none 0 0) := (World.cell?_setCell_other _ _ _ _ (by simp)).trans r1
            have HX1 := hidE (BoxOf.of HX.out)
            have HX2 : Hid (BoxOf (w3.setCell ⟨Z + 1, 0, none⟩ (.slice p l'.length c)) (Z + 1)) := BoxOf.of (T := 25) (a := p) (n := l'.length) (c := c) (b := none) (m := 0) (d := 0) (by simp [World.setCell, Array.getElem?_modify, HX.out])
            go_wp2_with fail
            refine bodyPost_ret (v := .tuple #[.agg #[.slice p l'.length c, .slice q g'.length d], .int .i64 0]) (by simp [results, Tryz.results15, go_sem, r0, s3]) rfl ?_
            rw [HZ.out]
            exact ⟨(hB.setCell (by simp) _).setCell (by simp) _, Or.inr ⟨HER.out, l', g', p, c, q, d, HDA.out, HO2.out.2.2, rfl, (hat.setBox HX1.out).setBox HX2.out, (hmk.setBox HX1.out).setBox HX2.out⟩⟩
      · have HST := hidE (chkDs_stop hce)
        have HER : Hid (errAll l g ds = chkDs (ds.take k)) := by show _ = _; unfold errAll; rw [hcs, HST.out, if_neg (by simp), if_pos hce]
        replace hB := hB.thru hb (by omega)
        clear h h' hr hcs HST
        generalize chkDs (ds.take k) = er at *
        have hcb : (er == 0) = false := by rw [beq_eq_false_iff_ne]; exact hce
        have hcn : (er != 0) = true := by rw [bne_iff_ne]; exact hce
        have HNE := hidE hce
        clear hce
        by_cases hlt : (k : Int) < ds.length
        · go_wp2_with fail
          refine bodyPost_ret (v := .tuple #[.agg #[.slice none 0 0, .slice none 0 0], .int .i64 er]) (by simp [results, Tryz.results15, go_sem, r0, r1]) rfl ?_
          rw [HZ.out]
          exact ⟨(hB.setCell (by simp) _).setCell (by simp) _, Or.inl ⟨by rw [HER.out]; exact HNE.out, by rw [HER.out]⟩⟩
        · go_wp2_with fail
          refine bodyPost_ret (v := .tuple #[.agg #[.slice none 0 0, .slice none 0 0], .int .i64 er]) (by simp [results, Tryz.results15, go_sem, r0, r1]) rfl ?_
          rw [HZ.out]
          exact ⟨(hB.setCell (by simp) _).setCell (by simp) _, Or.inl ⟨by rw [HER.out]; exact HNE.out, by rw [HER.out]⟩⟩
  · have HER : Hid (errAll l g ds = chkS l g) := by show _ = _; unfold errAll; rw [if_pos hcs]
    clear h h' hr hn
    generalize chkS l g = er at *
    have hcb : (er == 0) = false := by rw [beq_eq_false_iff_ne]; exact hcs
    have hcn : (er != 0) = true := by rw [bne_iff_ne]; exact hcs
    have HNE := hidE hcs
    clear hcs
    go_wp2_with fail
    go_loopw [6, 7] (fun x i wr => x = .int .i64 er ∧ i = .int .i64 0 ∧ wr = w1) (fun _ _ _ => 0)
    case atStart => exact ⟨rfl, rfl, rfl⟩
    case round =>
      obtain ⟨rfl, rfl, rfl⟩ := hrel
      by_cases hlt : 0 < ds.length
      · go_wp2_with fail
        refine bodyPost_ret (v := .tuple #[.agg #[.slice none 0 0, .slice none 0 0], .int .i64 er]) (by simp [results, Tryz.results15, go_sem, r0, r1]) rfl ?_
        rw [HZ.out]
        exact ⟨(hB.setCell (by simp) _).setCell (by simp) _, Or.inl ⟨by rw [HER.out]; exact HNE.out, by rw [HER.out]⟩⟩
      · go_wp2_with fail
        refine bodyPost_ret (v := .tuple #[.agg #[.slice none 0 0, .slice none 0 0], .int .i64 er]) (by simp [results, Tryz.results15, go_sem, r0, r1]) rfl ?_
        rw [HZ.out]
        exact ⟨(hB.setCell (by simp) _).setCell (by simp) _, Or.inl ⟨by rw [HER.out]; exact HNE.out, by rw [HER.out]⟩⟩
end Go.Proofs.YtnhjebdlcbhkcaeGreat

namespace Go.Proofs.YtnhjebdlcbhkcaeGreat
open Go.RowKit

set_option maxRecDepth 100000 in
set_option maxHeartbeats 2000000 in
theorem sameMarks_same (a a' : Option Addr) (cap cap' : Nat) (g : List Mk) (w : World) (hl : g.length ≤ maxLen) (h : MarksAt w a g) (h' : MarksAt w a' g) :
    Calls Tryz.prog 69 #[.slice a g.length cap, .slice a' g.length cap'] w fun e w' => e = .returned (.bool true) ∧ Below w.heap.size w w' := by
  unfold maxLen at hl
  have hd' : ((g.length : Int) != g.length) = false := bne_self_eq_false _
  go_enter Tryz.func69, Tryz.ntmps69
  go_wp2
  go_loopw [5] (fun i wr => ∃ k : Nat, k ≤ g.length ∧ i = .int .i64 k ∧ Below w.heap.size w wr) (fun i _ => g.length - (intOf i).toNat)
  case atStart => exact ⟨0, Nat.zero_le _, rfl, Below.refl _ _⟩
  case round =>
    obtain ⟨k, hk, rfl, hb⟩ := hrel
    by_cases hlt : k < g.length
    · rcases h.below hb (Nat.le_refl _) with hs | ⟨ab, ao, rfl, hab, hc⟩
      · simp [hs] at hlt
      rcases h'.below hb (Nat.le_refl _) with hs | ⟨bb, bo, rfl, hbb, hc'⟩
      · simp [hs] at hlt
      obtain ⟨p, cp, c0, c1, hst, hle⟩ := hc k hlt
      obtain ⟨p', cp', c0', c1', hst', _⟩ := hc' k hlt
      have hi1 : (k : Int) < g.length := by omega
      generalize g[k].1 = pk at *
      generalize g[k].2 = ck at *
      have k0 := cell_regrown c0
      have k1 := cell_regrown c1
      have k3 := cell_regrown c0'
      have k4 := cell_regrown c1'
      have S1 := hidE (fun d os => hst.below (below_regrown wr d os) (Nat.le_refl _))
      have S2 := hidE (fun d os => hst'.below (below_regrown wr d os) (Nat.le_refl _))
      have HS := hidE (fun (w : World) (x : StepsAt w p pk) (y : StepsAt w p' pk) => by have := sameMark_n p p' cp cp' pk.length pk.length pk pk ck ck w rfl rfl hle hle x y; rw [show (ordM pk ck pk ck == 0) = true from by rw [show ordM pk ck pk ck = 0 from cmpM.refl (pk, ck)]; rfl] at this; exact this)
      clear hc hc' h hst h' hst'
      go_wp2_with fail
      refine wp_region_quiet_below (by kernel_rfl) (by kernel_rfl) ?_
      repeat (first | go_big_quiet_step ((go_at_call 58; exact Calls.regrown_of (HS.out _ (S1.out _ _) (S2.out _ _)))) | quiet_step ((go_at_call 58; exact Calls.regrown_of (HS.out _ (S1.out _ _) (S2.out _ _)))))
      refine wpQuiet_nil ?_
      intro _ hw'
      obtain ⟨⟨dq, osq⟩, hw''⟩ := hw'
      subst hw''
      go_wp2
      go_roundw
      case rel => exact ⟨k + 1, by omega, by go_num, hb.thru (below_regrown _ _ _) hb.size⟩
      case measure => simp [intOf]; omega
    · go_wp2
      go_ret
      exact ⟨rfl, hb⟩

set_option maxRecDepth 100000 in
set_option maxHeartbeats 2000000 in
theorem sameState_same (a a' b b' : Option Addr) (ca ca' cb cb' : Nat) (l : List At) (g : List Mk) (w : World) (hl : l.length ≤ maxLen) (hg : g.length ≤ maxLen) (h1 : AtomsAt w a l) (h2 : AtomsAt w a' l) (h3 : MarksAt w b g) (h4 : MarksAt w b' g) :
    Calls Tryz.prog 18 #[.agg #[.slice a l.length ca, .slice b g.length cb], .agg #[.slice a' l.length ca', .slice b' g.length cb']] w fun e w' => e = .returned (.bool true) ∧ Below w.heap.size w w' := by
  obtain ⟨q0, q1, q3, q4, hz, hb1⟩ := boxes2 w (.slice a l.length ca) (.slice b g.length cb) (.slice a' l.length ca') (.slice b' g.length cb') 25 25
  replace h1 := h1.below hb1 (Nat.le_refl _)
  replace h2 := h2.below hb1 (Nat.le_refl _)
  replace h3 := h3.below hb1 (Nat.le_refl _)
  replace h4 := h4.below hb1 (Nat.le_refl _)
  go_enter Tryz.func18, Tryz.ntmps18
  go_upto_region 1 with fail
  generalize (w.alloc (Obj.cells #[.slice a l.length ca, .slice b g.length cb] 25)).alloc (Obj.cells #[.slice a' l.length ca', .slice b' g.length cb'] 25) = W at q0 q1 q3 q4 hz hb1 h1 h2 h3 h4 ⊢
  have z0 : w.heap.size < W.heap.size := by omega
  have z1 : w.heap.size + 1 < W.heap.size := by omega
  clear hz
  have HS := hidE (show Calls Tryz.prog 51 #[.slice a l.length ca, .slice a' l.length ca'] W fun e w' => e = .returned (.bool true) ∧ Below W.heap.size W w' from by have := sameAtoms_any a a' ca ca' l l W hl hl h1 h2; rw [sameL_refl] at this; exact this)
  go_wp2_with fail
  refine HS.out.mono ?_
  rintro e w1 ⟨rfl, hb⟩
  replace q1 := (hb.cell (p := ⟨w.heap.size, 1, none⟩) z0).trans q1
  replace q4 := (hb.cell (p := ⟨w.heap.size + 1, 1, none⟩) z1).trans q4
  have HM := hidE (sameMarks_same b b' cb cb' g w1 hg (h3.below hb (Nat.le_refl _)) (h4.below hb (Nat.le_refl _)))
  go_wp2_with fail
  refine HM.out.mono ?_
  rintro e w2 ⟨rfl, hb2⟩
  go_wp2_with fail
  go_ret
  exact ⟨rfl, (hb1.thru hb hb1.size).thru hb2 (Nat.le_trans hb1.size hb.size)⟩
end Go.Proofs.YtnhjebdlcbhkcaeGreat

namespace Go.Proofs.YtnhjebdlcbhkcaeGreat
open Go.RowKit

set_option maxRecDepth 100000 in
set_option maxHeartbeats 1000000 in
theorem stateIs_err (er : Int) (a b : Option Addr) (n m ca cb : Nat) (w : World) (her : er ≠ 0) :
    Calls Tryz.prog 17 #[.agg #[.slice none 0 0, .slice none 0 0], .int .i64 er, .int .i64 er, .agg #[.slice a n ca, .slice b m cb]] w fun e w' => e = .returned (.bool true) ∧ Below w.heap.size w w' := by
  obtain ⟨q0, q1, q3, q4, hz, hb1⟩ := boxes2 w (.slice none 0 0) (.slice none 0 0) (.slice a n ca) (.slice b m cb) 25 25
  have rf : ∀ o, ((w.alloc (Obj.cells #[.slice none 0 0, .slice none 0 0] 25)).alloc (Obj.cells #[.slice a n ca, .slice b m cb] 25)).frozen? ⟨w.heap.size + 1, o, none⟩ = false := fun o => by go_simp
  have hcb : (er != 0) = true := by rw [bne_iff_ne]; exact her
  clear her
  go_enter Tryz.func17, Tryz.ntmps17
  go_upto_region 1 with fail
  generalize (w.alloc (Obj.cells #[.slice none 0 0, .slice none 0 0] 25)).alloc (Obj.cells #[.slice a n ca, .slice b m cb] 25) = W at q0 q1 q3 q4 hz hb1 rf ⊢
  generalize hzz : w.heap.size = Z at *
  have HZ := hidE hzz
  clear hzz
  have s3 : (W.setCell ⟨Z + 1, 0, none⟩ (.slice none 0 0)).cell? ⟨Z + 1, 1, none⟩ = some (.slice b m cb) := (World.cell?_setCell_other _ _ _ _ (by simp)).trans q4
  have hB2 := (hb1.setCell (p := ⟨Z + 1, 0, none⟩) (by simp) (.slice none 0 0)).setCell (p := ⟨Z + 1, 1, none⟩) (by simp) (.slice none 0 0)
  have y0 : ((W.setCell ⟨Z + 1, 0, none⟩ (.slice none 0 0)).setCell ⟨Z + 1, 1, none⟩ (.slice none 0 0)).cell? ⟨Z, 0, none⟩ = some (.slice none 0 0) := (World.cell?_setCell_other _ _ _ _ (by simp)).trans ((World.cell?_setCell_other _ _ _ _ (by simp)).trans q0)
  have y1 : ((W.setCell ⟨Z + 1, 0, none⟩ (.slice none 0 0)).setCell ⟨Z + 1, 1, none⟩ (.slice none 0 0)).cell? ⟨Z, 1, none⟩ = some (.slice none 0 0) := (World.cell?_setCell_other _ _ _ _ (by simp)).trans ((World.cell?_setCell_other _ _ _ _ (by simp)).trans q1)
  have y2 : ((W.setCell ⟨Z + 1, 0, none⟩ (.slice none 0 0)).setCell ⟨Z + 1, 1, none⟩ (.slice none 0 0)).cell? ⟨Z + 1, 0, none⟩ = some (.slice none 0 0) := (World.cell?_setCell_other _ _ _ _ (by simp)).trans (World.cell?_setCell_same _ _ _ q3)
  have y3 : ((W.setCell ⟨Z + 1, 0, none⟩ (.slice none 0 0)).setCell ⟨Z + 1, 1, none⟩ (.slice none 0 0)).cell? ⟨Z + 1, 1, none⟩ = some (.slice none 0 0) := World.cell?_setCell_same _ _ _ s3
  have hzX : Z ≤ ((W.setCell ⟨Z + 1, 0, none⟩ (.slice none 0 0)).setCell ⟨Z + 1, 1, none⟩ (.slice none 0 0)).heap.size := by simp [World.setCell]; omega
  go_upto_region 3 with fail
  generalize (W.setCell ⟨Z + 1, 0, none⟩ (.slice none 0 0)).setCell ⟨Z + 1, 1, none⟩ (.slice none 0 0) = X at hB2 y0 y1 y2 y3 hzX ⊢
  have HS := hidE (sameState_same none none none none 0 0 0 0 [] [] X (by simp) (by simp) (Or.inl rfl) (Or.inl rfl) (Or.inl rfl) (Or.inl rfl))
  clear q0 q1 q3 q4 hb1 rf s3
  go_wp2_with fail
  refine HS.out.mono ?_
  rintro e w2 ⟨rfl, hb2⟩
  go_wp2
  go_ret
  rw [HZ.out]
  exact ⟨rfl, hB2.thru hb2 hzX⟩

set_option maxRecDepth 100000 in
set_option maxHeartbeats 1000000 in
theorem stateIs_ok (a a' b b' : Option Addr) (ca ca' cb cb' : Nat) (l : List At) (g : List Mk) (w : World) (hl : l.length ≤ maxLen) (hg : g.length ≤ maxLen) (h1 : AtomsAt w a l) (h2 : AtomsAt w a' l) (h3 : MarksAt w b g) (h4 : MarksAt w b' g) :
    Calls Tryz.prog 17 #[.agg #[.slice a l.length ca, .slice b g.length cb], .int .i64 0, .int .i64 0, .agg #[.slice a' l.length ca', .slice b' g.length cb']] w fun e w' => e = .returned (.bool true) ∧ Below w.heap.size w w' := by
  obtain ⟨q0, q1, q3, q4, hz, hb1⟩ := boxes2 w (.slice a l.length ca) (.slice b g.length cb) (.slice a' l.length ca') (.slice b' g.length cb') 25 25
  have HS := hidE (sameState_same a a' b b' ca ca' cb cb' l g _ hl hg (h1.below hb1 (Nat.le_refl _)) (h2.below hb1 (Nat.le_refl _)) (h3.below hb1 (Nat.le_refl _)) (h4.below hb1 (Nat.le_refl _)))
  clear h1 h2 h3 h4 hl hg
  go_enter Tryz.func17, Tryz.ntmps17
  go_upto_region 1 with fail
  generalize (w.alloc (Obj.cells #[.slice a l.length ca, .slice b g.length cb] 25)).alloc (Obj.cells #[.slice a' l.length ca', .slice b' g.length cb'] 25) = W at q0 q1 q3 q4 hz hb1 HS ⊢
  generalize hzz : w.heap.size = Z at *
  have HZ := hidE hzz
  clear hzz
  go_upto_region 3 with fail
  go_wp2_with fail
  refine HS.out.mono ?_
  rintro e w2 ⟨rfl, hb2⟩
  go_wp2
  go_ret
  rw [HZ.out]
  exact ⟨rfl, hb1.thru hb2 (by omega)⟩
end Go.Proofs.YtnhjebdlcbhkcaeGreat

namespace Go.Proofs.YtnhjebdlcbhkcaeGreat
open Go.RowKit


theorem deedsAt_one {w : World} {d : Dd} {p q : Option Addr} {cp cq : Nat} (h : DdAt w d p q) (h1 : -9223372036854775808 ≤ d.many) (h2 : d.many ≤ 9223372036854775807) : DeedsAt (w.alloc (Obj.cells #[.int .i64 d.kind, .slice p d.rp.length cp, .int .i64 d.rc, .string d.rt, .slice q d.mp.length cq, .int .i64 d.mc, .int .i64 d.many] 64)) (some ⟨w.heap.size, 0, none⟩) [d] := by
  refine Or.inr ⟨w.heap.size, 0, rfl, by simp, fun i hi => ?_⟩
  have h0 : i = 0 := by simp at hi; omega
  subst h0
  exact ⟨p, cp, q, cq, by simp, by simp, by simp, by simp, by simp, by simp, by simp, h.below ((Below.refl _ _).alloc (Nat.le_refl _) _), h1, h2⟩

theorem cells_boxes3 (w : World) (a0 a1 u0 u1 : Value) (cs : Array Value) (T T' : TypeId) : (((w.alloc (Obj.cells #[a0, a1] T)).alloc (Obj.cells cs T')).alloc (Obj.cells #[u0, u1] T)).cell? ⟨w.heap.size + 1 + 1, 0, none⟩ = some u0 ∧ (((w.alloc (Obj.cells #[a0, a1] T)).alloc (Obj.cells cs T')).alloc (Obj.cells #[u0, u1] T)).cell? ⟨w.heap.size + 1 + 1, 1, none⟩ = some u1 := by
  constructor <;> go_simp

set_option maxRecDepth 100000 in
set_option maxHeartbeats 4000000 in
theorem stateDo_ok (a b : Option Addr) (cap cap' : Nat) (l : List At) (g : List Mk) (d : Dd) (p q : Option Addr) (cp cq : Nat) (w : World) (hl : l.length ≤ maxLen) (h : AtomsAt w a l) (h' : MarksAt w b g) (hd : DdAt w d p q) (h1 : -9223372036854775808 ≤ d.many) (h2 : d.many ≤ 9223372036854775807) :
    Calls Tryz.prog 47 #[.agg #[.slice a l.length cap, .slice b g.length cap'], ddV d p q cp cq] w fun e w' => Below w.heap.size w w' ∧ AllPost l g [d] w.heap.size e w' := by
  unfold ddV
  have hB := (((Below.refl w.heap.size w).alloc (Nat.le_refl _) (Obj.cells #[.slice a l.length cap, .slice b g.length cap'] 25)).alloc (by simp) (Obj.cells #[.int .i64 d.kind, .slice p d.rp.length cp, .int .i64 d.rc, .string d.rt, .slice q d.mp.length cq, .int .i64 d.mc, .int .i64 d.many] 64)).alloc (by simp; omega) (Obj.cells #[.slice none 0 0, .slice none 0 0] 25)
  have hz : (((w.alloc (Obj.cells #[.slice a l.length cap, .slice b g.length cap'] 25)).alloc (Obj.cells #[.int .i64 d.kind, .slice p d.rp.length cp, .int .i64 d.rc, .string d.rt, .slice q d.mp.length cq, .int .i64 d.mc, .int .i64 d.many] 64)).alloc (Obj.cells #[.slice none 0 0, .slice none 0 0] 25)).heap.size = w.heap.size + 3 := by simp
  obtain ⟨r0, r1⟩ := cells_boxes3 w (.slice a l.length cap) (.slice b g.length cap') (.slice none 0 0) (.slice none 0 0) #[.int .i64 d.kind, .slice p d.rp.length cp, .int .i64 d.rc, .string d.rt, .slice q d.mp.length cq, .int .i64 d.mc, .int .i64 d.many] 25 64
  have rf : ∀ o, (((w.alloc (Obj.cells #[.slice a l.length cap, .slice b g.length cap'] 25)).alloc (Obj.cells #[.int .i64 d.kind, .slice p d.rp.length cp, .int .i64 d.rc, .string d.rt, .slice q d.mp.length cq, .int .i64 d.mc, .int .i64 d.many] 64)).alloc (Obj.cells #[.slice none 0 0, .slice none 0 0] 25)).frozen? ⟨w.heap.size + 1 + 1, o, none⟩ = false := fun o => by go_simp
  replace h := h.below hB (Nat.le_refl _)
  replace h' := h'.below hB (Nat.le_refl _)
  replace hd := hd.below hB
  go_enter Tryz.func47, Tryz.ntmps47
  go_wp2_with fail
  generalize ((w.alloc (Obj.cells #[.slice a l.length cap, .slice b g.length cap'] 25)).alloc (Obj.cells #[.int .i64 d.kind, .slice p d.rp.length cp, .int .i64 d.rc, .string d.rt, .slice q d.mp.length cq, .int .i64 d.mc, .int .i64 d.many] 64)).alloc (Obj.cells #[.slice none 0 0, .slice none 0 0] 25) = W at hB hz r0 r1 rf h h' hd ⊢
  rw [← hz]
  have hbn := (Below.refl W.heap.size W).alloc (Nat.le_refl _) (Obj.cells #[.int .i64 d.kind, .slice p d.rp.length cp, .int .i64 d.rc, .string d.rt, .slice q d.mp.length cq, .int .i64 d.mc, .int .i64 d.many] 64)
  have hDs := deedsAt_one (cp := cp) (cq := cq) hd h1 h2
  have HAL := hidE (stateAll_ok a b _ cap cap' 1 l g [d] _ hl (by simp [maxLen]) (h.below hbn (Nat.le_refl _)) (h'.below hbn (Nat.le_refl _)) hDs)
  have zR : w.heap.size + 1 + 1 < (W.alloc (Obj.cells #[.int .i64 d.kind, .slice p d.rp.length cp, .int .i64 d.rc, .string d.rt, .slice q d.mp.length cq, .int .i64 d.mc, .int .i64 d.many] 64)).heap.size := by have := hbn.size; omega
  have hBn := hB.thru hbn (by omega)
  replace r0 := (hbn.cell (p := ⟨w.heap.size + 1 + 1, 0, none⟩) (by show w.heap.size + 1 + 1 < _; omega)).trans r0
  replace r1 := (hbn.cell (p := ⟨w.heap.size + 1 + 1, 1, none⟩) (by show w.heap.size + 1 + 1 < _; omega)).trans r1
  replace rf := fun o => (hbn.frozen (p := ⟨w.heap.size + 1 + 1, o, none⟩) (by show w.heap.size + 1 + 1 < _; omega)).trans (rf o)
  have hwW : w.heap.size ≤ (W.alloc (Obj.cells #[.int .i64 d.kind, .slice p d.rp.length cp, .int .i64 d.rc, .string d.rt, .slice q d.mp.length cq, .int .i64 d.mc, .int .i64 d.many] 64)).heap.size := by omega
  clear hDs hbn hB hd h h' hz h1 h2 hl
  generalize W.alloc (Obj.cells #[.int .i64 d.kind, .slice p d.rp.length cp, .int .i64 d.rc, .string d.rt, .slice q d.mp.length cq, .int .i64 d.mc, .int .i64 d.many] 64) = W2 at HAL zR hBn r0 r1 rf hwW ⊢
  refine HAL.out.mono ?_
  rintro e w2 ⟨hb2, hp⟩
  clear HAL
  replace r0 := (hb2.cell (p := ⟨w.heap.size + 1 + 1, 0, none⟩) zR).trans r0
  replace r1 := (hb2.cell (p := ⟨w.heap.size + 1 + 1, 1, none⟩) zR).trans r1
  replace rf := fun o => (hb2.frozen (p := ⟨w.heap.size + 1 + 1, o, none⟩) zR).trans (rf o)
  have hB2 := hBn.thru hb2 hwW
  clear hBn hb2
  rcases hp with ⟨hne, rfl⟩ | ⟨h0, l', g', p2, c2, q2, d2, hok, hda, hok', rfl, hP, hM⟩
  · have HNE := hidE hne
    clear hne
    go_wp2_with fail
    refine bodyPost_ret (v := .tuple #[.agg #[.slice none 0 0, .slice none 0 0], .int .i64 (errAll l g [d])]) (by simp [results, Tryz.results47, go_sem, r0, r1]) rfl ?_
    exact ⟨(hB2.setCell (by simp; omega) _).setCell (by simp; omega) _, Or.inl ⟨HNE.out, rfl⟩⟩
  · have H0 := hidE h0
    have HDA := hidE hda
    have HOK := hidE hok
    have HOK' := hidE hok'
    clear h0 hda hok hok'
    have s3 : (w2.setCell ⟨w.heap.size + 1 + 1, 0, none⟩ (.slice p2 l'.length c2)).cell? ⟨w.heap.size + 1 + 1, 1, none⟩ = some (.slice none 0 0) := (World.cell?_setCell_other _ _ _ _ (by simp)).trans r1
    go_wp2_with fail
    refine bodyPost_ret (v := .tuple #[.agg #[.slice p2 l'.length c2, .slice q2 g'.length d2], .int .i64 0]) (by simp [results, Tryz.results47, go_sem, r0, s3]) rfl ?_
    exact ⟨(hB2.setCell (by simp; omega) _).setCell (by simp; omega) _, Or.inr ⟨H0.out, l', g', p2, c2, q2, d2, HOK.out, HDA.out, HOK'.out, rfl, ((hP.setLow zR _ _).setLow zR _ _).mono hwW, ((hM.setLow zR _ _).setLow zR _ _).mono hwW⟩⟩
end Go.Proofs.YtnhjebdlcbhkcaeGreat
