/- Contract of the reference's AllOf. -/
import Derived.Test.YtlpfnpkmgkbngabDoOf
import Derived.Test.YtlpfnpkmgkbngabStateCkR
import Derived.Test.YtlpfnpkmgkbngabAnyPu
import Derived.Test.YtlpfnpkmgkbngabBoxS
import Derived.Test.YtlpfnpkmgkbngabDoD
namespace Go.Proofs.Ytlpfnpkmgkbngab
open Go.RowKit

/-- what AllOf answers -/
def AllR (l : List At) (g : List Mk) (ds : List Dd) (e : Ending) (w' : World) : Prop :=
  (errAll l g ds ≠ 0 ∧ e = .returned (.tuple #[.agg #[.slice none 0 0, .slice none 0 0], .int .i64 (errAll l g ds)])) ∨
  (errAll l g ds = 0 ∧ ∃ l' g' p c q d, doAll l g ds = some (l', g') ∧ OkS l' g' ∧ e = .returned (.tuple #[.agg #[.slice p (List.length l') c, .slice q (List.length g') d], .int .i64 0]) ∧ AtomsAt w' p l' ∧ MarksAt w' q g')

/-- the first error of deeds, as far as they were looked at -/
theorem chkDs_take {ds : List Dd} {k : Nat} (hk : k < ds.length) (h : chkDs (ds.take k) = 0) : chkDs (ds.take (k + 1)) = chkD ds[k] := by
  induction ds generalizing k with
  | nil => simp at hk
  | cons d ds ih =>
    cases k with
    | zero => by_cases e : chkD d = 0 <;> simp [chkDs, e]
    | succ k =>
      rw [List.take_succ_cons] at h ⊢
      by_cases e : chkD d = 0
      · simp only [chkDs, e, ne_eq, not_true_eq_false, if_false] at h ⊢
        simpa using ih (by simpa using hk) h
      · simp [chkDs, e] at h
theorem chkDs_stop {ds : List Dd} {k : Nat} (h : chkDs (ds.take k) ≠ 0) : chkDs ds = chkDs (ds.take k) := by
  induction ds generalizing k with
  | nil => simp
  | cons d ds ih =>
    cases k with
    | zero => simp [chkDs] at h
    | succ k =>
      rw [List.take_succ_cons] at h ⊢
      by_cases e : chkD d = 0
      · simp only [chkDs, e, ne_eq, not_true_eq_false, if_false] at h ⊢
        exact ih h
      · simp [chkDs, e]

set_option maxRecDepth 100000 in
set_option maxHeartbeats 4000000 in
theorem allOf_ok (a b r : Option Addr) (cap cap' cr : Nat) (l : List At) (g : List Mk) (ds : List Dd) (w : World) (hl : l.length ≤ maxLen) (hn : ds.length ≤ maxLen) (h : AtomsAt w a l) (h' : MarksAt w b g) (hr : DeedsAt w r ds) :
    Calls Try.prog 26 #[.agg #[.slice a l.length cap, .slice b g.length cap'], .slice r ds.length cr] w fun e w' => Below w.heap.size w w' ∧ AllR l g ds e w' := by
  have hB := ((Below.refl w.heap.size w).alloc (Nat.le_refl _) (Obj.cells #[.slice a l.length cap, .slice b g.length cap'] 51)).alloc (by simp) (Obj.cells #[.slice none 0 0, .slice none 0 0] 51)
  obtain ⟨q0, q1, r0, r1, hz, hb0⟩ := boxes2 w (.slice a l.length cap) (.slice b g.length cap') (.slice none 0 0) (.slice none 0 0) 51 51
  clear hb0
  have rf : ∀ o, ((w.alloc (Obj.cells #[.slice a l.length cap, .slice b g.length cap'] 51)).alloc (Obj.cells #[.slice none 0 0, .slice none 0 0] 51)).frozen? ⟨w.heap.size + 1, o, none⟩ = false := fun o => by go_simp
  have hx : ((w.alloc (Obj.cells #[.slice a l.length cap, .slice b g.length cap'] 51)).alloc (Obj.cells #[.slice none 0 0, .slice none 0 0] 51)).heap[w.heap.size + 1]? = some (Obj.cells #[.slice none 0 0, .slice none 0 0] 51) := by
    have := alloc_top (w.alloc (Obj.cells #[.slice a l.length cap, .slice b g.length cap'] 51)) (Obj.cells #[.slice none 0 0, .slice none 0 0] 51)
    simpa using this
  replace h := h.below hB (Nat.le_refl _)
  replace h' := h'.below hB (Nat.le_refl _)
  replace hr := hr.below hB
  have hn' : ds.length ≤ 9223372036854775807 := by unfold maxLen at hn; omega
  go_enter Try.func26, Try.ntmps26
  go_upto_region 1 with fail
  generalize (w.alloc (Obj.cells #[.slice a l.length cap, .slice b g.length cap'] 51)).alloc (Obj.cells #[.slice none 0 0, .slice none 0 0] 51) = W at hB q0 q1 r0 r1 hz rf hx h h' hr ⊢
  generalize hzz : w.heap.size = Z at *
  have HZ := hidE hzz
  have HX := hidE hx
  clear hzz hx
  have HCS := hidE (checkState_any a b cap cap' l g W hl h h')
  go_wp2_with fail
  refine HCS.out.mono ?_
  rintro e w1 ⟨rfl, hb⟩
  clear HCS
  replace q0 := (hb.cell (p := ⟨Z, 0, none⟩) (by show Z < _; omega)).trans q0
  replace q1 := (hb.cell (p := ⟨Z, 1, none⟩) (by show Z < _; omega)).trans q1
  replace r0 := (hb.cell (p := ⟨Z + 1, 0, none⟩) (by show Z + 1 < _; omega)).trans r0
  replace r1 := (hb.cell (p := ⟨Z + 1, 1, none⟩) (by show Z + 1 < _; omega)).trans r1
  replace rf := fun o => (hb.frozen (p := ⟨Z + 1, o, none⟩) (by show Z + 1 < _; omega)).trans (rf o)
  replace h := h.below hb (Nat.le_refl _)
  replace h' := h'.below hb (Nat.le_refl _)
  replace hr := hr.below hb
  replace hB := hB.thru hb (by omega)
  have z1 : Z + 1 < w1.heap.size := by have := hb.size; omega
  replace HX := hidE ((hb.block (Z + 1) (by omega)).trans HX.out)
  clear hb hz
  by_cases hcs : chkS l g = 0
  · rw [hcs]
    go_wp2_with fail
    go_loopw [6, 7] (fun er i wr => ∃ k : Nat, k ≤ ds.length ∧ i = .int .i64 k ∧ er = .int .i64 (chkDs (ds.take k)) ∧ Below w1.heap.size w1 wr) (fun _ i _ => ds.length - (intOf i).toNat)
    case atStart => exact ⟨0, Nat.zero_le _, rfl, rfl, Below.refl _ _⟩
    case round =>
      obtain ⟨k, hk, rfl, rfl, hb⟩ := hrel
      replace q0 := (hb.cell (p := ⟨Z, 0, none⟩) (by show Z < _; omega)).trans q0
      replace q1 := (hb.cell (p := ⟨Z, 1, none⟩) (by show Z < _; omega)).trans q1
      replace r0 := (hb.cell (p := ⟨Z + 1, 0, none⟩) z1).trans r0
      replace r1 := (hb.cell (p := ⟨Z + 1, 1, none⟩) z1).trans r1
      replace rf := fun o => (hb.frozen (p := ⟨Z + 1, o, none⟩) z1).trans (rf o)
      replace h := h.below hb (Nat.le_refl _)
      replace h' := h'.below hb (Nat.le_refl _)
      replace hr := hr.below hb
      by_cases hce : chkDs (ds.take k) = 0
      · by_cases hlt : k < ds.length
        · have HTK := hidE (chkDs_take hlt hce)
          rw [hce]
          clear hce
          rcases hr with hs | ⟨ab, ao, rfl, hab, hc⟩
          · simp [hs] at hlt
          obtain ⟨pp, cp, qq, cq, c0, c1, c2, c3, c4, c5, c6, hDd, hm1, hm2⟩ := hc k hlt
          have HCD := hidE (checkDeed_any ds[k] pp qq cp cq wr hDd hm1 hm2)
          unfold ddV at HCD
          clear hc hDd hm1 hm2
          generalize ds[k] = dd at *
          have hi1 : (k : Int) < ds.length := by omega
          go_wp2_with fail
          refine HCD.out.mono ?_
          rintro e w2 ⟨rfl, hb2⟩
          clear HCD
          go_wp2_with fail
          go_roundw
          case rel => exact ⟨k + 1, by omega, by go_num, by rw [HTK.out], hb.thru hb2 hb.size⟩
          case measure => simp [intOf]; omega
        · have hke : ds.length = k := by omega
          subst hke
          rw [List.take_length] at hce ⊢
          have HDC := hidE (chkDs_all hce)
          have HOK := hidE (okS_of hcs)
          have HDO := hidE (doOf_ok a b r cap cap' cr l g ds wr HOK.out HDC.out hn h h' hr)
          have HE0 : Hid (∀ x, doAll l g ds = some x → errAll l g ds = 0) := fun x e => by unfold errAll; rw [hcs, hce, e]; rfl
          have HE2 : Hid (doAll l g ds = none → errAll l g ds = 2) := fun e => by unfold errAll; rw [hcs, hce, e]; rfl
          replace hB := hB.thru hb (by omega)
          have zz : Z + 1 < wr.heap.size := by have := hb.size; omega
          replace HX := hidE ((hb.block (Z + 1) z1).trans HX.out)
          rw [hce]
          clear hce hcs hb h h' hr hn hk hlt
          go_wp2_with fail
          refine HDO.out.mono ?_
          rintro e w2 ⟨hb2, hp⟩
          clear HDO
          replace r0 := (hb2.cell (p := ⟨Z + 1, 0, none⟩) zz).trans r0
          replace r1 := (hb2.cell (p := ⟨Z + 1, 1, none⟩) zz).trans r1
          replace rf := fun o => (hb2.frozen (p := ⟨Z + 1, o, none⟩) zz).trans (rf o)
          replace hB := hB.thru hb2 (by omega)
          replace HX := hidE ((hb2.block (Z + 1) zz).trans HX.out)
          replace zz := Nat.lt_of_lt_of_le zz hb2.size
          clear hb2 q0 q1
          rcases hp with ⟨hnn, rfl⟩ | ⟨l', g', p, c, q, d, hda, rfl, hat, hmk⟩
          · have HER := hidE (HE2.out hnn)
            clear hnn HE0 HE2
            have hbn := (Below.refl w2.heap.size w2).alloc (Nat.le_refl _) (Obj.cells #[.slice none 0 0, .slice none 0 0] 51)
            replace r0 := (hbn.cell (p := ⟨Z + 1, 0, none⟩) zz).trans r0
            replace r1 := (hbn.cell (p := ⟨Z + 1, 1, none⟩) zz).trans r1
            replace rf := fun o => (hbn.frozen (p := ⟨Z + 1, o, none⟩) zz).trans (rf o)
            replace hB := hB.thru hbn (by omega)
            go_upto_region 9 with fail
            generalize w2.alloc (Obj.cells #[.slice none 0 0, .slice none 0 0] 51) = w3 at hbn r0 r1 rf hB ⊢
            clear hbn
            go_wp2_with fail
            refine bodyPost_ret (v := .tuple #[.agg #[.slice none 0 0, .slice none 0 0], .int .i64 2]) (by simp [results, Try.results26, go_sem, r0, r1]) rfl ?_
            rw [HZ.out]
            exact ⟨(hB.setCell (by simp) _).setCell (by simp) _, Or.inl ⟨by rw [HER.out]; decide, by rw [HER.out]⟩⟩
          · have HER := hidE (HE0.out _ hda)
            have HDA := hidE hda
            clear hda HE0 HE2
            have HO2 := hidE (doAll_facts HOK.out HDC.out HDA.out)
            have hbn := (Below.refl w2.heap.size w2).alloc (Nat.le_refl _) (Obj.cells #[.slice p l'.length c, .slice q g'.length d] 51)
            have t0 : (w2.alloc (Obj.cells #[.slice p l'.length c, .slice q g'.length d] 51)).cell? ⟨w2.heap.size, 0, none⟩ = some (.slice p l'.length c) := by simp
            have t1 : (w2.alloc (Obj.cells #[.slice p l'.length c, .slice q g'.length d] 51)).cell? ⟨w2.heap.size, 1, none⟩ = some (.slice q g'.length d) := by simp
            replace r0 := (hbn.cell (p := ⟨Z + 1, 0, none⟩) zz).trans r0
            replace r1 := (hbn.cell (p := ⟨Z + 1, 1, none⟩) zz).trans r1
            replace rf := fun o => (hbn.frozen (p := ⟨Z + 1, o, none⟩) zz).trans (rf o)
            replace hB := hB.thru hbn (by omega)
            replace hat := hat.below hbn (Nat.le_refl _)
            replace hmk := hmk.below hbn (Nat.le_refl _)
            replace HX := hidE ((hbn.block (Z + 1) zz).trans HX.out)
            go_upto_region 9 with fail
            generalize w2.alloc (Obj.cells #[.slice p l'.length c, .slice q g'.length d] 51) = w3 at hbn r0 r1 rf hB t0 t1 hat hmk HX ⊢
            generalize w2.heap.size = T at t0 t1 zz ⊢
            clear hbn
            have s3 : (w3.setCell ⟨Z + 1, 0, none⟩ (.slice p l'.length c)).cell? ⟨Z + 1, 1, none⟩ = some (.slice none 0 0) := (World.cell?_setCell_other _ _ _ _ (by simp)).trans r1
            have HX1 := hidE (BoxOf.of HX.out)
            have HX2 : Hid (BoxOf (w3.setCell ⟨Z + 1, 0, none⟩ (.slice p l'.length c)) (Z + 1)) := BoxOf.of (T := 51) (a := p) (n := l'.length) (c := c) (b := none) (m := 0) (d := 0) (by simp [World.setCell, Array.getElem?_modify, HX.out])
            go_wp2_with fail
            refine bodyPost_ret (v := .tuple #[.agg #[.slice p l'.length c, .slice q g'.length d], .int .i64 0]) (by simp [results, Try.results26, go_sem, r0, s3]) rfl ?_
            rw [HZ.out]
            exact ⟨(hB.setCell (by simp) _).setCell (by simp) _, Or.inr ⟨HER.out, l', g', p, c, q, d, HDA.out, HO2.out.2.2, rfl, (hat.setBox HX1.out).setBox HX2.out, (hmk.setBox HX1.out).setBox HX2.out⟩⟩
      · have HST := hidE (chkDs_stop hce)
        have HER : Hid (errAll l g ds = chkDs (ds.take k)) := by show _ = _; unfold errAll; rw [hcs, HST.out, if_neg (by simp), if_pos hce]
        replace hB := hB.thru hb (by omega)
        clear h h' hr hcs HST
        generalize chkDs (ds.take k) = er at *
        have hcb : (er == 0) = false := by rw [beq_eq_false_iff_ne]; exact hce
        have hcn : (er != 0) = true := by rw [bne_iff_ne]; exact hce
        have HNE := hidE hce
        clear hce
        by_cases hlt : (k : Int) < ds.length
        · go_wp2_with fail
          refine bodyPost_ret (v := .tuple #[.agg #[.slice none 0 0, .slice none 0 0], .int .i64 er]) (by simp [results, Try.results26, go_sem, r0, r1]) rfl ?_
          rw [HZ.out]
          exact ⟨(hB.setCell (by simp) _).setCell (by simp) _, Or.inl ⟨by rw [HER.out]; exact HNE.out, by rw [HER.out]⟩⟩
        · go_wp2_with fail
          refine bodyPost_ret (v := .tuple #[.agg #[.slice none 0 0, .slice none 0 0], .int .i64 er]) (by simp [results, Try.results26, go_sem, r0, r1]) rfl ?_
          rw [HZ.out]
          exact ⟨(hB.setCell (by simp) _).setCell (by simp) _, Or.inl ⟨by rw [HER.out]; exact HNE.out, by rw [HER.out]⟩⟩
  · have HER : Hid (errAll l g ds = chkS l g) := by show _ = _; unfold errAll; rw [if_pos hcs]
    clear h h' hr hn
    generalize chkS l g = er at *
    have hcb : (er == 0) = false := by rw [beq_eq_false_iff_ne]; exact hcs
    have hcn : (er != 0) = true := by rw [bne_iff_ne]; exact hcs
    have HNE := hidE hcs
    clear hcs
    go_wp2_with fail
    go_loopw [6, 7] (fun x i wr => x = .int .i64 er ∧ i = .int .i64 0 ∧ wr = w1) (fun _ _ _ => 0)
    case atStart => exact ⟨rfl, rfl, rfl⟩
    case round =>
      obtain ⟨rfl, rfl, rfl⟩ := hrel
      by_cases hlt : 0 < ds.length
      · go_wp2_with fail
        refine bodyPost_ret (v := .tuple #[.agg #[.slice none 0 0, .slice none 0 0], .int .i64 er]) (by simp [results, Try.results26, go_sem, r0, r1]) rfl ?_
        rw [HZ.out]
        exact ⟨(hB.setCell (by simp) _).setCell (by simp) _, Or.inl ⟨by rw [HER.out]; exact HNE.out, by rw [HER.out]⟩⟩
      · go_wp2_with fail
        refine bodyPost_ret (v := .tuple #[.agg #[.slice none 0 0, .slice none 0 0], .int .i64 er]) (by simp [results, Try.results26, go_sem, r0, r1]) rfl ?_
        rw [HZ.out]
        exact ⟨(hB.setCell (by simp) _).setCell (by simp) _, Or.inl ⟨by rw [HER.out]; exact HNE.out, by rw [HER.out]⟩⟩
end Go.Proofs.Ytlpfnpkmgkbngab

namespace Go.Proofs.Ytlpfnpkmgkbngab
open Go.RowKit

set_option maxRecDepth 100000 in
set_option maxHeartbeats 1000000 in
theorem stateIs_err (er : Int) (a b : Option Addr) (n m ca cb : Nat) (w : World) (her : er ≠ 0) :
    Calls Try.prog 32 #[.agg #[.slice none 0 0, .slice none 0 0], .int .i64 er, .int .i64 er, .agg #[.slice a n ca, .slice b m cb]] w fun e w' => e = .returned (.bool true) ∧ Below w.heap.size w w' := by
  obtain ⟨q0, q1, q3, q4, hz, hb1⟩ := boxes2 w (.slice none 0 0) (.slice none 0 0) (.slice a n ca) (.slice b m cb) 51 51
  have rf : ∀ o, ((w.alloc (Obj.cells #[.slice none 0 0, .slice none 0 0] 51)).alloc (Obj.cells #[.slice a n ca, .slice b m cb] 51)).frozen? ⟨w.heap.size + 1, o, none⟩ = false := fun o => by go_simp
  have hcb : (er != 0) = true := by rw [bne_iff_ne]; exact her
  clear her
  go_enter Try.func32, Try.ntmps32
  go_upto_region 1 with fail
  generalize (w.alloc (Obj.cells #[.slice none 0 0, .slice none 0 0] 51)).alloc (Obj.cells #[.slice a n ca, .slice b m cb] 51) = W at q0 q1 q3 q4 hz hb1 rf ⊢
  generalize hzz : w.heap.size = Z at *
  have HZ := hidE hzz
  clear hzz
  have s3 : (W.setCell ⟨Z + 1, 0, none⟩ (.slice none 0 0)).cell? ⟨Z + 1, 1, none⟩ = some (.slice b m cb) := (World.cell?_setCell_other _ _ _ _ (by simp)).trans q4
  have hB2 := (hb1.setCell (p := ⟨Z + 1, 0, none⟩) (by simp) (.slice none 0 0)).setCell (p := ⟨Z + 1, 1, none⟩) (by simp) (.slice none 0 0)
  have y0 : ((W.setCell ⟨Z + 1, 0, none⟩ (.slice none 0 0)).setCell ⟨Z + 1, 1, none⟩ (.slice none 0 0)).cell? ⟨Z, 0, none⟩ = some (.slice none 0 0) := (World.cell?_setCell_other _ _ _ _ (by simp)).trans ((World.cell?_setCell_other _ _ _ _ (by simp)).trans q0)
  have y1 : ((W.setCell ⟨Z + 1, 0, none⟩ (.slice none 0 0)).setCell ⟨Z + 1, 1, none⟩ (.slice none 0 0)).cell? ⟨Z, 1, none⟩ = some (.slice none 0 0) := (World.cell?_setCell_other _ _ _ _ (by simp)).trans ((World.cell?_setCell_other _ _ _ _ (by simp)).trans q1)
  have y2 : ((W.setCell ⟨Z + 1, 0, none⟩ (.slice none 0 0)).setCell ⟨Z + 1, 1, none⟩ (.slice none 0 0)).cell? ⟨Z + 1, 0, none⟩ = some (.slice none 0 0) := (World.cell?_setCell_other _ _ _ _ (by simp)).trans (World.cell?_setCell_same _ _ _ q3)
  have y3 : ((W.setCell ⟨Z + 1, 0, none⟩ (.slice none 0 0)).setCell ⟨Z + 1, 1, none⟩ (.slice none 0 0)).cell? ⟨Z + 1, 1, none⟩ = some (.slice none 0 0) := World.cell?_setCell_same _ _ _ s3
  have hzX : Z ≤ ((W.setCell ⟨Z + 1, 0, none⟩ (.slice none 0 0)).setCell ⟨Z + 1, 1, none⟩ (.slice none 0 0)).heap.size := by simp [World.setCell]; omega
  go_upto_region 3 with fail
  generalize (W.setCell ⟨Z + 1, 0, none⟩ (.slice none 0 0)).setCell ⟨Z + 1, 1, none⟩ (.slice none 0 0) = X at hB2 y0 y1 y2 y3 hzX ⊢
  have HS := hidE (sameState_same none none none none 0 0 0 0 [] [] X (by simp) (by simp) (Or.inl rfl) (Or.inl rfl) (Or.inl rfl) (Or.inl rfl))
  clear q0 q1 q3 q4 hb1 rf s3
  go_wp2_with fail
  refine HS.out.mono ?_
  rintro e w2 ⟨rfl, hb2⟩
  go_wp2
  go_ret
  rw [HZ.out]
  exact ⟨rfl, hB2.thru hb2 hzX⟩

set_option maxRecDepth 100000 in
set_option maxHeartbeats 1000000 in
theorem stateIs_ok (a a' b b' : Option Addr) (ca ca' cb cb' : Nat) (l : List At) (g : List Mk) (w : World) (hl : l.length ≤ maxLen) (hg : g.length ≤ maxLen) (h1 : AtomsAt w a l) (h2 : AtomsAt w a' l) (h3 : MarksAt w b g) (h4 : MarksAt w b' g) :
    Calls Try.prog 32 #[.agg #[.slice a l.length ca, .slice b g.length cb], .int .i64 0, .int .i64 0, .agg #[.slice a' l.length ca', .slice b' g.length cb']] w fun e w' => e = .returned (.bool true) ∧ Below w.heap.size w w' := by
  obtain ⟨q0, q1, q3, q4, hz, hb1⟩ := boxes2 w (.slice a l.length ca) (.slice b g.length cb) (.slice a' l.length ca') (.slice b' g.length cb') 51 51
  have HS := hidE (sameState_same a a' b b' ca ca' cb cb' l g _ hl hg (h1.below hb1 (Nat.le_refl _)) (h2.below hb1 (Nat.le_refl _)) (h3.below hb1 (Nat.le_refl _)) (h4.below hb1 (Nat.le_refl _)))
  clear h1 h2 h3 h4 hl hg
  go_enter Try.func32, Try.ntmps32
  go_upto_region 1 with fail
  generalize (w.alloc (Obj.cells #[.slice a l.length ca, .slice b g.length cb] 51)).alloc (Obj.cells #[.slice a' l.length ca', .slice b' g.length cb'] 51) = W at q0 q1 q3 q4 hz hb1 HS ⊢
  generalize hzz : w.heap.size = Z at *
  have HZ := hidE hzz
  clear hzz
  go_upto_region 3 with fail
  go_wp2_with fail
  refine HS.out.mono ?_
  rintro e w2 ⟨rfl, hb2⟩
  go_wp2
  go_ret
  rw [HZ.out]
  exact ⟨rfl, hb1.thru hb2 (by omega)⟩
end Go.Proofs.Ytlpfnpkmgkbngab
