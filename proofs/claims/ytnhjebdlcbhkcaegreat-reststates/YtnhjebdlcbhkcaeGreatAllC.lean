/- Contract of state.All. -/
import Derived.Test.YtnhjebdlcbhkcaeGreatDeedAt
namespace Go.Proofs.YtnhjebdlcbhkcaeGreat
open Go.RowKit

theorem owns_setLow {w : World} {base b size n : Nat} {e : TypeId} {v : Value} {xs : List Value} (hb : b < base) (o : Nat) (u : Value) (h : w.ownsRow base e size v n xs) : (w.setCell ⟨b, o, none⟩ u).ownsRow base e size v n xs := by
  refine ownsRow_setCell_other h ?_ u
  intro e1
  have := (h.lt b e1).1
  omega
theorem PickRow.setLow {w : World} {base b : Nat} {v : Value} {xs : List At} (h : PickRow w base v xs) (hb : b < base) (o : Nat) (u : Value) : PickRow (w.setCell ⟨b, o, none⟩ u) base v xs := by
  obtain ⟨rs, h1, h2, h3⟩ := h
  refine ⟨rs, h1, owns_setLow hb o u h2, fun i h h' => ?_⟩
  obtain ⟨g, cap, e, hown, h4⟩ := h3 i h h'
  exact ⟨g, cap, e, owns_setLow hb o u hown, h4⟩
theorem MkRow.setLow {w : World} {base b : Nat} {v : Value} {xs : List Mk} (h : MkRow w base v xs) (hb : b < base) (o : Nat) (u : Value) : MkRow (w.setCell ⟨b, o, none⟩ u) base v xs := by
  obtain ⟨rs, h1, h2, h3⟩ := h
  refine ⟨rs, h1, owns_setLow hb o u h2, fun i h h' => ?_⟩
  obtain ⟨g, cap, e, hown, h4⟩ := h3 i h h'
  exact ⟨g, cap, e, owns_setLow hb o u hown, h4⟩

def AllPost (l : List At) (g : List Mk) (ds : List Dd) (base : Nat) (e : Ending) (w' : World) : Prop :=
  (errAll l g ds ≠ 0 ∧ e = .returned (.tuple #[.agg #[.slice none 0 0, .slice none 0 0], .int .i64 (errAll l g ds)])) ∨
  (errAll l g ds = 0 ∧ ∃ l' g' p c q d, OkS l g ∧ doAll l g ds = some (l', g') ∧ OkS l' g' ∧ e = .returned (.tuple #[.agg #[.slice p (List.length l') c, .slice q (List.length g') d], .int .i64 0]) ∧ PickRow w' base (.slice p l'.length c) l' ∧ MkRow w' base (.slice q g'.length d) g')

set_option maxRecDepth 100000 in
set_option maxHeartbeats 8000000 in
theorem stateAll_ok (a b r : Option Addr) (cap cap' cr : Nat) (l : List At) (g : List Mk) (ds : List Dd) (w : World) (hl : l.length ≤ maxLen) (hn : ds.length ≤ maxLen) (h : AtomsAt w a l) (h' : MarksAt w b g) (hr : DeedsAt w r ds) :
    Calls Tryz.prog 16 #[.agg #[.slice a l.length cap, .slice b g.length cap'], .slice r ds.length cr] w fun e w' => Below w.heap.size w w' ∧ AllPost l g ds w.heap.size e w' := by
  have hB := ((Below.refl w.heap.size w).alloc (Nat.le_refl _) (Obj.cells #[.slice a l.length cap, .slice b g.length cap'] 25)).alloc (by simp) (Obj.cells #[.slice none 0 0, .slice none 0 0] 25)
  obtain ⟨q0, q1, r0, r1, hz, _⟩ := boxes2 w (.slice a l.length cap) (.slice b g.length cap') (.slice none 0 0) (.slice none 0 0) 25 25
  have rf : ∀ o, ((w.alloc (Obj.cells #[.slice a l.length cap, .slice b g.length cap'] 25)).alloc (Obj.cells #[.slice none 0 0, .slice none 0 0] 25)).frozen? ⟨w.heap.size + 1, o, none⟩ = false := fun o => by go_simp
  replace h := h.below hB (Nat.le_refl _)
  replace h' := h'.below hB (Nat.le_refl _)
  replace hr := hr.below hB
  have hn' : ds.length ≤ 9223372036854775807 := by unfold maxLen at hn; omega
  clear hn
  go_enter Tryz.func16, Tryz.ntmps16
  go_upto_region 1 with fail
  generalize (w.alloc (Obj.cells #[.slice a l.length cap, .slice b g.length cap'] 25)).alloc (Obj.cells #[.slice none 0 0, .slice none 0 0] 25) = W at hB q0 q1 r0 r1 rf hz h h' hr ⊢
  have z0 : w.heap.size < W.heap.size := by omega
  have z1 : w.heap.size + 1 < W.heap.size := by omega
  clear hz
  generalize hzz : w.heap.size = Z at hB q0 q1 r0 r1 rf z0 z1 ⊢
  have HZ := hidE hzz
  clear hzz
  have HSC := hidE (stateCheck_any a b cap cap' l g W hl h h')
  go_wp2_with fail
  refine HSC.out.mono ?_
  rintro e w1 ⟨rfl, hb⟩
  clear HSC
  have hZW := Nat.le_of_lt z0
  replace q0 := (hb.cell (p := ⟨Z, 0, none⟩) z0).trans q0
  replace q1 := (hb.cell (p := ⟨Z, 1, none⟩) z0).trans q1
  replace r0 := (hb.cell (p := ⟨Z + 1, 0, none⟩) z1).trans r0
  replace r1 := (hb.cell (p := ⟨Z + 1, 1, none⟩) z1).trans r1
  replace rf := fun o => (hb.frozen (p := ⟨Z + 1, o, none⟩) z1).trans (rf o)
  replace h := h.below hb (Nat.le_refl _)
  replace h' := h'.below hb (Nat.le_refl _)
  replace hr := hr.below hb
  replace hB := hB.thru hb hZW
  replace z0 := Nat.lt_of_lt_of_le z0 hb.size
  replace z1 := Nat.lt_of_lt_of_le z1 hb.size
  clear hb hZW
  by_cases hc : chkS l g = 0
  case neg =>
    have hcb : (chkS l g != 0) = true := by rw [bne_iff_ne]; exact hc
    have HA : Hid (errAll l g ds = chkS l g) := by show _ = _; unfold errAll; rw [if_pos hc]
    have HC := hidE hc
    clear hc
    go_wp2_with fail
    refine bodyPost_ret (v := .tuple #[.agg #[.slice none 0 0, .slice none 0 0], .int .i64 (chkS l g)]) (by simp [results, Tryz.results16, go_sem, r0, r1]) rfl ?_
    rw [HZ.out]
    exact ⟨(hB.setCell (by simp) _).setCell (by simp) _, Or.inl ⟨by rw [HA.out]; exact HC.out, by rw [HA.out]⟩⟩
  have HOK := hidE (okS_of hc)
  have HE1 : Hid (errAll l g ds = if chkDs ds ≠ 0 then chkDs ds else if (doAll l g ds).isSome then 0 else 2) := by show _ = _; unfold errAll; rw [if_neg (by simpa using hc)]
  rw [hc]
  clear hc
  go_wp2_with fail
  go_loopw [22] (fun i wr => ∃ k : Nat, k ≤ ds.length ∧ i = .int .i64 k ∧ chkDs (ds.drop k) = chkDs ds ∧ Below w1.heap.size w1 wr) (fun i _ => ds.length - (intOf i).toNat)
  case atStart => exact ⟨0, Nat.zero_le _, rfl, rfl, Below.refl _ _⟩
  case round =>
    obtain ⟨k, hk, rfl, hck, hb⟩ := hrel
    have HK := hidE hck
    clear hck
    have hB2 := hB.thru hb (Nat.le_of_lt z0)
    by_cases hlt : k < ds.length
    · rcases hr.below hb with hs | ⟨ab, ao, rfl, hab, hc⟩
      · simp [hs] at hlt
      have HCD := hidE (chkDs_drop hlt)
      obtain ⟨p, cp, q, cq, c0, c1, c2, c3, c4, c5, c6, hDd, hm1, hm2⟩ := hc k hlt
      have s0 := (hb.cell (p := ⟨Z + 1, 0, none⟩) z1).trans r0
      have s1 := (hb.cell (p := ⟨Z + 1, 1, none⟩) z1).trans r1
      have sf := fun o => (hb.frozen (p := ⟨Z + 1, o, none⟩) z1).trans (rf o)
      have y1 := Nat.lt_of_lt_of_le z1 hb.size
      have y0 := Nat.lt_of_lt_of_le z0 hb.size
      clear hc q0 q1 r0 r1 rf h h' hr z0 z1
      generalize ds[k] = d at *
      have hi1 : (k : Int) < ds.length := by omega
      go_upto_region 7 with fail
      have hbA : Below wr.heap.size wr (wr.alloc (Obj.cells #[.int .i64 d.kind, .slice p d.rp.length cp, .int .i64 d.rc, .string d.rt, .slice q d.mp.length cq, .int .i64 d.mc, .int .i64 d.many] 64)) := (Below.refl _ _).alloc (Nat.le_refl _) _
      have m0 : (wr.alloc (Obj.cells #[.int .i64 d.kind, .slice p d.rp.length cp, .int .i64 d.rc, .string d.rt, .slice q d.mp.length cq, .int .i64 d.mc, .int .i64 d.many] 64)).cell? ⟨wr.heap.size, 0, none⟩ = some (.int .i64 d.kind) := by simp
      have m1 : (wr.alloc (Obj.cells #[.int .i64 d.kind, .slice p d.rp.length cp, .int .i64 d.rc, .string d.rt, .slice q d.mp.length cq, .int .i64 d.mc, .int .i64 d.many] 64)).cell? ⟨wr.heap.size, 1, none⟩ = some (.slice p d.rp.length cp) := by simp
      have m2 : (wr.alloc (Obj.cells #[.int .i64 d.kind, .slice p d.rp.length cp, .int .i64 d.rc, .string d.rt, .slice q d.mp.length cq, .int .i64 d.mc, .int .i64 d.many] 64)).cell? ⟨wr.heap.size, 2, none⟩ = some (.int .i64 d.rc) := by simp
      have m3 : (wr.alloc (Obj.cells #[.int .i64 d.kind, .slice p d.rp.length cp, .int .i64 d.rc, .string d.rt, .slice q d.mp.length cq, .int .i64 d.mc, .int .i64 d.many] 64)).cell? ⟨wr.heap.size, 3, none⟩ = some (.string d.rt) := by simp
      have m4 : (wr.alloc (Obj.cells #[.int .i64 d.kind, .slice p d.rp.length cp, .int .i64 d.rc, .string d.rt, .slice q d.mp.length cq, .int .i64 d.mc, .int .i64 d.many] 64)).cell? ⟨wr.heap.size, 4, none⟩ = some (.slice q d.mp.length cq) := by simp
      have m5 : (wr.alloc (Obj.cells #[.int .i64 d.kind, .slice p d.rp.length cp, .int .i64 d.rc, .string d.rt, .slice q d.mp.length cq, .int .i64 d.mc, .int .i64 d.many] 64)).cell? ⟨wr.heap.size, 5, none⟩ = some (.int .i64 d.mc) := by simp
      have m6 : (wr.alloc (Obj.cells #[.int .i64 d.kind, .slice p d.rp.length cp, .int .i64 d.rc, .string d.rt, .slice q d.mp.length cq, .int .i64 d.mc, .int .i64 d.many] 64)).cell? ⟨wr.heap.size, 6, none⟩ = some (.int .i64 d.many) := by simp
      have zA : wr.heap.size < (wr.alloc (Obj.cells #[.int .i64 d.kind, .slice p d.rp.length cp, .int .i64 d.rc, .string d.rt, .slice q d.mp.length cq, .int .i64 d.mc, .int .i64 d.many] 64)).heap.size := by simp
      have HDE := hidE (deed_any d p q cp cq _ (hDd.below hbA) hm1 hm2)
      unfold ddV at HDE
      clear c0 c1 c2 c3 c4 c5 c6 hDd hab
      have hbn := hb.thru hbA hb.size
      have hBn := hB2.thru hbA (Nat.le_of_lt y0)
      replace s0 := (hbA.cell (p := ⟨Z + 1, 0, none⟩) y1).trans s0
      replace s1 := (hbA.cell (p := ⟨Z + 1, 1, none⟩) y1).trans s1
      replace sf := fun o => (hbA.frozen (p := ⟨Z + 1, o, none⟩) y1).trans (sf o)
      replace y1 := Nat.lt_of_lt_of_le y1 hbA.size
      replace y0 := Nat.lt_of_lt_of_le y0 hbA.size
      generalize wr.alloc (Obj.cells #[.int .i64 d.kind, .slice p d.rp.length cp, .int .i64 d.rc, .string d.rt, .slice q d.mp.length cq, .int .i64 d.mc, .int .i64 d.many] 64) = wA at hbA m0 m1 m2 m3 m4 m5 m6 zA HDE hbn hBn s0 s1 sf y0 y1 ⊢
      generalize wr.heap.size = Y at m0 m1 m2 m3 m4 m5 m6 zA ⊢
      clear hbA hb hB2
      go_wp2_with fail
      refine HDE.out.mono ?_
      rintro e w2 ⟨rfl, hb2⟩
      replace s0 := (hb2.cell (p := ⟨Z + 1, 0, none⟩) y1).trans s0
      replace s1 := (hb2.cell (p := ⟨Z + 1, 1, none⟩) y1).trans s1
      replace sf := fun o => (hb2.frozen (p := ⟨Z + 1, o, none⟩) y1).trans (sf o)
      replace hbn := hbn.thru hb2 hbn.size
      replace hBn := hBn.thru hb2 (Nat.le_of_lt y0)
      clear HDE m0 m1 m2 m3 m4 m5 m6 hb2
      by_cases hd0 : chkD d = 0
      · have HN : Hid (chkDs (ds.drop (k + 1)) = chkDs ds) := by show _ = _; rw [← HK.out, HCD.out, if_neg (by simpa using hd0)]
        rw [hd0]
        clear hd0
        go_wp2_with fail
        go_roundw
        case rel => exact ⟨k + 1, by omega, by go_num, HN.out, hbn⟩
        case measure => simp [intOf]; omega
      · have hcb : (chkD d != 0) = true := by rw [bne_iff_ne]; exact hd0
        have HE2 : Hid (errAll l g ds = chkD d) := by
          show _ = _
          have e2 : chkDs ds = chkD d := by rw [← HK.out, HCD.out, if_pos hd0]
          rw [HE1.out, e2, if_pos hd0]
        have HD0 := hidE hd0
        clear hd0
        go_wp2_with fail
        refine bodyPost_ret (v := .tuple #[.agg #[.slice none 0 0, .slice none 0 0], .int .i64 (chkD d)]) (by simp [results, Tryz.results16, go_sem, s0, s1]) rfl ?_
        rw [HZ.out]
        exact ⟨(hBn.setCell (by simp) _).setCell (by simp) _, Or.inl ⟨by rw [HE2.out]; exact HD0.out, by rw [HE2.out]⟩⟩
    · have HC0 : Hid (chkDs ds = 0) := by show _ = _; rw [← HK.out, List.drop_eq_nil_of_le (by omega)]; rfl
      have HE3 : Hid (errAll l g ds = if (doAll l g ds).isSome then 0 else 2) := by show _ = _; rw [HE1.out, if_neg (by rw [HC0.out]; decide)]
      have HDC := hidE (chkDs_all HC0.out)
      clear HK HC0 HE1
      have p0 := (hb.cell (p := ⟨Z, 0, none⟩) z0).trans q0
      have p1 := (hb.cell (p := ⟨Z, 1, none⟩) z0).trans q1
      have HOF := hidE (doerOf_ok a b cap cap' l g wr HOK.out (h.below hb (Nat.le_refl _)) (h'.below hb (Nat.le_refl _)))
      replace r0 := (hb.cell (p := ⟨Z + 1, 0, none⟩) z1).trans r0
      replace r1 := (hb.cell (p := ⟨Z + 1, 1, none⟩) z1).trans r1
      replace rf := fun o => (hb.frozen (p := ⟨Z + 1, o, none⟩) z1).trans (rf o)
      replace z0 := Nat.lt_of_lt_of_le z0 hb.size
      replace z1 := Nat.lt_of_lt_of_le z1 hb.size
      replace hr := hr.below hb
      clear hb hB h h' q0 q1
      go_wp2_with fail
      refine HOF.out.mono ?_
      rintro e w3 ⟨D, vA, vG, rfl, hD, hb3⟩
      clear HOF p0 p1
      have hZr := Nat.le_of_lt z0
      obtain ⟨wS, hwS⟩ : ∃ x, x = wr := ⟨_, rfl⟩
      subst hwS
      have HB0 := hidE hB2
      have HDK : Hid (doAll l g (ds.take 0) = some (l, g)) := rfl
      clear hB2 hlt hk
      have hdle := hD.le
      go_wp2_with fail
      go_loopw [37] (fun i wq => ∃ j : Nat, j ≤ ds.length ∧ i = .int .i64 j ∧ ∃ l1 g1 vA1 vG1, doAll l g (ds.take j) = some (l1, g1) ∧ OkS l1 g1 ∧ DoerAt wq wS.heap.size D vA1 vG1 l1 g1 ∧ Below wS.heap.size wS wq) (fun i _ => ds.length - (intOf i).toNat)
      case atStart => exact ⟨0, Nat.zero_le _, rfl, l, g, vA, vG, HDK.out, HOK.out, hD, hb3⟩
      case round =>
        clear hD hb3
        obtain ⟨j, hj, rfl, l1, g1, vA1, vG1, hda, hok1, hD, hb⟩ := hrel
        have HDL := hidE hda
        have HO1 := hidE hok1
        clear hda hok1
        have hBq := HB0.out.thru hb hZr
        have s0 := (hb.cell (p := ⟨Z + 1, 0, none⟩) z1).trans r0
        have s1 := (hb.cell (p := ⟨Z + 1, 1, none⟩) z1).trans r1
        have sf := fun o => (hb.frozen (p := ⟨Z + 1, o, none⟩) z1).trans (rf o)
        have y1 := Nat.lt_of_lt_of_le z1 hb.size
        have y0 := Nat.lt_of_lt_of_le z0 hb.size
        by_cases hlt : j < ds.length
        · rcases hr.below hb with hs | ⟨ab, ao, rfl, hab, hc⟩
          · simp [hs] at hlt
          have HSN := hidE (doAll_snoc (l := l) (g := g) hlt)
          have HCD := hidE (HDC.out _ (List.getElem_mem hlt))
          obtain ⟨p, cp, q, cq, c0, c1, c2, c3, c4, c5, c6, hDd, hm1, hm2⟩ := hc j hlt
          clear hc r0 r1 rf hr
          generalize ds[j] = d at *
          have hi1 : (j : Int) < ds.length := by omega
          go_upto_region 15 with fail
          have hbA : Below wr.heap.size wr (wr.alloc (Obj.cells #[.int .i64 d.kind, .slice p d.rp.length cp, .int .i64 d.rc, .string d.rt, .slice q d.mp.length cq, .int .i64 d.mc, .int .i64 d.many] 64)) := (Below.refl _ _).alloc (Nat.le_refl _) _
          have m0 : (wr.alloc (Obj.cells #[.int .i64 d.kind, .slice p d.rp.length cp, .int .i64 d.rc, .string d.rt, .slice q d.mp.length cq, .int .i64 d.mc, .int .i64 d.many] 64)).cell? ⟨wr.heap.size, 0, none⟩ = some (.int .i64 d.kind) := by simp
          have m1 : (wr.alloc (Obj.cells #[.int .i64 d.kind, .slice p d.rp.length cp, .int .i64 d.rc, .string d.rt, .slice q d.mp.length cq, .int .i64 d.mc, .int .i64 d.many] 64)).cell? ⟨wr.heap.size, 1, none⟩ = some (.slice p d.rp.length cp) := by simp
          have m2 : (wr.alloc (Obj.cells #[.int .i64 d.kind, .slice p d.rp.length cp, .int .i64 d.rc, .string d.rt, .slice q d.mp.length cq, .int .i64 d.mc, .int .i64 d.many] 64)).cell? ⟨wr.heap.size, 2, none⟩ = some (.int .i64 d.rc) := by simp
          have m3 : (wr.alloc (Obj.cells #[.int .i64 d.kind, .slice p d.rp.length cp, .int .i64 d.rc, .string d.rt, .slice q d.mp.length cq, .int .i64 d.mc, .int .i64 d.many] 64)).cell? ⟨wr.heap.size, 3, none⟩ = some (.string d.rt) := by simp
          have m4 : (wr.alloc (Obj.cells #[.int .i64 d.kind, .slice p d.rp.length cp, .int .i64 d.rc, .string d.rt, .slice q d.mp.length cq, .int .i64 d.mc, .int .i64 d.many] 64)).cell? ⟨wr.heap.size, 4, none⟩ = some (.slice q d.mp.length cq) := by simp
          have m5 : (wr.alloc (Obj.cells #[.int .i64 d.kind, .slice p d.rp.length cp, .int .i64 d.rc, .string d.rt, .slice q d.mp.length cq, .int .i64 d.mc, .int .i64 d.many] 64)).cell? ⟨wr.heap.size, 5, none⟩ = some (.int .i64 d.mc) := by simp
          have m6 : (wr.alloc (Obj.cells #[.int .i64 d.kind, .slice p d.rp.length cp, .int .i64 d.rc, .string d.rt, .slice q d.mp.length cq, .int .i64 d.mc, .int .i64 d.many] 64)).cell? ⟨wr.heap.size, 6, none⟩ = some (.int .i64 d.many) := by simp
          have HDO := hidE (doerDo_ok wS.heap.size D vA1 vG1 l1 g1 d p q cp cq _ (hD.below hbA) HO1.out (hDd.below hbA) HCD.out)
          unfold ddV at HDO
          clear c0 c1 c2 c3 c4 c5 c6 hDd hab hD
          have hbn := hb.thru hbA hb.size
          replace s0 := (hbA.cell (p := ⟨Z + 1, 0, none⟩) y1).trans s0
          replace s1 := (hbA.cell (p := ⟨Z + 1, 1, none⟩) y1).trans s1
          replace sf := fun o => (hbA.frozen (p := ⟨Z + 1, o, none⟩) y1).trans (sf o)
          generalize wr.alloc (Obj.cells #[.int .i64 d.kind, .slice p d.rp.length cp, .int .i64 d.rc, .string d.rt, .slice q d.mp.length cq, .int .i64 d.mc, .int .i64 d.many] 64) = wA at hbA m0 m1 m2 m3 m4 m5 m6 HDO hbn s0 s1 sf ⊢
          generalize wr.heap.size = Y at m0 m1 m2 m3 m4 m5 m6 ⊢
          clear hbA hb hBq
          go_wp2_with fail
          refine HDO.out.mono ?_
          rintro e w2 ⟨hb2, hcs⟩
          replace s0 := (hb2.cell (p := ⟨Z + 1, 0, none⟩) z1).trans s0
          replace s1 := (hb2.cell (p := ⟨Z + 1, 1, none⟩) z1).trans s1
          replace sf := fun o => (hb2.frozen (p := ⟨Z + 1, o, none⟩) z1).trans (sf o)
          replace hbn := hbn.trans hb2
          clear HDO m0 m1 m2 m3 m4 m5 m6 hb2
          rcases hcs with ⟨hno, rfl⟩ | ⟨l2, g2, hso, rfl, vA2, vG2, hD2⟩
          · have HE4 : Hid (errAll l g ds = 2) := by
              show _ = _
              have e1 : doAll l g (ds.take (j + 1)) = none := by rw [HSN.out, HDL.out]; exact hno
              rw [HE3.out, doAll_none e1]; rfl
            clear hno
            have hBn := HB0.out.thru hbn hZr
            go_wp2_with fail
            refine bodyPost_ret (v := .tuple #[.agg #[.slice none 0 0, .slice none 0 0], .int .i64 2]) (by simp [results, Tryz.results16, go_sem, s0, s1]) rfl ?_
            rw [HZ.out]
            exact ⟨(hBn.setCell (by simp) _).setCell (by simp) _, Or.inl ⟨by rw [HE4.out]; decide, by rw [HE4.out]⟩⟩
          · have HSO := hidE hso
            clear hso
            go_wp2_with fail
            go_roundw
            case rel => exact ⟨j + 1, by omega, by go_num, l2, g2, vA2, vG2, by rw [HSN.out, HDL.out]; exact HSO.out, doD_ok HO1.out HCD.out HSO.out, hD2, hbn⟩
            case measure => simp [intOf]; omega
        · have hje : j = ds.length := by omega
          subst hje
          rw [List.take_length] at HDL
          have HE4 : Hid (errAll l g ds = 0) := by show _ = _; rw [HE3.out, HDL.out]; rfl
          obtain ⟨va, ca, hva, _, _⟩ := hD.atoms.owns.atoms (Below.refl _ _)
          subst hva
          obtain ⟨pg, cg, hvG, _, _, _⟩ := hD.gone.marks
          subst hvG
          have d0 := hD.c0
          have d1 := hD.c1
          have HD := hidE hD
          clear hD hr
          have s3 : (wr.setCell ⟨Z + 1, 0, none⟩ (.slice va l1.length ca)).cell? ⟨Z + 1, 1, none⟩ = some (.slice none 0 0) := (World.cell?_setCell_other _ _ _ _ (by simp)).trans s1
          go_wp2_with fail
          refine bodyPost_ret (v := .tuple #[.agg #[.slice va l1.length ca, .slice pg g1.length cg], .int .i64 0]) (by simp [results, Tryz.results16, go_sem, s0, s3]) rfl ?_
          rw [HZ.out]
          exact ⟨(hBq.setCell (by simp) _).setCell (by simp) _, Or.inr ⟨HE4.out, l1, g1, va, ca, pg, cg, HOK.out, HDL.out, HO1.out, rfl, ((HD.out.atoms.setLow z1 _ _).setLow z1 _ _).mono hZr, ((HD.out.gone.setLow z1 _ _).setLow z1 _ _).mono hZr⟩⟩
end Go.Proofs.YtnhjebdlcbhkcaeGreat
