/- Contract of wire's reader: deeds. -/
import Derived.Test.YtnhjebdlcbhkcadRdMark
namespace Go.Proofs.Ytnhjebdlcbhkcad
open Go.RowKit

/-- a deed with where its paths lie -/
structure RD where
  d : Dd
  p : Option Addr
  q : Option Addr
  cp : Nat
  cq : Nat
def RD.cells (r : RD) : List Value := [.int .i64 r.d.kind, .slice r.p r.d.rp.length r.cp, .int .i64 r.d.rc, .string r.d.rt, .slice r.q r.d.mp.length r.cq, .int .i64 r.d.mc, .int .i64 r.d.many]
/-- its paths are the call's own -/
structure DdOwn (w : World) (base : Nat) (r : RD) : Prop where
  run : w.ownsRow base 110 2 (.slice r.p r.d.rp.length r.cp) r.d.rp.length (flatS r.d.rp)
  mark : w.ownsRow base 110 2 (.slice r.q r.d.mp.length r.cq) r.d.mp.length (flatS r.d.mp)
  rl : r.d.rp.length ≤ 255
  ml : r.d.mp.length ≤ 255
  tl : r.d.rt.size ≤ 255
  n0 : 0 ≤ r.d.many
  n1 : r.d.many ≤ 255

theorem DdOwn.stays (R : Nat) : Stays 98 R DdOwn :=
  ⟨fun _ _ _ _ h hR hg => ⟨h.run.kept hg (Or.inr (own_apart h.run hR)), h.mark.kept hg (Or.inr (own_apart h.mark hR)), h.rl, h.ml, h.tl, h.n0, h.n1⟩,
   fun _ _ _ _ _ _ _ _ h ho hg => ⟨h.run.kept hg (types_apart h.run ho (by decide)), h.mark.kept hg (types_apart h.mark ho (by decide)), h.rl, h.ml, h.tl, h.n0, h.n1⟩⟩

/-- what a deed that is read is -/
def DeedGives (w : World) (R : Nat) (s : ByteArray) (e : Bool) (r : Ending) (w' : World) : Prop :=
  ∃ (x : RD) (s' : ByteArray) (e' : Bool), r = .returned (ddV x.d x.p x.q x.cp x.cq) ∧ DdOwn w' w.heap.size x ∧ RdSt w' R s' e' ∧ Rd pD s.data.toList e x.d s'.data.toList e' ∧ s'.size ≤ s.size ∧ w.grownBy w' (some R)

abbrev zeroD : Array Value := #[.int .i64 0, .slice none 0 0, .int .i64 0, .string ⟨#[]⟩, .slice none 0 0, .int .i64 0, .int .i64 0]

/-- seven cells, filled -/
def put7 (w : World) (N : Nat) (a b c d e f g : Value) : World := ((((((w.setCell ⟨N, 0, none⟩ a).setCell ⟨N, 1, none⟩ b).setCell ⟨N, 2, none⟩ c).setCell ⟨N, 3, none⟩ d).setCell ⟨N, 4, none⟩ e).setCell ⟨N, 5, none⟩ f).setCell ⟨N, 6, none⟩ g
theorem fill7 {w : World} {N : Nat} {t : TypeId} (h : Blk w N zeroD t) (a b c d e f g : Value) : Blk (put7 w N a b c d e f g) N #[a, b, c, d, e, f, g] t ∧ w.grownBy (put7 w N a b c d e f g) (some N) := by
  refine ⟨((((((h.set 0 a).set 1 b).set 2 c).set 3 d).set 4 e).set 5 f).set 6 g, ?_⟩
  unfold put7
  exact ((((((grownBy_set' w N 0 a).trans (grownBy_set' _ N 1 b)).trans (grownBy_set' _ N 2 c)).trans (grownBy_set' _ N 3 d)).trans (grownBy_set' _ N 4 e)).trans (grownBy_set' _ N 5 f)).trans (grownBy_set' _ N 6 g)

set_option maxRecDepth 100000 in
set_option maxHeartbeats 4000000 in
theorem rdDeed_ok (R : Nat) (s : ByteArray) (e : Bool) (w : World) (h : RdSt w R s e) (hs : s.size ≤ maxLen) :
    Calls Try.prog 105 #[.pointer (some ⟨R, 0, none⟩)] w (DeedGives w R s e) := by
  have hRw := h.lt
  have hA := alloc_below w (Obj.cells zeroD 98)
  have hN := Blk.new w zeroD 98
  have hS := h.alloc (Obj.cells zeroD 98)
  have nNR : w.heap.size ≠ R := by omega
  clear h
  go_enter Try.func105, Try.ntmps105
  go_upto_region 1 with fail
  generalize w.alloc (Obj.cells zeroD 98) = W at *
  have H1 := hidE (rdOne_ok R s e W hS hs)
  have HN := hidE hN
  have HG := hidE (grownBy_none hA (row := some R))
  have hNw := hN.lt
  clear hN hS hA
  go_upto_region 2 with (go_at_call 99; refine H1.out.mono ?_; rintro r w1 ⟨k, s1, e1, rfl, hS, hR, k0, k1, hsz, hg⟩)
  have hA := alloc_below w1 (Obj.cells #[.int .i64 k, .slice none 0 0, .int .i64 0, .string ⟨#[]⟩, .slice none 0 0, .int .i64 0, .int .i64 0] 98)
  have hM := Blk.new w1 #[.int .i64 k, .slice none 0 0, .int .i64 0, .string ⟨#[]⟩, .slice none 0 0, .int .i64 0, .int .i64 0] 98
  have hN1 := (HN.out.grown hg (fun q => nNR (by simpa using q))).below hA (HN.out.grown hg (fun q => nNR (by simpa using q))).lt
  have hS1 := hS.below hA hS.lt
  have HG1 := hidE ((HG.out.trans hg).trans (grownBy_none hA (row := some R)))
  have HR1 := hidE hR
  have hsw := hg.size
  generalize w1.alloc (Obj.cells #[.int .i64 k, .slice none 0 0, .int .i64 0, .string ⟨#[]⟩, .slice none 0 0, .int .i64 0, .int .i64 0] 98) = W2 at *
  have hMN : w.heap.size < w1.heap.size := by omega
  have nMR : w1.heap.size ≠ R := by omega
  clear hA hS hR hg H1 HN HG hsw
  generalize w1.heap.size = M at *
  have q0 := hM.is 0 rfl
  have HM := hidE hM
  have HN1 := hidE hN1
  have hMlt := hM.lt
  by_cases hk1 : k = 1
  · subst hk1
    have H5 := hidE (rdMark_ok R s1 e1 W2 hS1 (by omega))
    clear hM hN1 hS1
    go_wp2_with fail
    refine H5.out.mono ?_
    rintro r w3 ⟨p, cap, l, c, s3, e3, rfl, hO, hl, hS, hR, hsz3, hg⟩
    have hM3 := HM.out.grown hg (fun q => nMR (by simpa using q))
    have hN3 := HN1.out.grown hg (fun q => nNR (by simpa using q))
    have m1 := hM3.is 1 rfl
    have m2 := hM3.is 2 rfl
    have fm := hM3.frozen
    have hM4 : Blk ((w3.setCell ⟨M, 1, none⟩ (.slice p l.length cap)).setCell ⟨M, 2, none⟩ (.int .i64 c)) M #[.int .i64 1, .slice p l.length cap, .int .i64 c, .string ⟨#[]⟩, .slice none 0 0, .int .i64 0, .int .i64 0] 98 := (hM3.set 1 _).set 2 _
    have hGM := (grownBy_set' w3 M 1 (.slice p l.length cap)).trans (grownBy_set' _ M 2 (.int .i64 c))
    have hN4 := hN3.grown hGM (fun q => by simp at q; omega)
    have hS4 := hS.grown hGM (fun q => nMR (by simpa using q.symm))
    have hO4 := hO.kept hGM (Or.inr (own_apart hO hMlt))
    have HG4 := hidE (grownBy_new (HG1.out.trans hg) hGM (by omega))
    have HR4 := hidE hR
    have hW23 := hg.size
    have hwW2 := HG1.out.size
    clear hO hS hR hg hM3 hN3 hGM H5 HG1 HM HN1
    have HLe := hidE hl
    clear hl
    generalize hX : l.length = ln at *
    go_upto_region 6 with fail
    generalize (w3.setCell ⟨M, 1, none⟩ (.slice p ln cap)).setCell ⟨M, 2, none⟩ (.int .i64 c) = W4 at *
    have H6 := hidE (rdText_ok R s3 e3 W4 hS4 (by omega))
    have HM4 := hidE hM4
    have HN4 := hidE hN4
    have HO4 := hidE hO4
    clear hM4 hN4 hS4 m1 m2 fm q0 hO4
    go_wp2_with fail
    refine H6.out.mono ?_
    rintro r w5 ⟨t, s5, e5, rfl, ht, hS, hR, hsz5, hg⟩
    have hM5 := HM4.out.grown hg (fun q => nMR (by simpa using q))
    have hN5 := HN4.out.grown hg (fun q => nNR (by simpa using q))
    have hO5 := HO4.out.kept hg (Or.inr (own_apart HO4.out (by omega)))
    have m3 := hM5.is 3 rfl
    have fm := hM5.frozen
    have hM9 : Blk (w5.setCell ⟨M, 3, none⟩ (.string t)) M #[.int .i64 1, .slice p ln cap, .int .i64 c, .string t, .slice none 0 0, .int .i64 0, .int .i64 0] 98 := hM5.set 3 _
    have hGM := grownBy_set' w5 M 3 (.string t)
    have hN6 := hN5.grown hGM (fun q => by simp at q; omega)
    have hS9 := hS.grown hGM (fun q => nMR (by simpa using q.symm))
    have hO6 := hO5.kept hGM (Or.inr (own_apart hO5 hMlt))
    have HG9 := hidE (grownBy_new (HG4.out.trans hg) hGM (by omega))
    have HR9 := hidE (HR1.out.deed1 HR4.out hR)
    clear hO5 hS hR hg hM5 hN5 hGM H6 HG4 HR4 HR1 HM4 HN4 HO4
    go_upto_region 10 with fail
    generalize w5.setCell ⟨M, 3, none⟩ (.string t) = W9 at *
    clear m3 fm
    have hN9 := hN6
    have x0 := hM9.is 0 rfl
    have x1 := hM9.is 1 rfl
    have x2 := hM9.is 2 rfl
    have x3 := hM9.is 3 rfl
    have x4 := hM9.is 4 rfl
    have x5 := hM9.is 5 rfl
    have x6 := hM9.is 6 rfl
    have y0 := hN9.is 0 rfl
    have y1 := hN9.is 1 rfl
    have y2 := hN9.is 2 rfl
    have y3 := hN9.is 3 rfl
    have y4 := hN9.is 4 rfl
    have y5 := hN9.is 5 rfl
    have y6 := hN9.is 6 rfl
    have fy := hN9.frozen
    obtain ⟨hF, hGF⟩ := fill7 hN9 (.int .i64 1) (.slice p ln cap) (.int .i64 c) (.string t) (.slice none 0 0) (.int .i64 0) (.int .i64 0)
    have HOF := hidE (show DdOwn (put7 W9 w.heap.size (.int .i64 1) (.slice p ln cap) (.int .i64 c) (.string t) (.slice none 0 0) (.int .i64 0) (.int .i64 0)) w.heap.size (⟨⟨1, l, c, t, [], 0, 0⟩, p, none, cap, 0⟩ : RD) from ⟨by rw [← hX] at hO6; exact (owns_base hO6 hwW2).kept hGF (Or.inr (own_apart hO6 (by omega))), World.ownsRow_nil _ _ _ _, by have h9 := HLe.out; show l.length ≤ 255; omega, Nat.zero_le _, ht, Int.le_refl _, show (0 : Int) ≤ 255 by decide⟩)
    have HSF := hidE (hS9.grown hGF (fun q => nNR (by simpa using q.symm)))
    have HGF := hidE (grownBy_new HG9.out hGF (Nat.le_refl _))
    unfold put7 at hF
    have HF := hidE hF
    clear hF hGF hM9 hN9 hS9 hN6 hO6
    go_wp2_with fail
    have k0 := HF.out.is 0 rfl
    have k1 := HF.out.is 1 rfl
    have k2 := HF.out.is 2 rfl
    have k3 := HF.out.is 3 rfl
    have k4 := HF.out.is 4 rfl
    have k5 := HF.out.is 5 rfl
    have k6 := HF.out.is 6 rfl
    refine bodyPost_ret (v := .agg #[.int .i64 1, .slice p ln cap, .int .i64 c, .string t, .slice none 0 0, .int .i64 0, .int .i64 0]) (by simp [results, Try.results105, go_sem, k0, k1, k2, k3, k4, k5, k6]) rfl ⟨(⟨⟨1, l, c, t, [], 0, 0⟩, p, none, cap, 0⟩ : RD), _, _, by rw [← hX]; rfl, HOF.out, HSF.out, HR9.out, by omega, HGF.out⟩
  · by_cases hk2 : k = 2
    · subst hk2
      have H5 := hidE (rdMark_ok R s1 e1 W2 hS1 (by omega))
      clear hM hN1 hS1
      go_wp2_with fail
      refine H5.out.mono ?_
      rintro r w3 ⟨p, cap, l, c, s3, e3, rfl, hO, hl, hS, hR, hsz3, hg⟩
      have hM3 := HM.out.grown hg (fun q => nMR (by simpa using q))
      have hN3 := HN1.out.grown hg (fun q => nNR (by simpa using q))
      have m1 := hM3.is 4 rfl
      have m2 := hM3.is 5 rfl
      have fm := hM3.frozen
      have hM4 : Blk ((w3.setCell ⟨M, 4, none⟩ (.slice p l.length cap)).setCell ⟨M, 5, none⟩ (.int .i64 c)) M #[.int .i64 2, .slice none 0 0, .int .i64 0, .string ⟨#[]⟩, .slice p l.length cap, .int .i64 c, .int .i64 0] 98 := (hM3.set 4 _).set 5 _
      have hGM := (grownBy_set' w3 M 4 (.slice p l.length cap)).trans (grownBy_set' _ M 5 (.int .i64 c))
      have hN4 := hN3.grown hGM (fun q => by simp at q; omega)
      have hS4 := hS.grown hGM (fun q => nMR (by simpa using q.symm))
      have hO4 := hO.kept hGM (Or.inr (own_apart hO hMlt))
      have HG4 := hidE (grownBy_new (HG1.out.trans hg) hGM (by omega))
      have HR4 := hidE hR
      have hwW2 := HG1.out.size
      clear hO hS hR hg hM3 hN3 hGM H5 HG1 HM HN1
      have HLe := hidE hl
      clear hl
      generalize hX : l.length = ln at *
      go_upto_region 9 with fail
      generalize (w3.setCell ⟨M, 4, none⟩ (.slice p ln cap)).setCell ⟨M, 5, none⟩ (.int .i64 c) = W4 at *
      have H6 := hidE (rdOne_ok R s3 e3 W4 hS4 (by omega))
      have HM4 := hidE hM4
      have HN4 := hidE hN4
      have HO4 := hidE hO4
      clear hM4 hN4 hS4 m1 m2 fm q0 hO4
      go_wp2_with fail
      refine H6.out.mono ?_
      rintro r w5 ⟨t, s5, e5, rfl, hS, hR, t0, t1, hsz5, hg⟩
      have hM5 := HM4.out.grown hg (fun q => nMR (by simpa using q))
      have hN5 := HN4.out.grown hg (fun q => nNR (by simpa using q))
      have hO5 := HO4.out.kept hg (Or.inr (own_apart HO4.out (by omega)))
      have m3 := hM5.is 6 rfl
      have fm := hM5.frozen
      have hM9 : Blk (w5.setCell ⟨M, 6, none⟩ (.int .i64 t)) M #[.int .i64 2, .slice none 0 0, .int .i64 0, .string ⟨#[]⟩, .slice p ln cap, .int .i64 c, .int .i64 t] 98 := hM5.set 6 _
      have hGM := grownBy_set' w5 M 6 (.int .i64 t)
      have hN6 := hN5.grown hGM (fun q => by simp at q; omega)
      have hS9 := hS.grown hGM (fun q => nMR (by simpa using q.symm))
      have hO6 := hO5.kept hGM (Or.inr (own_apart hO5 hMlt))
      have HG9 := hidE (grownBy_new (HG4.out.trans hg) hGM (by omega))
      have HR9 := hidE (HR1.out.deed2 HR4.out hR)
      clear hO5 hS hR hg hM5 hN5 hGM H6 HG4 HR4 HR1 HM4 HN4 HO4
      go_upto_region 10 with fail
      generalize w5.setCell ⟨M, 6, none⟩ (.int .i64 t) = W9 at *
      clear m3 fm
      have hN9 := hN6
      have x0 := hM9.is 0 rfl
      have x1 := hM9.is 1 rfl
      have x2 := hM9.is 2 rfl
      have x3 := hM9.is 3 rfl
      have x4 := hM9.is 4 rfl
      have x5 := hM9.is 5 rfl
      have x6 := hM9.is 6 rfl
      have y0 := hN9.is 0 rfl
      have y1 := hN9.is 1 rfl
      have y2 := hN9.is 2 rfl
      have y3 := hN9.is 3 rfl
      have y4 := hN9.is 4 rfl
      have y5 := hN9.is 5 rfl
      have y6 := hN9.is 6 rfl
      have fy := hN9.frozen
      obtain ⟨hF, hGF⟩ := fill7 hN9 (.int .i64 2) (.slice none 0 0) (.int .i64 0) (.string ⟨#[]⟩) (.slice p ln cap) (.int .i64 c) (.int .i64 t)
      have HOF := hidE (show DdOwn (put7 W9 w.heap.size (.int .i64 2) (.slice none 0 0) (.int .i64 0) (.string ⟨#[]⟩) (.slice p ln cap) (.int .i64 c) (.int .i64 t)) w.heap.size (⟨⟨2, [], 0, ⟨#[]⟩, l, c, t⟩, none, p, 0, cap⟩ : RD) from ⟨World.ownsRow_nil _ _ _ _, by rw [← hX] at hO6; exact (owns_base hO6 hwW2).kept hGF (Or.inr (own_apart hO6 (by omega))), Nat.zero_le _, by have h9 := HLe.out; show l.length ≤ 255; omega, Nat.zero_le _, t0, t1⟩)
      have HSF := hidE (hS9.grown hGF (fun q => nNR (by simpa using q.symm)))
      have HGF := hidE (grownBy_new HG9.out hGF (Nat.le_refl _))
      unfold put7 at hF
      have HF := hidE hF
      clear hF hGF hM9 hN9 hS9 hN6 hO6
      go_wp2_with fail
      have k0 := HF.out.is 0 rfl
      have k1 := HF.out.is 1 rfl
      have k2 := HF.out.is 2 rfl
      have k3 := HF.out.is 3 rfl
      have k4 := HF.out.is 4 rfl
      have k5 := HF.out.is 5 rfl
      have k6 := HF.out.is 6 rfl
      refine bodyPost_ret (v := .agg #[.int .i64 2, .slice none 0 0, .int .i64 0, .string ⟨#[]⟩, .slice p ln cap, .int .i64 c, .int .i64 t]) (by simp [results, Try.results105, go_sem, k0, k1, k2, k3, k4, k5, k6]) rfl ⟨(⟨⟨2, [], 0, ⟨#[]⟩, l, c, t⟩, none, p, 0, cap⟩ : RD), _, _, by rw [← hX]; rfl, HOF.out, HSF.out, HR9.out, by omega, HGF.out⟩
    · have hke1 : (k == 1) = false := by rw [beq_eq_false_iff_ne]; exact hk1
      have hke2 : (k == 2) = false := by rw [beq_eq_false_iff_ne]; exact hk2
      have hS9 : RdSt (W2.setCell ⟨R, 1, none⟩ (.bool true)) R s1 true := hS1.set 1 (.bool true)
      have hGR := grownBy_set' W2 R 1 (.bool true)
      have hM9 := HM.out.grown hGR (fun q => nMR (by simpa using q))
      have hN9' := HN1.out.grown hGR (fun q => nNR (by simpa using q))
      have r1 := hS1.is 1 rfl
      have fr := hS1.frozen
      have HG9 := hidE (HG1.out.trans hGR)
      clear hS1 hM hN1 hGR HG1 HM HN1
      go_upto_region 10 with fail
      generalize W2.setCell ⟨R, 1, none⟩ (.bool true) = W9 at *
      clear r1 fr q0
      have hN9 := hN9'
      have x0 := hM9.is 0 rfl
      have x1 := hM9.is 1 rfl
      have x2 := hM9.is 2 rfl
      have x3 := hM9.is 3 rfl
      have x4 := hM9.is 4 rfl
      have x5 := hM9.is 5 rfl
      have x6 := hM9.is 6 rfl
      have y0 := hN9.is 0 rfl
      have y1 := hN9.is 1 rfl
      have y2 := hN9.is 2 rfl
      have y3 := hN9.is 3 rfl
      have y4 := hN9.is 4 rfl
      have y5 := hN9.is 5 rfl
      have y6 := hN9.is 6 rfl
      have fy := hN9.frozen
      obtain ⟨hF, hGF⟩ := fill7 hN9 (.int .i64 k) (.slice none 0 0) (.int .i64 0) (.string ⟨#[]⟩) (.slice none 0 0) (.int .i64 0) (.int .i64 0)
      have HOF := hidE (show DdOwn (put7 W9 w.heap.size (.int .i64 k) (.slice none 0 0) (.int .i64 0) (.string ⟨#[]⟩) (.slice none 0 0) (.int .i64 0) (.int .i64 0)) w.heap.size (⟨⟨k, [], 0, ⟨#[]⟩, [], 0, 0⟩, none, none, 0, 0⟩ : RD) from ⟨World.ownsRow_nil _ _ _ _, World.ownsRow_nil _ _ _ _, Nat.zero_le _, Nat.zero_le _, Nat.zero_le _, Int.le_refl _, show (0 : Int) ≤ 255 by decide⟩)
      have HSF := hidE (hS9.grown hGF (fun q => nNR (by simpa using q.symm)))
      have HGF := hidE (grownBy_new HG9.out hGF (Nat.le_refl _))
      unfold put7 at hF
      have HF := hidE hF
      clear hF hGF hM9 hN9 hS9 hN9'
      go_wp2_with fail
      have k0 := HF.out.is 0 rfl
      have k1 := HF.out.is 1 rfl
      have k2 := HF.out.is 2 rfl
      have k3 := HF.out.is 3 rfl
      have k4 := HF.out.is 4 rfl
      have k5 := HF.out.is 5 rfl
      have k6 := HF.out.is 6 rfl
      refine bodyPost_ret (v := .agg #[.int .i64 k, .slice none 0 0, .int .i64 0, .string ⟨#[]⟩, .slice none 0 0, .int .i64 0, .int .i64 0]) (by simp [results, Try.results105, go_sem, k0, k1, k2, k3, k4, k5, k6]) rfl ⟨(⟨⟨k, [], 0, ⟨#[]⟩, [], 0, 0⟩, none, none, 0, 0⟩ : RD), _, _, rfl, HOF.out, HSF.out, HR1.out.deed0 hk1 hk2, by omega, HGF.out⟩
end Go.Proofs.Ytnhjebdlcbhkcad
