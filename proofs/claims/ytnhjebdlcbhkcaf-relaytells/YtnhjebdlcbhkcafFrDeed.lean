/- Contract of fresh's deed. -/
import Derived.Test.YtnhjebdlcbhkcafFrMk
import Derived.Test.YtnhjebdlcbhkcafRdListD
import Derived.Test.YtnhjebdlcbhkcafIntsC
namespace Go.Proofs.Ytnhjebdlcbhkcaf
open Go.RowKit

/-- a deed small enough -/
structure DdSmall (d : Dd) : Prop where
  rl : d.rp.length ≤ 255
  ml : d.mp.length ≤ 255
  tl : d.rt.size ≤ 255
  n0 : 0 ≤ d.many
  n1 : d.many ≤ 255

/-- a copy of a deed -/
def DdFresh (d : Dd) (w : World) (e : Ending) (w' : World) : Prop :=
  ∃ (p q : Option Addr) (cp cq : Nat), e = .returned (ddV d p q cp cq) ∧ DdOwn w' w.heap.size ⟨d, p, q, cp, cq⟩ ∧ Below w.heap.size w w'

set_option maxRecDepth 100000 in
set_option maxHeartbeats 4000000 in
theorem frDeed_ok (d : Dd) (p q : Option Addr) (cp cq : Nat) (w : World) (h : DdAt w d p q) (hd : DdSmall d) :
    Calls Try.prog 27 #[ddV d p q cp cq] w (DdFresh d w) := by
  obtain ⟨hrl, hml, htl, hn0, hn1⟩ := hd
  obtain ⟨kind, rp, rc, rt, mp, mc, many⟩ := d
  simp only at hrl hml htl hn0 hn1
  have hA := (alloc_below w (Obj.cells #[.int .i64 kind, .slice p rp.length cp, .int .i64 rc, .string rt, .slice q mp.length cq, .int .i64 mc, .int .i64 many] 54))
  have hN := (Blk.new w #[.int .i64 kind, .slice p rp.length cp, .int .i64 rc, .string rt, .slice q mp.length cq, .int .i64 mc, .int .i64 many] 54)
  have hNlt := hN.lt
  have hA2 := alloc_below (w.alloc (Obj.cells #[.int .i64 kind, .slice p rp.length cp, .int .i64 rc, .string rt, .slice q mp.length cq, .int .i64 mc, .int .i64 many] 54)) (Obj.cells zeroD 54)
  have hM := Blk.new (w.alloc (Obj.cells #[.int .i64 kind, .slice p rp.length cp, .int .i64 rc, .string rt, .slice q mp.length cq, .int .i64 mc, .int .i64 many] 54)) zeroD 54
  have hN2 := hN.alloc (Obj.cells zeroD 54)
  have hs : (w.alloc (Obj.cells #[.int .i64 kind, .slice p rp.length cp, .int .i64 rc, .string rt, .slice q mp.length cq, .int .i64 mc, .int .i64 many] 54)).heap.size = w.heap.size + 1 := by simp
  have hB := hA.thru hA2 hA.size
  rw [hs] at hM
  have hR := (show DdAt w ⟨kind, rp, rc, rt, mp, mc, many⟩ p q from h).below hB
  have HW := hidE h
  clear h hA hA2 hN hNlt hs
  unfold ddV
  go_enter Try.func27, Try.ntmps27
  go_upto_region 1 with fail
  generalize (w.alloc (Obj.cells #[.int .i64 kind, .slice p rp.length cp, .int .i64 rc, .string rt, .slice q mp.length cq, .int .i64 mc, .int .i64 many] 54)).alloc (Obj.cells zeroD 54) = W at *
  have c0 := hN2.is 0 rfl
  have c1 := hN2.is 1 rfl
  have c2 := hN2.is 2 rfl
  have HN2 := hidE hN2
  have HM := hidE hM
  have HB := hidE hB
  have HR := hidE hR
  have hMW := hM.lt
  have H1 := hidE (frMark_ok p cp rp rc W (by omega) hR.run)
  clear hN2 hM hB hR
  go_upto_region 2 with (go_at_call 40; refine H1.out.mono ?_; rintro r w1 ⟨g, cg, rfl, hO, hb⟩; have c1' := (HN2.out.thruB hb).is 1 rfl; have c2' := (HN2.out.thruB hb).is 2 rfl; have cf' := (HN2.out.thruB hb).frozen)
  have hN3 := HN2.out.thruB hb
  have hN4 : Blk ((w1.setCell ⟨w.heap.size, 1, none⟩ (.slice g rp.length cg)).setCell ⟨w.heap.size, 2, none⟩ (.int .i64 rc)) w.heap.size #[.int .i64 kind, .slice g rp.length cg, .int .i64 rc, .string rt, .slice q mp.length cq, .int .i64 mc, .int .i64 many] 54 := (hN3.set 1 _).set 2 _
  have hGN := (grownBy_set' w1 w.heap.size 1 (.slice g rp.length cg)).trans (grownBy_set' _ w.heap.size 2 (.int .i64 rc))
  have hM4 := (HM.out.thruB hb).grown hGN (fun e => by simp at e)
  have hO4 := hO.kept hGN (Or.inr (own_apart hO (by omega)))
  have hB4 : Below w.heap.size w ((w1.setCell ⟨w.heap.size, 1, none⟩ (.slice g rp.length cg)).setCell ⟨w.heap.size, 2, none⟩ (.int .i64 rc)) := ((HB.out.thru hb HB.out.size).setCell (by simp) _).setCell (by simp) _
  have hs4 : W.heap.size ≤ ((w1.setCell ⟨w.heap.size, 1, none⟩ (.slice g rp.length cg)).setCell ⟨w.heap.size, 2, none⟩ (.int .i64 rc)).heap.size := by
    have := hb.size
    simpa using this
  have hm4 := HW.out.mark.below hB4 (Nat.le_refl _)
  clear c0 c1 c2 c1' c2' cf' hO hN3 hGN H1 HN2 HM HR
  generalize (w1.setCell ⟨w.heap.size, 1, none⟩ (.slice g rp.length cg)).setCell ⟨w.heap.size, 2, none⟩ (.int .i64 rc) = W4 at *
  have c4 := hN4.is 4 rfl
  have c5 := hN4.is 5 rfl
  have cf := hN4.frozen
  have HN4 := hidE hN4
  have HM4 := hidE hM4
  have HO4 := hidE hO4
  have HB4 := hidE hB4
  have H2 := hidE (frMark_ok q cq mp mc W4 (by omega) hm4)
  clear hN4 hM4 hO4 hB4 hm4 HW
  go_upto_region 3 with (go_at_call 40; refine H2.out.mono ?_; rintro r w5 ⟨g2, cg2, rfl, hO, hb⟩; have c4' := (HN4.out.thruB hb).is 4 rfl; have c5' := (HN4.out.thruB hb).is 5 rfl; have cf' := (HN4.out.thruB hb).frozen)
  have hN5 := HN4.out.thruB hb
  have hN6 : Blk ((w5.setCell ⟨w.heap.size, 4, none⟩ (.slice g2 mp.length cg2)).setCell ⟨w.heap.size, 5, none⟩ (.int .i64 mc)) w.heap.size #[.int .i64 kind, .slice g rp.length cg, .int .i64 rc, .string rt, .slice g2 mp.length cg2, .int .i64 mc, .int .i64 many] 54 := (hN5.set 4 _).set 5 _
  have hGN := (grownBy_set' w5 w.heap.size 4 (.slice g2 mp.length cg2)).trans (grownBy_set' _ w.heap.size 5 (.int .i64 mc))
  have hM6 := (HM4.out.thruB hb).grown hGN (fun e => by simp at e)
  have hgA := grownBy_none hb (row := some w.heap.size)
  have hO6 := (HO4.out.kept hgA (Or.inr (own_apart HO4.out (by omega)))).kept hGN (Or.inr (own_apart HO4.out (by omega)))
  have hP6 := hO.kept hGN (Or.inr (own_apart hO (by omega)))
  have hB6 : Below w.heap.size w ((w5.setCell ⟨w.heap.size, 4, none⟩ (.slice g2 mp.length cg2)).setCell ⟨w.heap.size, 5, none⟩ (.int .i64 mc)) := ((HB4.out.thru hb HB4.out.size).setCell (by simp) _).setCell (by simp) _
  clear c4 c5 cf c4' c5' cf' hO hN5 hGN H2 HN4 HM4 HO4 hgA
  generalize (w5.setCell ⟨w.heap.size, 4, none⟩ (.slice g2 mp.length cg2)).setCell ⟨w.heap.size, 5, none⟩ (.int .i64 mc) = W6 at *
  have x0 := hN6.is 0 rfl
  have x1 := hN6.is 1 rfl
  have x2 := hN6.is 2 rfl
  have x3 := hN6.is 3 rfl
  have x4 := hN6.is 4 rfl
  have x5 := hN6.is 5 rfl
  have x6 := hN6.is 6 rfl
  have y0 := hM6.is 0 rfl
  have y1 := hM6.is 1 rfl
  have y2 := hM6.is 2 rfl
  have y3 := hM6.is 3 rfl
  have y4 := hM6.is 4 rfl
  have y5 := hM6.is 5 rfl
  have y6 := hM6.is 6 rfl
  have fy := hM6.frozen
  obtain ⟨hF, hGF⟩ := fill7 hM6 (.int .i64 kind) (.slice g rp.length cg) (.int .i64 rc) (.string rt) (.slice g2 mp.length cg2) (.int .i64 mc) (.int .i64 many)
  have HDO := hidE (show DdOwn (put7 W6 (w.heap.size + 1) (.int .i64 kind) (.slice g rp.length cg) (.int .i64 rc) (.string rt) (.slice g2 mp.length cg2) (.int .i64 mc) (.int .i64 many)) w.heap.size (⟨⟨kind, rp, rc, rt, mp, mc, many⟩, g, g2, cg, cg2⟩ : RD) from ⟨owns_base (hO6.kept hGF (Or.inr (own_apart hO6 (by omega)))) (by omega), owns_base (hP6.kept hGF (Or.inr (own_apart hP6 (by omega)))) (by omega), hrl, hml, htl, hn0, hn1⟩)
  have HBF := hidE (show Below w.heap.size w (put7 W6 (w.heap.size + 1) (.int .i64 kind) (.slice g rp.length cg) (.int .i64 rc) (.string rt) (.slice g2 mp.length cg2) (.int .i64 mc) (.int .i64 many)) from hB6.grown hGF hB6.size (by intro k hk; cases hk; omega))
  unfold put7 at hF
  have HF := hidE hF
  clear hF hGF hM6 hN6 hO6 hP6 hB6
  go_wp2_with fail
  have k0 := HF.out.is 0 rfl
  have k1 := HF.out.is 1 rfl
  have k2 := HF.out.is 2 rfl
  have k3 := HF.out.is 3 rfl
  have k4 := HF.out.is 4 rfl
  have k5 := HF.out.is 5 rfl
  have k6 := HF.out.is 6 rfl
  refine bodyPost_ret (v := .agg #[.int .i64 kind, .slice g rp.length cg, .int .i64 rc, .string rt, .slice g2 mp.length cg2, .int .i64 mc, .int .i64 many]) (by simp [results, Try.results27, go_sem, k0, k1, k2, k3, k4, k5, k6]) rfl ⟨g, g2, cg, cg2, rfl, HDO.out, HBF.out⟩

end Go.Proofs.Ytnhjebdlcbhkcaf
