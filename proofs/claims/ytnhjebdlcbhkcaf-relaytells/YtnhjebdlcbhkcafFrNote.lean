/- Contract of fresh.Note. -/
import Derived.Test.YtnhjebdlcbhkcafFrListD
namespace Go.Proofs.Ytnhjebdlcbhkcaf
open Go.RowKit

/-- a note small enough -/
structure NtSmall (n : Nt) : Prop where
  nl : n.needs.length ≤ 255
  dl : n.deeds.length ≤ 100
  each : ∀ d ∈ n.deeds, DdSmall d

/-- a copy of a note -/
def NtFresh (n : Nt) (w : World) (e : Ending) (w' : World) : Prop :=
  ∃ (p q : Option Addr) (cp cq : Nat), e = .returned (ntV n p q cp cq) ∧ NtOwn w' w.heap.size n p q cp cq ∧ Below w.heap.size w w'

theorem IntsAt.own {w : World} {a : Option Addr} {l : List Int} (h : IntsAt w a l) : ∀ j u, (l.map (Value.int .i64))[j]? = some u → ∃ b off, a = some ⟨b, off, none⟩ ∧ w.cell? ⟨b, off + j, none⟩ = some u := by
  intro j u hj
  rcases h with rfl | ⟨b, off, rfl, hb, hc⟩
  · simp at hj
  · obtain ⟨hj', e⟩ := List.getElem?_eq_some_iff.1 hj
    have := hc j (by simpa using hj')
    exact ⟨b, off, rfl, by rw [this, ← e]; simp⟩

theorem DsFresh.own {ds : List Dd} {w w' : World} {e : Ending} (h : DsFresh ds w e w') : ∃ (q : Option Addr) (cq : Nat), e = .returned (.slice q ds.length cq) ∧ (∃ rs : List RD, rs.map RD.d = ds ∧ RowOwn 54 7 RD.cells DdOwn w' w.heap.size (.slice q rs.length cq) rs) ∧ Below w.heap.size w w' := by
  obtain ⟨rs, p, cap, e, hm, ho, hb⟩ := h
  have hl : rs.length = ds.length := by rw [← hm, List.length_map]
  exact ⟨p, cap, e, ⟨rs, hm, by rw [hl]; exact ho⟩, hb⟩

set_option maxRecDepth 100000 in
set_option maxHeartbeats 4000000 in
theorem frNote_ok (n : Nt) (p q : Option Addr) (cp cq : Nat) (w : World) (h : NtAt w n p q) (hd : NtSmall n) :
    Calls Try.prog 16 #[ntV n p q cp cq] w (NtFresh n w) := by
  obtain ⟨hnl, hdl, hde⟩ := hd
  obtain ⟨site, number, needs, deeds⟩ := n
  simp only at hnl hdl hde
  have hA := (alloc_below w (Obj.cells #[.int .i64 site, .int .i64 number, .slice p needs.length cp, .slice q deeds.length cq] 28))
  have hN := (Blk.new w #[.int .i64 site, .int .i64 number, .slice p needs.length cp, .slice q deeds.length cq] 28)
  have hA2 := alloc_below (w.alloc (Obj.cells #[.int .i64 site, .int .i64 number, .slice p needs.length cp, .slice q deeds.length cq] 28)) (Obj.cells zeroN 28)
  have hM := Blk.new (w.alloc (Obj.cells #[.int .i64 site, .int .i64 number, .slice p needs.length cp, .slice q deeds.length cq] 28)) zeroN 28
  have hN2 := hN.alloc (Obj.cells zeroN 28)
  have hs : (w.alloc (Obj.cells #[.int .i64 site, .int .i64 number, .slice p needs.length cp, .slice q deeds.length cq] 28)).heap.size = w.heap.size + 1 := by simp
  have hB := hA.thru hA2 hA.size
  rw [hs] at hM
  have hR := (show NtAt w ⟨site, number, needs, deeds⟩ p q from h).below hB
  have HW := hidE h
  clear h hA hA2 hN hs
  unfold ntV
  go_enter Try.func16, Try.ntmps16
  go_upto_region 1 with fail
  generalize (w.alloc (Obj.cells #[.int .i64 site, .int .i64 number, .slice p needs.length cp, .slice q deeds.length cq] 28)).alloc (Obj.cells zeroN 28) = W at *
  have c2 := hN2.is 2 rfl
  have HN2 := hidE hN2
  have HM := hidE hM
  have HB := hidE hB
  have hMW := hM.lt
  have H1 := hidE (cloneI_ok p needs.length cp (needs.map (Value.int .i64)) W (by rw [List.length_map, Nat.mul_one]) (by omega) hR.needs.own (by intro u hu; obtain ⟨x, _, rfl⟩ := List.mem_map.1 hu; rfl))
  clear hN2 hM hB hR
  generalize hnn : needs.length = nn at *
  have HNN := hidE hnn
  clear hnn
  go_upto_region 2 with (go_at_call 25; refine H1.out.mono ?_; rintro r w1 ⟨g, cg, rfl, hO, hb⟩; have c2' := (HN2.out.thruB hb).is 2 rfl; have cf' := (HN2.out.thruB hb).frozen)
  have hN3 := HN2.out.thruB hb
  have hN4 : Blk (w1.setCell ⟨w.heap.size, 2, none⟩ (.slice g nn cg)) w.heap.size #[.int .i64 site, .int .i64 number, .slice g nn cg, .slice q deeds.length cq] 28 := hN3.set 2 _
  have hGN := grownBy_set' w1 w.heap.size 2 (.slice g nn cg)
  have hM4 := (HM.out.thruB hb).grown hGN (fun e => by simp at e)
  have hO4 := hO.kept hGN (Or.inr (own_apart hO (by omega)))
  have hB4 : Below w.heap.size w (w1.setCell ⟨w.heap.size, 2, none⟩ (.slice g nn cg)) := (HB.out.thru hb HB.out.size).setCell (by simp) _
  have hs4 : W.heap.size ≤ (w1.setCell ⟨w.heap.size, 2, none⟩ (.slice g nn cg)).heap.size := by
    have := hb.size
    simpa using this
  have hm4 := HW.out.deeds.below hB4
  clear c2 c2' cf' hO hN3 hGN H1 HN2 HM
  generalize w1.setCell ⟨w.heap.size, 2, none⟩ (.slice g nn cg) = W4 at *
  have c3 := hN4.is 3 rfl
  have cf := hN4.frozen
  have HN4 := hidE hN4
  have HM4 := hidE hM4
  have HO4 := hidE hO4
  have HB4 := hidE hB4
  have H2 := hidE (frListD_ok q cq deeds W4 hm4 hde hdl)
  clear hN4 hM4 hO4 hB4 hm4 HW hde
  generalize hmm : deeds.length = nd at *
  have HMM := hidE hmm
  clear hmm
  go_upto_region 3 with (go_at_call 26; refine H2.out.mono ?_; intro r w5 hF; obtain ⟨g2, cg2, rfl, hD, hb⟩ := hF.own; rw [HMM.out]; have c3' := (HN4.out.thruB hb).is 3 rfl; have cf' := (HN4.out.thruB hb).frozen)
  have hN5 := HN4.out.thruB hb
  have hN6 : Blk (w5.setCell ⟨w.heap.size, 3, none⟩ (.slice g2 nd cg2)) w.heap.size #[.int .i64 site, .int .i64 number, .slice g nn cg, .slice g2 nd cg2] 28 := hN5.set 3 _
  have hGN := grownBy_set' w5 w.heap.size 3 (.slice g2 nd cg2)
  have hM6 := (HM4.out.thruB hb).grown hGN (fun e => by simp at e)
  have hgA := grownBy_none hb (row := some w.heap.size)
  have hO6 := (HO4.out.kept hgA (Or.inr (own_apart HO4.out (by omega)))).kept hGN (Or.inr (own_apart HO4.out (by omega)))
  obtain ⟨rs, hrs, hD⟩ := hD
  have hP6 := hD.far (DdOwn.stays _) (by omega) hGN
  have hB6 : Below w.heap.size w (w5.setCell ⟨w.heap.size, 3, none⟩ (.slice g2 nd cg2)) := (HB4.out.thru hb HB4.out.size).setCell (by simp) _
  clear c3 cf c3' cf' hD hN5 hGN H2 HN4 HM4 HO4 hgA hF
  generalize w5.setCell ⟨w.heap.size, 3, none⟩ (.slice g2 nd cg2) = W6 at *
  have x0 := hN6.is 0 rfl
  have x1 := hN6.is 1 rfl
  have x2 := hN6.is 2 rfl
  have x3 := hN6.is 3 rfl
  have y0 := hM6.is 0 rfl
  have y1 := hM6.is 1 rfl
  have y2 := hM6.is 2 rfl
  have y3 := hM6.is 3 rfl
  have fy := hM6.frozen
  obtain ⟨hF, hGF⟩ := fill4 hM6 (.int .i64 site) (.int .i64 number) (.slice g nn cg) (.slice g2 nd cg2)
  have hrl : rs.length = nd := by rw [← HMM.out, ← hrs, List.length_map]
  have HDO := hidE (show NtOwn (put4 W6 (w.heap.size + 1) (.int .i64 site) (.int .i64 number) (.slice g nn cg) (.slice g2 nd cg2)) w.heap.size ⟨site, number, needs, deeds⟩ g g2 cg cg2 from by
    refine ⟨by show needs.length ≤ 255; rw [HNN.out]; exact hnl, by show deeds.length ≤ 255; rw [HMM.out]; omega, ?_, rs, hrs, ?_⟩
    · show World.ownsRow _ _ _ _ (.slice g needs.length cg) needs.length _
      rw [HNN.out]
      exact owns_base (hO6.kept hGF (Or.inr (own_apart hO6 (by omega)))) (by omega)
    · have h7 := hP6.far (DdOwn.stays _) (by omega) hGF
      exact ⟨owns_base h7.own (by omega), fun x hx => (h7.each x hx).mono (by omega)⟩)
  have HBF := hidE (show Below w.heap.size w (put4 W6 (w.heap.size + 1) (.int .i64 site) (.int .i64 number) (.slice g nn cg) (.slice g2 nd cg2)) from hB6.grown hGF hB6.size (by intro k hk; cases hk; omega))
  unfold put4 at hF
  have HF := hidE hF
  clear hF hGF hM6 hN6 hO6 hP6 hB6 hrl hrs
  go_wp2_with fail
  have k0 := HF.out.is 0 rfl
  have k1 := HF.out.is 1 rfl
  have k2 := HF.out.is 2 rfl
  have k3 := HF.out.is 3 rfl
  refine bodyPost_ret (v := .agg #[.int .i64 site, .int .i64 number, .slice g nn cg, .slice g2 nd cg2]) (by simp [results, Try.results16, go_sem, k0, k1, k2, k3]) rfl ⟨g, g2, cg, cg2, by unfold ntV; rw [HNN.out, HMM.out], HDO.out, HBF.out⟩

end Go.Proofs.Ytnhjebdlcbhkcaf
