/- Contract of the reference's AfterOf. -/
import Derived.Test.YtnhjebdlcbhkcafOwnsF
import Derived.Deep.RegionLawGrows
import Derived.Deep.RegionHeldLaw
namespace Go.Proofs.Ytnhjebdlcbhkcaf
open Go.RowKit

set_option maxRecDepth 100000 in
set_option maxHeartbeats 2000000 in
theorem afterOf_any (b off cap : Nat) (l : List (Int × Int)) (c n : Int) (w : World) (h : StepsAt w (some ⟨b, off, none⟩) l) (hok : chk l c = 0) (h0 : 0 ≤ n) (h60 : n ≤ 60) :
    Calls Try.prog 42 #[.agg #[.slice (some ⟨b, off, none⟩) l.length cap, .int .i64 c], .int .i64 n] w fun e w' => ∃ g cap', e = .returned (.agg #[.slice (some ⟨g, 0, none⟩) l.length cap', .int .i64 (c + n)]) ∧ StepsAt w' (some ⟨g, 0, none⟩) (bump l n) ∧ Below w.heap.size w w' ∧ w'.ownsRow w.heap.size 77 2 (.slice (some ⟨g, 0, none⟩) l.length cap') l.length (flatS (bump l n)) := by
  obtain ⟨hl0, hl10, hoks, _, hc1, hc2⟩ := chk_ok hok
  have hd := okStep_iff.1 (okSteps_get hoks (i := l.length - 1) (by omega))
  obtain ⟨i0, hi, hz0, hz1, hz2⟩ := Try.info77
  clear hok
  have hwr : IntKind.i64.wrap (c + n) = c + n := by rw [IntKind.wrap_i64]; omega
  obtain ⟨q0, q1, q3, q4, hz, hb1⟩ := boxes2 w (.slice (some ⟨b, off, none⟩) l.length cap) (.int .i64 c) (.slice none 0 0) (.int .i64 0) 50 50
  have q2 : ∀ o, ((w.alloc (Obj.cells #[.slice (some ⟨b, off, none⟩) l.length cap, .int .i64 c] 50)).alloc (Obj.cells #[.slice none 0 0, .int .i64 0] 50)).frozen? ⟨w.heap.size + 1, o, none⟩ = false := by intro o; go_simp
  go_enter Try.func42, Try.ntmps42
  go_upto_region 1 with fail
  generalize (w.alloc (Obj.cells #[.slice (some ⟨b, off, none⟩) l.length cap, .int .i64 c] 50)).alloc (Obj.cells #[.slice none 0 0, .int .i64 0] 50) = w1 at q0 q1 q2 q3 q4 hz hb1 ⊢
  have z1 : w.heap.size < w1.heap.size := by omega
  have z2 : w.heap.size + 1 < w1.heap.size := by omega
  clear hz
  have hBd : Below w1.heap.size w1 w1.drew := (Below.refl _ _).drew
  have hs1 := h.below hb1 (Nat.le_refl _)
  go_cut [5] (fun t wc => ∃ N g cap2, t = .pointer (some ⟨N, 0, none⟩) ∧ w1.heap.size ≤ N ∧ N < wc.heap.size ∧ w1.heap.size ≤ g ∧ g ≠ N ∧ wc.cell? ⟨N, 0, none⟩ = some (.slice (some ⟨g, 0, none⟩) l.length cap2) ∧ wc.cell? ⟨N, 1, none⟩ = some (.int .i64 (c + n)) ∧ wc.ownsRow w1.heap.size 77 2 (.slice (some ⟨g, 0, none⟩) l.length cap2) l.length (flatS l) ∧ Below w1.heap.size w1 wc)
  case first =>
    go_region_held_law (fun w' => Below w1.heap.size w1 w' ∧ w'.cell? ⟨w.heap.size, 0, none⟩ = some (.slice (some ⟨b, off, none⟩) l.length cap) ∧ w'.cell? ⟨w.heap.size, 1, none⟩ = some (.int .i64 c)) ((refine keepB ?_ q0 q1 z1; first | exact hBd | exact ((Below.refl _ _).alloc (Nat.le_refl _) _).drew | exact (((Below.refl _ _).alloc (Nat.le_refl _) _).alloc (by simp) _).drew | exact hBw | exact hBw.alloc hzw _ | exact (hBw.setCell (by simp) _).setCell (by simp) _ | exact (hBw.setCell (by simp; omega) _).setCell (by simp; omega) _))
      (first | (refine step_append_grows rfl (.tmp 6) (.tmp 8) 48 rfl 77 i0 (.agg #[.int .i64 0, .int .i64 0]) 2 16 Try.underlying48 hi hz0 hz1 hz2 rfl (by decide) _ 0 0 [] (by simp [Act.eval]; rfl) (by simp) rfl (by intro _ _ j u hj; simp at hj) ⟨b, off, none⟩ l.length cap (flatS l) (by simp [Act.eval]) (flatS_length l) (by intro j u hj; rw [Addr.add_lit]; exact (hs1.below (And.left ‹Below w1.heap.size w1 _ ∧ _›) (Nat.le_refl _)).cells j u hj) (flatS_one l) (by omega) (by unfold maxLen; omega) (by omega) ?_; intro v' w2 hown hgrow; rw [Nat.zero_add, List.nil_append] at hown; obtain ⟨g, cap2, hv⟩ := owns_form hown hl0; subst hv; have hBw := (And.left ‹Below w1.heap.size w1 _ ∧ _›).grown hgrow (And.left ‹Below w1.heap.size w1 _ ∧ _›).size (by intro k hk; simp at hk); have hzw := hBw.size; have hBp := (Below.refl _ _).grown hgrow (Nat.le_refl _) (by intro k hk; simp at hk); have c0 := fun o => hBp.cell (p := ⟨w1.heap.size, o, none⟩) (by simp <;> omega); have f0 := fun o => hBp.frozen (p := ⟨w1.heap.size, o, none⟩) (by simp <;> omega); have c1 := fun o (hh : w1.heap.size + 1 < _) => hBp.cell (p := ⟨w1.heap.size + 1, o, none⟩) hh; have f1 := fun o (hh : w1.heap.size + 1 < _) => hBp.frozen (p := ⟨w1.heap.size + 1, o, none⟩) hh; have t0 := (hBw.cell (p := ⟨w.heap.size, 0, none⟩) z1).trans q0; have t1 := (hBw.cell (p := ⟨w.heap.size, 1, none⟩) z1).trans q1))
    · go_wp2_with fail
      go_meet
      have hg := hown.lt g rfl
      simp at hg
      exact ⟨w2.heap.size, g, cap2, rfl, hzw, by simp, by omega, by omega, by simp, by simp, (owns_base hown (by simp)).alloc _, hBw.alloc hzw _⟩
    · go_wp2_with fail
      go_meet
      have hg := hown.lt g rfl
      have hz2 := hBp.size
      simp at hg hz2
      exact ⟨w1.heap.size + 1, g, cap2, rfl, by omega, by simp [World.setCell]; omega, by omega, by omega, by go_simp, by go_simp, ownsRow_setCell_other (ownsRow_setCell_other (owns_base hown (by simp; omega)) (by simp [Value.ownBlock]; omega) _) (by simp [Value.ownBlock]; omega) _, (hBw.setCell (by simp) _).setCell (by simp) _⟩
    · go_wp2_with fail
      go_meet
      have hg := hown.lt g rfl
      have hz2 := hBp.size
      simp at hg hz2
      exact ⟨w1.heap.size, g, cap2, rfl, by omega, by simp [World.setCell]; omega, by omega, by omega, by go_simp, by go_simp, ownsRow_setCell_other (ownsRow_setCell_other (owns_base hown (by simp; omega)) (by simp [Value.ownBlock]; omega) _) (by simp [Value.ownBlock]; omega) _, (hBw.setCell (by simp) _).setCell (by simp) _⟩
  case rest =>
    obtain ⟨N, g, cap2, rfl, hN1, hN2, hg1, hgN, e0, e1, hown, hb2⟩ := hcut
    have hgl := (hown.lt g rfl).2
    have fc := (hown.cellAt ((l.length - 1) * 2) (by omega)).trans (flatS_get l (l.length - 1) (by omega)).1
    have ff := hown.frozenAt ((l.length - 1) * 2)
    have hst := hown.stored ((l.length - 1) * 2) (.int .i64 (l[l.length - 1].1 + n))
    rw [flatS_set l _ (by omega)] at hst
    have hbump : l.set (l.length - 1) (l[l.length - 1].1 + n, l[l.length - 1].2) = bump l n := by unfold bump setL; rw [lastS_eq hl0]
    rw [hbump] at hst
    have hlb : (bump l n).length = l.length := by unfold bump setL; simp
    have hsa := stepsAt_owns hst.1 hlb.symm
    clear hbump hlb
    obtain ⟨hcc, hff⟩ := bcellN hb2 w1.heap.size (Nat.le_refl _)
    have p3 : wc.cell? ⟨w.heap.size + 1, 0, none⟩ = some (.slice none 0 0) := (hcc _ _ z2).trans q3
    have p4 : wc.cell? ⟨w.heap.size + 1, 1, none⟩ = some (.int .i64 0) := (hcc _ _ z2).trans q4
    have p2 : ∀ o, wc.frozen? ⟨w.heap.size + 1, o, none⟩ = false := fun o => (hff _ _ z2).trans (q2 o)
    clear hcc hff q0 q1 q2 q3 q4
    have hgn' : N ≠ g := fun e => hgN e.symm
    have hg2 : w.heap.size + 1 ≠ g := by omega
    have hg3 : g ≠ w.heap.size + 1 := by omega
    have hN3 : N ≠ w.heap.size + 1 := by omega
    have hN4 : w.heap.size + 1 ≠ N := by omega
    obtain ⟨d1, d2, d3, d4⟩ := hd
    generalize l[l.length - 1].1 = dl at fc hst d1 d2 hsa
    have y0 : (wc.setCell ⟨g, (l.length - 1) * 2, none⟩ (.int .i64 (dl + n))).cell? ⟨N, 0, none⟩ = some (.slice (some ⟨g, 0, none⟩) l.length cap2) := cell_other hgn' e0
    have y1 : (wc.setCell ⟨g, (l.length - 1) * 2, none⟩ (.int .i64 (dl + n))).cell? ⟨N, 1, none⟩ = some (.int .i64 (c + n)) := cell_other hgn' e1
    have y2 : (wc.setCell ⟨g, (l.length - 1) * 2, none⟩ (.int .i64 (dl + n))).cell? ⟨w.heap.size + 1, 0, none⟩ = some (.slice none 0 0) := cell_other hg2 p3
    have y3 : (wc.setCell ⟨g, (l.length - 1) * 2, none⟩ (.int .i64 (dl + n))).cell? ⟨w.heap.size + 1, 1, none⟩ = some (.int .i64 0) := cell_other hg2 p4
    go_wp2
    refine bodyPost_ret (v := .agg #[.slice (some ⟨g, 0, none⟩) l.length cap2, .int .i64 (c + n)]) (by simp [results, Try.results42, go_sem, y2, y3]) rfl ?_
    refine ⟨g, cap2, rfl, (hsa.setOld (by simp; omega)).setOld (by simp; omega), ?_, ?_⟩
    · exact (((hb1.thru hb2 hb1.size).setCell (by show _ ≤ g; omega) _).setCell (by simp) _).setCell (by simp) _
    · exact ownsRow_setCell_other (ownsRow_setCell_other (owns_base hst.1 (by omega)) (by simp [Value.ownBlock]; omega) _) (by simp [Value.ownBlock]; omega) _
end Go.Proofs.Ytnhjebdlcbhkcaf
