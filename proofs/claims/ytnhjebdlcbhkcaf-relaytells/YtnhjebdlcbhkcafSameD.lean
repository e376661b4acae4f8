/- SameRun and SameRuns of what is the same. -/
import Derived.Test.YtnhjebdlcbhkcafRunsC
import Derived.Test.YtnhjebdlcbhkcafLeast
import Derived.Test.YtnhjebdlcbhkcafIntsC
namespace Go.Proofs.Ytnhjebdlcbhkcaf
open Go.RowKit

set_option maxRecDepth 100000 in
set_option maxHeartbeats 2000000 in
theorem sameRun_true (a a' : Option Addr) (cap cap' : Nat) (x : Rn) (w : World) (hl : x.path.length ≤ maxLen) (h : StepsAt w a x.path) (h' : StepsAt w a' x.path) :
    Calls Try.prog 52 #[.agg #[.slice a x.path.length cap, .int .i64 x.clock, .string x.text], .agg #[.slice a' x.path.length cap', .int .i64 x.clock, .string x.text]] w fun e w' => e = .returned (.bool true) ∧ Below w.heap.size w w' := by
  have hz : ordM x.path x.clock x.path x.clock = 0 := cmpM.refl (x.path, x.clock)
  have hb0 := ((Below.refl w.heap.size w).alloc (Nat.le_refl _) (Obj.cells #[.slice a x.path.length cap, .int .i64 x.clock, .string x.text] 52)).alloc (by simp) (Obj.cells #[.slice a' x.path.length cap', .int .i64 x.clock, .string x.text] 52)
  have HZ := hidE hz
  clear hz
  go_enter Try.func52, Try.ntmps52
  go_wp2_with (go_at_call 51; refine (sameMark_n _ _ _ _ _ _ x.path x.path _ _ _ rfl rfl hl hl (by exact h.below hb0 (Nat.le_refl _)) (by exact h'.below hb0 (Nat.le_refl _))).mono ?_; rintro e w3 ⟨rfl, hb3⟩; rw [HZ.out])
  go_ret
  exact ⟨rfl, hb0.thru hb3 hb0.size⟩

end Go.Proofs.Ytnhjebdlcbhkcaf

namespace Go.Proofs.Ytnhjebdlcbhkcaf
open Go.RowKit

theorem boxes7 (w : World) (v0 v1 v2 v3 v4 v5 v6 u0 u1 u2 u3 u4 u5 u6 : Value) (T : TypeId) : ∃ W, W = (w.alloc (Obj.cells #[v0, v1, v2, v3, v4, v5, v6] T)).alloc (Obj.cells #[u0, u1, u2, u3, u4, u5, u6] T) ∧
    (W.cell? ⟨w.heap.size, 0, none⟩ = some v0 ∧ W.cell? ⟨w.heap.size, 1, none⟩ = some v1 ∧ W.cell? ⟨w.heap.size, 2, none⟩ = some v2 ∧ W.cell? ⟨w.heap.size, 3, none⟩ = some v3 ∧ W.cell? ⟨w.heap.size, 4, none⟩ = some v4 ∧ W.cell? ⟨w.heap.size, 5, none⟩ = some v5 ∧ W.cell? ⟨w.heap.size, 6, none⟩ = some v6) ∧
    (W.cell? ⟨w.heap.size + 1, 0, none⟩ = some u0 ∧ W.cell? ⟨w.heap.size + 1, 1, none⟩ = some u1 ∧ W.cell? ⟨w.heap.size + 1, 2, none⟩ = some u2 ∧ W.cell? ⟨w.heap.size + 1, 3, none⟩ = some u3 ∧ W.cell? ⟨w.heap.size + 1, 4, none⟩ = some u4 ∧ W.cell? ⟨w.heap.size + 1, 5, none⟩ = some u5 ∧ W.cell? ⟨w.heap.size + 1, 6, none⟩ = some u6) ∧
    W.heap.size = w.heap.size + 2 ∧ Below w.heap.size w W :=
  ⟨_, rfl, ⟨by go_simp, by go_simp, by go_simp, by go_simp, by go_simp, by go_simp, by go_simp⟩, ⟨by go_simp, by go_simp, by go_simp, by go_simp, by go_simp, by go_simp, by go_simp⟩, by simp, ((Below.refl _ _).alloc (Nat.le_refl _) _).alloc (by simp) _⟩

set_option maxRecDepth 100000 in
set_option maxHeartbeats 4000000 in
theorem sameDeed_true (p q p' q' : Option Addr) (cp cq cp' cq' : Nat) (x : Dd) (w : World) (h : DdAt w x p q) (h' : DdAt w x p' q') :
    Calls Try.prog 44 #[ddV x p q cp cq, ddV x p' q' cp' cq'] w fun e w' => e = .returned (.bool true) ∧ Below w.heap.size w w' := by
  obtain ⟨kind, rp, rc, rt, mp, mc, many⟩ := x
  obtain ⟨h1, h2, h3, h4, h5⟩ := h
  obtain ⟨g1, g2, _, _, _⟩ := h'
  unfold ddV
  dsimp only at *
  obtain ⟨W, hW, ⟨a0, a1, a2, a3, a4, a5, a6⟩, ⟨b0, b1, b2, b3, b4, b5, b6⟩, hs, hB⟩ := boxes7 w (.int .i64 kind) (.slice p rp.length cp) (.int .i64 rc) (.string rt) (.slice q mp.length cq) (.int .i64 mc) (.int .i64 many) (.int .i64 kind) (.slice p' rp.length cp') (.int .i64 rc) (.string rt) (.slice q' mp.length cq') (.int .i64 mc) (.int .i64 many) 54
  have HW := hidE hW
  have HS := hidE hs
  clear hW hs
  have hz : ordM mp mc mp mc = 0 := cmpM.refl (mp, mc)
  have HSM := hidE (fun (W' : World) (hb : Below W.heap.size W W') => sameMark_n q q' cq cq' mp.length mp.length mp mp mc mc W' rfl rfl h4 h4 ((h2.below hB (Nat.le_refl _)).below hb (Nat.le_refl _)) ((g2.below hB (Nat.le_refl _)).below hb (Nat.le_refl _)))
  rw [hz] at HSM
  have HSR := hidE (fun (W' : World) (hb : Below W.heap.size W W') => sameRun_true p p' cp cp' ⟨rp, rc, rt⟩ W' h3 ((h1.below hB (Nat.le_refl _)).below hb (Nat.le_refl _)) ((g1.below hB (Nat.le_refl _)).below hb (Nat.le_refl _)))
  dsimp only at HSR
  have hz1 : w.heap.size < W.heap.size := by rw [HS.out]; omega
  have hz2 : w.heap.size + 1 < W.heap.size := by rw [HS.out]; omega
  clear h1 h2 h3 h4 h5 g1 g2 hz
  go_enter Try.func44, Try.ntmps44
  go_upto_region 1 with fail
  rw [← HW.out]
  generalize hzz : w.heap.size = Z at *
  have HZ := hidE hzz
  clear hzz
  go_wp2_with fail
  refine (HSM.out _ (Below.refl _ _)).mono ?_
  rintro e w2 ⟨rfl, hb2⟩
  replace a1 := (hb2.cell (p := ⟨Z, 1, none⟩) hz1).trans a1
  replace a2 := (hb2.cell (p := ⟨Z, 2, none⟩) hz1).trans a2
  replace a3 := (hb2.cell (p := ⟨Z, 3, none⟩) hz1).trans a3
  replace b1 := (hb2.cell (p := ⟨Z + 1, 1, none⟩) hz2).trans b1
  replace b2 := (hb2.cell (p := ⟨Z + 1, 2, none⟩) hz2).trans b2
  replace b3 := (hb2.cell (p := ⟨Z + 1, 3, none⟩) hz2).trans b3
  go_wp2_with fail
  refine (HSR.out _ hb2).mono ?_
  rintro e w3 ⟨rfl, hb3⟩
  go_wp2_with fail
  go_ret
  exact ⟨rfl, by rw [HZ.out]; exact hB.trans ((hb2.thru hb3 hb2.size).mono (Nat.le_of_lt hz1))⟩

set_option maxRecDepth 100000 in
set_option maxHeartbeats 4000000 in
theorem sameDeeds_true (a a' : Option Addr) (cap cap' : Nat) (xs : List Dd) (w : World) (hl : xs.length ≤ maxLen) (h : DeedsAt w a xs) (h' : DeedsAt w a' xs) :
    Calls Try.prog 34 #[.slice a xs.length cap, .slice a' xs.length cap'] w fun e w' => e = .returned (.bool true) ∧ Below w.heap.size w w' := by
  unfold maxLen at hl
  go_enter Try.func34, Try.ntmps34
  go_wp2
  go_loopw [5] (fun i wr => ∃ k : Nat, k ≤ xs.length ∧ i = .int .i64 k ∧ Below w.heap.size w wr) (fun i _ => xs.length - (intOf i).toNat)
  case atStart => exact ⟨0, Nat.zero_le _, rfl, Below.refl _ _⟩
  case round =>
    obtain ⟨k, hk, rfl, hb⟩ := hrel
    by_cases hlt : k < xs.length
    · have hi1 : (k : Int) < xs.length := by omega
      rcases h.below hb with hs | ⟨ab, ao, rfl, hab, hc⟩
      · simp [hs] at hlt
      rcases h'.below hb with hs | ⟨bb, bo, rfl, hbb, hd⟩
      · simp [hs] at hlt
      obtain ⟨p, cp, q, cq, c0, c1, c2, c3, c4, c5, c6, hD, _, _⟩ := hc k hlt
      obtain ⟨p', cp', q', cq', d0, d1, d2, d3, d4, d5, d6, hD', _, _⟩ := hd k hlt
      clear hc hd h h'
      have HC := hidE (fun d os => sameDeed_true p q p' q' cp cq cp' cq' xs[k] _ (hD.below (below_regrown wr d os)) (hD'.below (below_regrown wr d os)))
      unfold ddV at HC
      clear hD hD'
      generalize xs[k] = x at *
      have k0 := cell_regrown c0
      have k1 := cell_regrown c1
      have k2 := cell_regrown c2
      have k3 := cell_regrown c3
      have k4 := cell_regrown c4
      have k5 := cell_regrown c5
      have k6 := cell_regrown c6
      have e0 := cell_regrown d0
      have e1 := cell_regrown d1
      have e2 := cell_regrown d2
      have e3 := cell_regrown d3
      have e4 := cell_regrown d4
      have e5 := cell_regrown d5
      have e6 := cell_regrown d6
      clear c0 c1 c2 c3 c4 c5 c6 d0 d1 d2 d3 d4 d5 d6
      go_wp2_with fail
      refine wp_region_quiet_below (by kernel_rfl) (by kernel_rfl) ?_
      repeat (first | go_big_quiet_step ((go_at_call 44; with_reducible exact Calls.regrown_of (HC.out _ _))) | quiet_step ((go_at_call 44; with_reducible exact Calls.regrown_of (HC.out _ _))))
      refine wpQuiet_nil ?_
      intro _ hw'
      obtain ⟨⟨dq, osq⟩, hw''⟩ := hw'
      subst hw''
      go_wp2_with fail
      go_roundw
      case rel => exact ⟨k + 1, by omega, by go_num, hb.thru (below_regrown _ _ _) hb.size⟩
      case measure => simp [intOf]; omega
    · go_wp2
      go_ret
      exact ⟨rfl, hb⟩
end Go.Proofs.Ytnhjebdlcbhkcaf
