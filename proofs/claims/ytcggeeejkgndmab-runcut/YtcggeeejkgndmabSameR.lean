/- SameRun and SameRuns of what is the same. -/
import Derived.Test.YtcggeeejkgndmabRunsC
import Derived.Test.YtcggeeejkgndmabUniq
namespace Go.Proofs.Ytcggeeejkgndmab
open Go.RowKit

set_option maxRecDepth 100000 in
set_option maxHeartbeats 2000000 in
theorem sameRun_true (a a' : Option Addr) (cap cap' : Nat) (x : Rn) (w : World) (hl : x.path.length ≤ maxLen) (h : StepsAt w a x.path) (h' : StepsAt w a' x.path) :
    Calls Try.prog 23 #[.agg #[.slice a x.path.length cap, .int .i64 x.clock, .string x.text], .agg #[.slice a' x.path.length cap', .int .i64 x.clock, .string x.text]] w fun e w' => e = .returned (.bool true) ∧ Below w.heap.size w w' := by
  have hz : ordM x.path x.clock x.path x.clock = 0 := cmpM.refl (x.path, x.clock)
  have hb0 := ((Below.refl w.heap.size w).alloc (Nat.le_refl _) (Obj.cells #[.slice a x.path.length cap, .int .i64 x.clock, .string x.text] 26)).alloc (by simp) (Obj.cells #[.slice a' x.path.length cap', .int .i64 x.clock, .string x.text] 26)
  have HZ := hidE hz
  clear hz
  go_enter Try.func23, Try.ntmps23
  go_wp2_with (go_at_call 47; refine (sameMark_n _ _ _ _ _ _ x.path x.path _ _ _ rfl rfl hl hl (by exact h.below hb0 (Nat.le_refl _)) (by exact h'.below hb0 (Nat.le_refl _))).mono ?_; rintro e w3 ⟨rfl, hb3⟩; rw [HZ.out])
  go_ret
  exact ⟨rfl, hb0.thru hb3 hb0.size⟩

set_option maxRecDepth 100000 in
set_option maxHeartbeats 2000000 in
theorem sameRuns_true (a a' : Option Addr) (cap cap' : Nat) (xs : List Rn) (w : World) (hl : xs.length ≤ maxLen) (h : RunsAt w a xs) (h' : RunsAt w a' xs) :
    Calls Try.prog 18 #[.slice a xs.length cap, .slice a' xs.length cap'] w fun e w' => e = .returned (.bool true) ∧ Below w.heap.size w w' := by
  unfold maxLen at hl
  go_enter Try.func18, Try.ntmps18
  go_wp2
  go_loopw [5] (fun i wr => ∃ k : Nat, k ≤ xs.length ∧ i = .int .i64 k ∧ Below w.heap.size w wr) (fun i _ => xs.length - (intOf i).toNat)
  case atStart => exact ⟨0, Nat.zero_le _, rfl, Below.refl _ _⟩
  case round =>
    obtain ⟨k, hk, rfl, hb⟩ := hrel
    by_cases hlt : k < xs.length
    · have hi1 : (k : Int) < xs.length := by omega
      rcases h.below hb (Nat.le_refl _) with hs | ⟨ab, ao, rfl, hab, hc⟩
      · simp [hs] at hlt
      rcases h'.below hb (Nat.le_refl _) with hs | ⟨bb, bo, rfl, hbb, hd⟩
      · simp [hs] at hlt
      obtain ⟨p, cp, c0, c1, c2, hst, hle, _⟩ := hc k hlt
      obtain ⟨p', cp', d0, d1, d2, hst', _⟩ := hd k hlt
      clear hc hd h h'
      generalize xs[k] = x at *
      have k0 := cell_regrown c0
      have k1 := cell_regrown c1
      have k2 := cell_regrown c2
      have k3 := cell_regrown d0
      have k4 := cell_regrown d1
      have k5 := cell_regrown d2
      have S1 := hidE (fun d os => hst.below (below_regrown wr d os) (Nat.le_refl _))
      have S2 := hidE (fun d os => hst'.below (below_regrown wr d os) (Nat.le_refl _))
      clear hst hst' c0 c1 c2 d0 d1 d2
      go_upto_region 6 with fail
      refine wp_region_quiet_below (by kernel_rfl) (by kernel_rfl) ?_
      repeat (first | go_big_quiet_step ((go_at_call 23; exact Calls.regrown_of (sameRun_true _ _ _ _ x _ hle (S1.out _ _) (S2.out _ _)))) | quiet_step ((go_at_call 23; exact Calls.regrown_of (sameRun_true _ _ _ _ x _ hle (S1.out _ _) (S2.out _ _)))))
      refine wpQuiet_nil ?_
      intro W2 hw'
      obtain ⟨⟨dq, osq⟩, hw''⟩ := hw'
      have hb2 : Below wr.heap.size wr W2 := by rw [hw'']; exact below_regrown wr dq osq
      clear hw''
      go_wp2
      go_roundw
      case rel => exact ⟨k + 1, by omega, by go_num, hb.thru hb2 hb.size⟩
      case measure => simp [intOf]; omega
    · go_wp2
      go_ret
      exact ⟨rfl, hb⟩
end Go.Proofs.Ytcggeeejkgndmab
