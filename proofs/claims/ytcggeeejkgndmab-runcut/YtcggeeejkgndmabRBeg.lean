/- runBegun answers true. -/
import Derived.Test.YtcggeeejkgndmabRunsC
import Derived.Test.YtcggeeejkgndmabRunAt
import Derived.Test.YtcggeeejkgndmabSameR
import Derived.Test.YtcggeeejkgndmabPutIs
import Derived.Test.YtcggeeejkgndmabSameC
namespace Go.Proofs.Ytcggeeejkgndmab
open Go.RowKit

def hiT : ByteArray := ⟨#[104, 105]⟩
theorem hi_chkRun : chkRun [(3, 0)] 1 hiT = 0 := by decide
theorem hi_atoms : atomsR [(3, 0)] 1 hiT = hiL := by rfl
theorem hi_runs : runsL hiL = [⟨[(3, 0)], 1, hiT⟩] := by rfl

theorem runsAt_one (w : World) (p : Option Addr) (cap : Nat) (x : Rn) (hs : StepsAt w p x.path) (hl : x.path.length ≤ maxLen) (ht : x.text.size ≤ maxLen) :
    RunsAt (w.alloc (.cells #[.slice p x.path.length cap, .int .i64 x.clock, .string x.text] 26)) (some ⟨w.heap.size, 0, none⟩) [x] := by
  have hb := (Below.refl w.heap.size w).alloc (Nat.le_refl _) (Obj.cells #[.slice p x.path.length cap, .int .i64 x.clock, .string x.text] 26)
  refine Or.inr ⟨w.heap.size, 0, rfl, by simp, fun i hi => ?_⟩
  have : i = 0 := by simpa using hi
  subst this
  exact ⟨p, cap, by simp, by simp, by simp, hs.below hb (Nat.le_refl _), hl, ht⟩

set_option maxRecDepth 100000 in
set_option maxHeartbeats 4000000 in
theorem runBegun_true (w : World) : Calls Try.prog 15 #[] w fun e w' => e = .returned (.bool true) ∧ Below w.heap.size w w' := by
  have hml : ∀ n, n ≤ 300 → n ≤ maxLen := fun n h => by unfold maxLen; omega
  go_enter Try.func15, Try.ntmps15
  go_wp2_with fail
  refine (at_any _ _ _ _).mono ?_
  rintro e w1 ⟨rfl, hs, hb1⟩
  have hbA := (Below.refl w1.heap.size w1).alloc (Nat.le_refl _) (Obj.cells #[.slice (some ⟨w.heap.size + 1, 0, none⟩) 1 1, .int .i64 1, .string ⟨#[104, 105]⟩] 26)
  have q0 : (w1.alloc (Obj.cells #[.slice (some ⟨w.heap.size + 1, 0, none⟩) 1 1, .int .i64 1, .string ⟨#[104, 105]⟩] 26)).cell? ⟨w1.heap.size, 0, none⟩ = some (.slice (some ⟨w.heap.size + 1, 0, none⟩) 1 1) := by simp
  have q1 : (w1.alloc (Obj.cells #[.slice (some ⟨w.heap.size + 1, 0, none⟩) 1 1, .int .i64 1, .string ⟨#[104, 105]⟩] 26)).cell? ⟨w1.heap.size, 1, none⟩ = some (.int .i64 1) := by simp
  have q2 : (w1.alloc (Obj.cells #[.slice (some ⟨w.heap.size + 1, 0, none⟩) 1 1, .int .i64 1, .string ⟨#[104, 105]⟩] 26)).cell? ⟨w1.heap.size, 2, none⟩ = some (.string ⟨#[104, 105]⟩) := by simp
  have z : w1.heap.size < (w1.alloc (Obj.cells #[.slice (some ⟨w.heap.size + 1, 0, none⟩) 1 1, .int .i64 1, .string ⟨#[104, 105]⟩] 26)).heap.size := by simp
  go_upto_region 2 with fail
  generalize w1.alloc (Obj.cells #[.slice (some ⟨w.heap.size + 1, 0, none⟩) 1 1, .int .i64 1, .string ⟨#[104, 105]⟩] 26) = W at hbA q0 q1 q2 z ⊢
  have hsW := hs.below hbA (Nat.le_refl _)
  have hB := hb1.thru hbA hb1.size
  clear hbA hb1 hs
  generalize w1.heap.size = B at q0 q1 q2 z
  go_wp2_with fail
  have hra := runAtoms_ok (some ⟨w.heap.size + 1, 0, none⟩) 1 [(3, 0)] 1 hiT W hsW hi_chkRun
  rw [hi_atoms] at hra
  refine hra.mono ?_
  clear hra
  rintro e w3 ⟨pA, kA, rfl, HA, _, hb⟩
  have hsW3 := hsW.below hb (Nat.le_refl _)
  replace q0 := (hb.cell (p := ⟨B, 0, none⟩) z).trans q0
  replace q1 := (hb.cell (p := ⟨B, 1, none⟩) z).trans q1
  replace q2 := (hb.cell (p := ⟨B, 2, none⟩) z).trans q2
  replace z := Nat.lt_of_lt_of_le z hb.size
  replace hB := hB.thru hb hB.size
  clear hb hsW
  go_wp2_with fail
  refine (hi_any _).mono ?_
  rintro e w4 ⟨g, rfl, HH, hb⟩
  replace HA := HA.below hb (Nat.le_refl _)
  have hsW4 := hsW3.below hb (Nat.le_refl _)
  replace q0 := (hb.cell (p := ⟨B, 0, none⟩) z).trans q0
  replace q1 := (hb.cell (p := ⟨B, 1, none⟩) z).trans q1
  replace q2 := (hb.cell (p := ⟨B, 2, none⟩) z).trans q2
  replace z := Nat.lt_of_lt_of_le z hb.size
  replace hB := hB.thru hb hB.size
  clear hb hsW3
  go_wp2_with fail
  have hrn := runs_ok (some ⟨g, 0, none⟩) 2 hiL w4 (Nat.le_refl _) (by unfold maxLen; omega) HH hiL_chk
  rw [hi_runs] at hrn
  refine hrn.mono ?_
  clear hrn
  rintro e w5 ⟨pR, kR, rfl, HR, _, hb⟩
  replace HA := HA.below hb (Nat.le_refl _)
  have hsW5 := hsW4.below hb (Nat.le_refl _)
  replace q0 := (hb.cell (p := ⟨B, 0, none⟩) z).trans q0
  replace q1 := (hb.cell (p := ⟨B, 1, none⟩) z).trans q1
  replace q2 := (hb.cell (p := ⟨B, 2, none⟩) z).trans q2
  replace z := Nat.lt_of_lt_of_le z hb.size
  replace hB := hB.thru hb hB.size
  clear hb hsW4 HH
  go_wp2_with fail
  have hck := runCheck_any (some ⟨w.heap.size + 1, 0, none⟩) 1 [(3, 0)] 1 hiT w5 (hml _ (by simp)) (hml _ (by decide)) hsW5
  rw [hi_chkRun] at hck
  refine hck.mono ?_
  clear hck
  rintro e w6 ⟨rfl, hb⟩
  replace HA := HA.below hb (Nat.le_refl _)
  replace HR := HR.below hb (Nat.le_refl _)
  have hsW6 := hsW5.below hb (Nat.le_refl _)
  replace q0 := (hb.cell (p := ⟨B, 0, none⟩) z).trans q0
  replace q1 := (hb.cell (p := ⟨B, 1, none⟩) z).trans q1
  replace q2 := (hb.cell (p := ⟨B, 2, none⟩) z).trans q2
  replace z := Nat.lt_of_lt_of_le z hb.size
  replace hB := hB.thru hb hB.size
  clear hb hsW5
  go_wp2_with fail
  refine (hi_any _).mono ?_
  rintro e w7 ⟨g2, rfl, HH, hb⟩
  replace HA := HA.below hb (Nat.le_refl _)
  replace HR := HR.below hb (Nat.le_refl _)
  have hsW7 := hsW6.below hb (Nat.le_refl _)
  replace q0 := (hb.cell (p := ⟨B, 0, none⟩) z).trans q0
  replace q1 := (hb.cell (p := ⟨B, 1, none⟩) z).trans q1
  replace q2 := (hb.cell (p := ⟨B, 2, none⟩) z).trans q2
  replace z := Nat.lt_of_lt_of_le z hb.size
  replace hB := hB.thru hb hB.size
  clear hb hsW6
  go_wp2_with fail
  refine (sameAtoms_any _ _ _ _ hiL hiL _ (hml _ (by decide)) (hml _ (by decide)) HA HH).mono ?_
  rintro e w8 ⟨rfl, hb⟩
  rw [sameL_refl]
  replace HR := HR.below hb (Nat.le_refl _)
  have hsW8 := hsW7.below hb (Nat.le_refl _)
  replace q0 := (hb.cell (p := ⟨B, 0, none⟩) z).trans q0
  replace q1 := (hb.cell (p := ⟨B, 1, none⟩) z).trans q1
  replace q2 := (hb.cell (p := ⟨B, 2, none⟩) z).trans q2
  replace z := Nat.lt_of_lt_of_le z hb.size
  replace hB := hB.thru hb hB.size
  clear hb hsW7 HA HH
  go_wp2_with fail
  have hbN := (Below.refl w8.heap.size w8).alloc (Nat.le_refl _) (Obj.cells #[.slice (some ⟨w.heap.size + 1, 0, none⟩) 1 1, .int .i64 1, .string ⟨#[104, 105]⟩] 26)
  have h1 := runsAt_one w8 (some ⟨w.heap.size + 1, 0, none⟩) 1 ⟨[(3, 0)], 1, hiT⟩ hsW8 (hml _ (by simp)) (hml _ (by decide))
  refine (sameRuns_true _ _ _ _ [⟨[(3, 0)], 1, hiT⟩] _ (hml _ (by simp)) (HR.below hbN (Nat.le_refl _)) h1).mono ?_
  rintro e w9 ⟨rfl, hb⟩
  replace hB := hB.thru hbN hB.size
  go_wp2_with fail
  go_ret
  exact ⟨rfl, hB.thru hb hB.size⟩
end Go.Proofs.Ytcggeeejkgndmab
