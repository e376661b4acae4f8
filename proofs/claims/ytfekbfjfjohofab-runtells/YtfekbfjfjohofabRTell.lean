/- The contract of RunTells. -/
import Derived.Test.YtfekbfjfjohofabRBeg
import Derived.Test.YtfekbfjfjohofabRunsOfW
import Derived.Test.YtfekbfjfjohofabAtomsOf
namespace Go.Proofs.Ytfekbfjfjohofab
open Go.RowKit

theorem runsL_len' (l : List At) : (runsL l).length ≤ l.length := by
  have key : ∀ k, (pst l k).1.length ≤ k := by
    intro k
    induction k with
    | zero => simp [pst]
    | succ k ih =>
      unfold pst
      split
      · omega
      · simp; omega
  have := key l.length
  simpa [runsL] using this

theorem stepsAt_some {w : World} {a : Option Addr} {l : List (Int × Int)} (h : StepsAt w a l) (hl : 0 < l.length) : ∃ b off, a = some ⟨b, off, none⟩ := by
  rcases h with e | ⟨b, off, rfl, _⟩
  · rw [e] at hl; simp at hl
  · exact ⟨b, off, rfl⟩

set_option maxRecDepth 100000 in
set_option maxHeartbeats 8000000 in
theorem runTells_11 (a : Option Addr) (cap : Nat) (l : List (Int × Int)) (c : Int) (t : ByteArray) (b : Option Addr) (kb : Nat) (m : List At) (w : World) (hl : l.length ≤ maxLen) (ht : t.size ≤ maxLen) (hm : m.length ≤ maxLen) (hmk : m.length ≤ kb) (hkb : kb ≤ maxLen) (hs : StepsAt w a l) (H : AtomsAt w b m) (hv : chkRun l c t = 0) (hw : chkL m = 0) :
    Calls Try.prog 3 #[.agg #[.slice a l.length cap, .int .i64 c, .string t], .slice b m.length kb] w fun e w' => e = .returned (.bool true) ∧ Below w.heap.size w w' := by
  have HV := hidE hv
  have HW := hidE hw
  clear hv hw
  have HOR := hidE (okRun_of HV.out)
  have hal : (atomsR l c t).length ≤ maxLen := by simp [atomsR]; exact ht
  obtain ⟨ab, ao, rfl⟩ := stepsAt_some hs (chk_ok HOR.out.mark).1
  have HOL := hidE (okL_of HW.out)
  have hrl : (runsL m).length ≤ maxLen := Nat.le_trans (runsL_len' m) hm
  have hB := (Below.refl w.heap.size w).alloc (Nat.le_refl _) (Obj.cells #[.slice (some ⟨ab, ao, none⟩) l.length cap, .int .i64 c, .string t] 26)
  have q0 : (w.alloc (Obj.cells #[.slice (some ⟨ab, ao, none⟩) l.length cap, .int .i64 c, .string t] 26)).cell? ⟨w.heap.size, 0, none⟩ = some (.slice (some ⟨ab, ao, none⟩) l.length cap) := by simp
  have q1 : (w.alloc (Obj.cells #[.slice (some ⟨ab, ao, none⟩) l.length cap, .int .i64 c, .string t] 26)).cell? ⟨w.heap.size, 1, none⟩ = some (.int .i64 c) := by simp
  have q2 : (w.alloc (Obj.cells #[.slice (some ⟨ab, ao, none⟩) l.length cap, .int .i64 c, .string t] 26)).cell? ⟨w.heap.size, 2, none⟩ = some (.string t) := by simp
  have z : w.heap.size < (w.alloc (Obj.cells #[.slice (some ⟨ab, ao, none⟩) l.length cap, .int .i64 c, .string t] 26)).heap.size := by simp
  replace hs := hs.below hB (Nat.le_refl _)
  replace H := H.below hB (Nat.le_refl _)
  go_enter Try.func3, Try.ntmps3
  go_upto_region 1 with fail
  generalize w.alloc (Obj.cells #[.slice (some ⟨ab, ao, none⟩) l.length cap, .int .i64 c, .string t] 26) = W at hB q0 q1 q2 z hs H ⊢
  generalize hZ : w.heap.size = Z at q0 q1 q2 z
  go_wp2_with fail
  refine (runAtoms_ok _ _ l c t _ hs HV.out).mono ?_
  rintro e w1 ⟨pA, kA, rfl, HA, _, hb⟩
  replace q0 := (hb.cell (p := ⟨Z, 0, none⟩) z).trans q0
  replace q1 := (hb.cell (p := ⟨Z, 1, none⟩) z).trans q1
  replace q2 := (hb.cell (p := ⟨Z, 2, none⟩) z).trans q2
  replace z := Nat.lt_of_lt_of_le z hb.size
  replace hs := hs.below hb (Nat.le_refl _)
  replace H := H.below hb (Nat.le_refl _)
  replace hB := hB.thru hb hB.size
  clear hb
  go_wp2_with fail
  refine (runs_ok _ _ m _ hmk hkb H HW.out).mono ?_
  rintro e w2 ⟨pR, kR, rfl, HR, _, hb⟩
  replace q0 := (hb.cell (p := ⟨Z, 0, none⟩) z).trans q0
  replace q1 := (hb.cell (p := ⟨Z, 1, none⟩) z).trans q1
  replace q2 := (hb.cell (p := ⟨Z, 2, none⟩) z).trans q2
  replace z := Nat.lt_of_lt_of_le z hb.size
  replace hs := hs.below hb (Nat.le_refl _)
  replace H := H.below hb (Nat.le_refl _)
  replace HA := HA.below hb (Nat.le_refl _)
  replace hB := hB.thru hb hB.size
  clear hb
  go_wp2_with fail
  refine (checkRun_any _ _ l c t _ hl ht hs).mono ?_
  rintro e w3 ⟨rfl, hb⟩
  rw [HV.out]
  replace q0 := (hb.cell (p := ⟨Z, 0, none⟩) z).trans q0
  replace q1 := (hb.cell (p := ⟨Z, 1, none⟩) z).trans q1
  replace q2 := (hb.cell (p := ⟨Z, 2, none⟩) z).trans q2
  replace z := Nat.lt_of_lt_of_le z hb.size
  replace hs := hs.below hb (Nat.le_refl _)
  replace H := H.below hb (Nat.le_refl _)
  replace HA := HA.below hb (Nat.le_refl _)
  replace HR := HR.below hb (Nat.le_refl _)
  replace hB := hB.thru hb hB.size
  clear hb
  go_wp2_with fail
  refine (checkAtoms_any _ _ m _ hm H).mono ?_
  rintro e w4 ⟨rfl, hb⟩
  rw [HW.out]
  replace q0 := (hb.cell (p := ⟨Z, 0, none⟩) z).trans q0
  replace q1 := (hb.cell (p := ⟨Z, 1, none⟩) z).trans q1
  replace q2 := (hb.cell (p := ⟨Z, 2, none⟩) z).trans q2
  replace z := Nat.lt_of_lt_of_le z hb.size
  replace hs := hs.below hb (Nat.le_refl _)
  replace H := H.below hb (Nat.le_refl _)
  replace HA := HA.below hb (Nat.le_refl _)
  replace HR := HR.below hb (Nat.le_refl _)
  replace hB := hB.thru hb hB.size
  clear hb
  go_wp2_with fail
  refine (atomsOf_ok ab ao _ l c t _ HOR.out hs).mono ?_
  rintro e w5 ⟨pA2, kA2, rfl, HA2, hb⟩
  replace q0 := (hb.cell (p := ⟨Z, 0, none⟩) z).trans q0
  replace q1 := (hb.cell (p := ⟨Z, 1, none⟩) z).trans q1
  replace q2 := (hb.cell (p := ⟨Z, 2, none⟩) z).trans q2
  replace z := Nat.lt_of_lt_of_le z hb.size
  replace hs := hs.below hb (Nat.le_refl _)
  replace H := H.below hb (Nat.le_refl _)
  replace HA := HA.below hb (Nat.le_refl _)
  replace HR := HR.below hb (Nat.le_refl _)
  replace hB := hB.thru hb hB.size
  clear hb
  go_wp2_with fail
  refine (runsOf_ok _ _ m _ H HOL.out).mono ?_
  rintro e w6 ⟨pR2, kR2, rfl, HR2, hb⟩
  replace q0 := (hb.cell (p := ⟨Z, 0, none⟩) z).trans q0
  replace q1 := (hb.cell (p := ⟨Z, 1, none⟩) z).trans q1
  replace q2 := (hb.cell (p := ⟨Z, 2, none⟩) z).trans q2
  replace z := Nat.lt_of_lt_of_le z hb.size
  replace hs := hs.below hb (Nat.le_refl _)
  replace H := H.below hb (Nat.le_refl _)
  replace HA := HA.below hb (Nat.le_refl _)
  replace HR := HR.below hb (Nat.le_refl _)
  replace HA2 := HA2.below hb (Nat.le_refl _)
  replace hB := hB.thru hb hB.size
  clear hb
  go_wp2_with fail
  refine (runBegun_true _).mono ?_
  rintro e w7 ⟨rfl, hb⟩
  replace q0 := (hb.cell (p := ⟨Z, 0, none⟩) z).trans q0
  replace q1 := (hb.cell (p := ⟨Z, 1, none⟩) z).trans q1
  replace q2 := (hb.cell (p := ⟨Z, 2, none⟩) z).trans q2
  replace z := Nat.lt_of_lt_of_le z hb.size
  replace hs := hs.below hb (Nat.le_refl _)
  replace H := H.below hb (Nat.le_refl _)
  replace HA := HA.below hb (Nat.le_refl _)
  replace HR := HR.below hb (Nat.le_refl _)
  replace HA2 := HA2.below hb (Nat.le_refl _)
  replace HR2 := HR2.below hb (Nat.le_refl _)
  replace hB := hB.thru hb hB.size
  clear hb
  go_wp2_with fail
  refine (runCheck_any _ _ l c t _ hl ht hs).mono ?_
  rintro e w8 ⟨rfl, hb⟩
  rw [HV.out]
  replace q0 := (hb.cell (p := ⟨Z, 0, none⟩) z).trans q0
  replace q1 := (hb.cell (p := ⟨Z, 1, none⟩) z).trans q1
  replace q2 := (hb.cell (p := ⟨Z, 2, none⟩) z).trans q2
  replace z := Nat.lt_of_lt_of_le z hb.size
  replace hs := hs.below hb (Nat.le_refl _)
  replace H := H.below hb (Nat.le_refl _)
  replace HA := HA.below hb (Nat.le_refl _)
  replace HR := HR.below hb (Nat.le_refl _)
  replace HA2 := HA2.below hb (Nat.le_refl _)
  replace HR2 := HR2.below hb (Nat.le_refl _)
  replace hB := hB.thru hb hB.size
  clear hb
  go_wp2_with fail
  refine (atomsAre_any _ _ _ _ (atomsR l c t) (atomsR l c t) 0 0 _ hal hal HA HA2 rfl (by rw [if_pos rfl, sameL_refl])).mono ?_
  rintro e w9 ⟨rfl, hb⟩
  replace q0 := (hb.cell (p := ⟨Z, 0, none⟩) z).trans q0
  replace q1 := (hb.cell (p := ⟨Z, 1, none⟩) z).trans q1
  replace q2 := (hb.cell (p := ⟨Z, 2, none⟩) z).trans q2
  replace z := Nat.lt_of_lt_of_le z hb.size
  replace hs := hs.below hb (Nat.le_refl _)
  replace H := H.below hb (Nat.le_refl _)
  replace HA := HA.below hb (Nat.le_refl _)
  replace HR := HR.below hb (Nat.le_refl _)
  replace HA2 := HA2.below hb (Nat.le_refl _)
  replace HR2 := HR2.below hb (Nat.le_refl _)
  replace hB := hB.thru hb hB.size
  clear hb
  go_wp2_with fail
  refine (sameRuns_true _ _ _ _ (runsL m) _ hrl HR HR2).mono ?_
  rintro e w10 ⟨rfl, hb⟩
  replace q0 := (hb.cell (p := ⟨Z, 0, none⟩) z).trans q0
  replace q1 := (hb.cell (p := ⟨Z, 1, none⟩) z).trans q1
  replace q2 := (hb.cell (p := ⟨Z, 2, none⟩) z).trans q2
  replace z := Nat.lt_of_lt_of_le z hb.size
  replace hs := hs.below hb (Nat.le_refl _)
  replace H := H.below hb (Nat.le_refl _)
  replace HA := HA.below hb (Nat.le_refl _)
  replace HR := HR.below hb (Nat.le_refl _)
  replace HA2 := HA2.below hb (Nat.le_refl _)
  replace HR2 := HR2.below hb (Nat.le_refl _)
  replace hB := hB.thru hb hB.size
  clear hb
  go_wp2_with fail
  go_ret
  exact ⟨rfl, hB⟩

set_option maxRecDepth 100000 in
set_option maxHeartbeats 8000000 in
theorem runTells_10 (a : Option Addr) (cap : Nat) (l : List (Int × Int)) (c : Int) (t : ByteArray) (b : Option Addr) (kb : Nat) (m : List At) (w : World) (hl : l.length ≤ maxLen) (ht : t.size ≤ maxLen) (hm : m.length ≤ maxLen) (_hmk : m.length ≤ kb) (_hkb : kb ≤ maxLen) (hs : StepsAt w a l) (H : AtomsAt w b m) (hv : chkRun l c t = 0) (hw : chkL m ≠ 0) :
    Calls Try.prog 3 #[.agg #[.slice a l.length cap, .int .i64 c, .string t], .slice b m.length kb] w fun e w' => e = .returned (.bool true) ∧ Below w.heap.size w w' := by
  have HV := hidE hv
  have HW := hidE hw
  have hw1 : (chkL m == 0) = false := beq_eq_false_iff_ne.2 hw
  clear hv hw
  have HOR := hidE (okRun_of HV.out)
  have hal : (atomsR l c t).length ≤ maxLen := by simp [atomsR]; exact ht
  obtain ⟨ab, ao, rfl⟩ := stepsAt_some hs (chk_ok HOR.out.mark).1
  have hB := (Below.refl w.heap.size w).alloc (Nat.le_refl _) (Obj.cells #[.slice (some ⟨ab, ao, none⟩) l.length cap, .int .i64 c, .string t] 26)
  have q0 : (w.alloc (Obj.cells #[.slice (some ⟨ab, ao, none⟩) l.length cap, .int .i64 c, .string t] 26)).cell? ⟨w.heap.size, 0, none⟩ = some (.slice (some ⟨ab, ao, none⟩) l.length cap) := by simp
  have q1 : (w.alloc (Obj.cells #[.slice (some ⟨ab, ao, none⟩) l.length cap, .int .i64 c, .string t] 26)).cell? ⟨w.heap.size, 1, none⟩ = some (.int .i64 c) := by simp
  have q2 : (w.alloc (Obj.cells #[.slice (some ⟨ab, ao, none⟩) l.length cap, .int .i64 c, .string t] 26)).cell? ⟨w.heap.size, 2, none⟩ = some (.string t) := by simp
  have z : w.heap.size < (w.alloc (Obj.cells #[.slice (some ⟨ab, ao, none⟩) l.length cap, .int .i64 c, .string t] 26)).heap.size := by simp
  replace hs := hs.below hB (Nat.le_refl _)
  replace H := H.below hB (Nat.le_refl _)
  go_enter Try.func3, Try.ntmps3
  go_upto_region 1 with fail
  generalize w.alloc (Obj.cells #[.slice (some ⟨ab, ao, none⟩) l.length cap, .int .i64 c, .string t] 26) = W at hB q0 q1 q2 z hs H ⊢
  generalize hZ : w.heap.size = Z at q0 q1 q2 z
  go_wp2_with fail
  refine (runAtoms_ok _ _ l c t _ hs HV.out).mono ?_
  rintro e w1 ⟨pA, kA, rfl, HA, _, hb⟩
  replace q0 := (hb.cell (p := ⟨Z, 0, none⟩) z).trans q0
  replace q1 := (hb.cell (p := ⟨Z, 1, none⟩) z).trans q1
  replace q2 := (hb.cell (p := ⟨Z, 2, none⟩) z).trans q2
  replace z := Nat.lt_of_lt_of_le z hb.size
  replace hs := hs.below hb (Nat.le_refl _)
  replace H := H.below hb (Nat.le_refl _)
  replace hB := hB.thru hb hB.size
  clear hb
  go_wp2_with fail
  refine (runs_bad _ _ m _ hm H HW.out).mono ?_
  rintro e w2 ⟨rfl, hb⟩
  replace q0 := (hb.cell (p := ⟨Z, 0, none⟩) z).trans q0
  replace q1 := (hb.cell (p := ⟨Z, 1, none⟩) z).trans q1
  replace q2 := (hb.cell (p := ⟨Z, 2, none⟩) z).trans q2
  replace z := Nat.lt_of_lt_of_le z hb.size
  replace hs := hs.below hb (Nat.le_refl _)
  replace H := H.below hb (Nat.le_refl _)
  replace HA := HA.below hb (Nat.le_refl _)
  replace hB := hB.thru hb hB.size
  clear hb
  go_wp2_with fail
  refine (checkRun_any _ _ l c t _ hl ht hs).mono ?_
  rintro e w3 ⟨rfl, hb⟩
  rw [HV.out]
  replace q0 := (hb.cell (p := ⟨Z, 0, none⟩) z).trans q0
  replace q1 := (hb.cell (p := ⟨Z, 1, none⟩) z).trans q1
  replace q2 := (hb.cell (p := ⟨Z, 2, none⟩) z).trans q2
  replace z := Nat.lt_of_lt_of_le z hb.size
  replace hs := hs.below hb (Nat.le_refl _)
  replace H := H.below hb (Nat.le_refl _)
  replace HA := HA.below hb (Nat.le_refl _)
  replace hB := hB.thru hb hB.size
  clear hb
  go_wp2_with fail
  refine (checkAtoms_any _ _ m _ hm H).mono ?_
  rintro e w4 ⟨rfl, hb⟩
  replace q0 := (hb.cell (p := ⟨Z, 0, none⟩) z).trans q0
  replace q1 := (hb.cell (p := ⟨Z, 1, none⟩) z).trans q1
  replace q2 := (hb.cell (p := ⟨Z, 2, none⟩) z).trans q2
  replace z := Nat.lt_of_lt_of_le z hb.size
  replace hs := hs.below hb (Nat.le_refl _)
  replace H := H.below hb (Nat.le_refl _)
  replace HA := HA.below hb (Nat.le_refl _)
  replace hB := hB.thru hb hB.size
  clear hb
  go_wp2_with fail
  refine (atomsOf_ok ab ao _ l c t _ HOR.out hs).mono ?_
  rintro e w5 ⟨pA2, kA2, rfl, HA2, hb⟩
  replace q0 := (hb.cell (p := ⟨Z, 0, none⟩) z).trans q0
  replace q1 := (hb.cell (p := ⟨Z, 1, none⟩) z).trans q1
  replace q2 := (hb.cell (p := ⟨Z, 2, none⟩) z).trans q2
  replace z := Nat.lt_of_lt_of_le z hb.size
  replace hs := hs.below hb (Nat.le_refl _)
  replace H := H.below hb (Nat.le_refl _)
  replace HA := HA.below hb (Nat.le_refl _)
  replace hB := hB.thru hb hB.size
  clear hb
  go_wp2_with fail
  refine (runBegun_true _).mono ?_
  rintro e w6 ⟨rfl, hb⟩
  replace q0 := (hb.cell (p := ⟨Z, 0, none⟩) z).trans q0
  replace q1 := (hb.cell (p := ⟨Z, 1, none⟩) z).trans q1
  replace q2 := (hb.cell (p := ⟨Z, 2, none⟩) z).trans q2
  replace z := Nat.lt_of_lt_of_le z hb.size
  replace hs := hs.below hb (Nat.le_refl _)
  replace H := H.below hb (Nat.le_refl _)
  replace HA := HA.below hb (Nat.le_refl _)
  replace HA2 := HA2.below hb (Nat.le_refl _)
  replace hB := hB.thru hb hB.size
  clear hb
  go_wp2_with fail
  refine (runCheck_any _ _ l c t _ hl ht hs).mono ?_
  rintro e w7 ⟨rfl, hb⟩
  rw [HV.out]
  replace q0 := (hb.cell (p := ⟨Z, 0, none⟩) z).trans q0
  replace q1 := (hb.cell (p := ⟨Z, 1, none⟩) z).trans q1
  replace q2 := (hb.cell (p := ⟨Z, 2, none⟩) z).trans q2
  replace z := Nat.lt_of_lt_of_le z hb.size
  replace hs := hs.below hb (Nat.le_refl _)
  replace H := H.below hb (Nat.le_refl _)
  replace HA := HA.below hb (Nat.le_refl _)
  replace HA2 := HA2.below hb (Nat.le_refl _)
  replace hB := hB.thru hb hB.size
  clear hb
  go_wp2_with fail
  refine (atomsAre_any _ _ _ _ (atomsR l c t) (atomsR l c t) 0 0 _ hal hal HA HA2 rfl (by rw [if_pos rfl, sameL_refl])).mono ?_
  rintro e w8 ⟨rfl, hb⟩
  replace q0 := (hb.cell (p := ⟨Z, 0, none⟩) z).trans q0
  replace q1 := (hb.cell (p := ⟨Z, 1, none⟩) z).trans q1
  replace q2 := (hb.cell (p := ⟨Z, 2, none⟩) z).trans q2
  replace z := Nat.lt_of_lt_of_le z hb.size
  replace hs := hs.below hb (Nat.le_refl _)
  replace H := H.below hb (Nat.le_refl _)
  replace HA := HA.below hb (Nat.le_refl _)
  replace HA2 := HA2.below hb (Nat.le_refl _)
  replace hB := hB.thru hb hB.size
  clear hb
  go_wp2_with fail
  refine (sameRuns_true none none 0 0 [] _ (Nat.zero_le _) (Or.inl rfl) (Or.inl rfl)).mono ?_
  rintro e w9 ⟨rfl, hb⟩
  replace q0 := (hb.cell (p := ⟨Z, 0, none⟩) z).trans q0
  replace q1 := (hb.cell (p := ⟨Z, 1, none⟩) z).trans q1
  replace q2 := (hb.cell (p := ⟨Z, 2, none⟩) z).trans q2
  replace z := Nat.lt_of_lt_of_le z hb.size
  replace hs := hs.below hb (Nat.le_refl _)
  replace H := H.below hb (Nat.le_refl _)
  replace HA := HA.below hb (Nat.le_refl _)
  replace HA2 := HA2.below hb (Nat.le_refl _)
  replace hB := hB.thru hb hB.size
  clear hb
  go_wp2_with fail
  go_ret
  exact ⟨rfl, hB⟩

set_option maxRecDepth 100000 in
set_option maxHeartbeats 8000000 in
theorem runTells_01 (a : Option Addr) (cap : Nat) (l : List (Int × Int)) (c : Int) (t : ByteArray) (b : Option Addr) (kb : Nat) (m : List At) (w : World) (hl : l.length ≤ maxLen) (ht : t.size ≤ maxLen) (hm : m.length ≤ maxLen) (hmk : m.length ≤ kb) (hkb : kb ≤ maxLen) (hs : StepsAt w a l) (H : AtomsAt w b m) (hv : chkRun l c t ≠ 0) (hw : chkL m = 0) :
    Calls Try.prog 3 #[.agg #[.slice a l.length cap, .int .i64 c, .string t], .slice b m.length kb] w fun e w' => e = .returned (.bool true) ∧ Below w.heap.size w w' := by
  have HV := hidE hv
  have HW := hidE hw
  have hv1 : (chkRun l c t == 0) = false := beq_eq_false_iff_ne.2 hv
  clear hv hw
  have HOL := hidE (okL_of HW.out)
  have hrl : (runsL m).length ≤ maxLen := Nat.le_trans (runsL_len' m) hm
  have hB := (Below.refl w.heap.size w).alloc (Nat.le_refl _) (Obj.cells #[.slice a l.length cap, .int .i64 c, .string t] 26)
  have q0 : (w.alloc (Obj.cells #[.slice a l.length cap, .int .i64 c, .string t] 26)).cell? ⟨w.heap.size, 0, none⟩ = some (.slice a l.length cap) := by simp
  have q1 : (w.alloc (Obj.cells #[.slice a l.length cap, .int .i64 c, .string t] 26)).cell? ⟨w.heap.size, 1, none⟩ = some (.int .i64 c) := by simp
  have q2 : (w.alloc (Obj.cells #[.slice a l.length cap, .int .i64 c, .string t] 26)).cell? ⟨w.heap.size, 2, none⟩ = some (.string t) := by simp
  have z : w.heap.size < (w.alloc (Obj.cells #[.slice a l.length cap, .int .i64 c, .string t] 26)).heap.size := by simp
  replace hs := hs.below hB (Nat.le_refl _)
  replace H := H.below hB (Nat.le_refl _)
  go_enter Try.func3, Try.ntmps3
  go_upto_region 1 with fail
  generalize w.alloc (Obj.cells #[.slice a l.length cap, .int .i64 c, .string t] 26) = W at hB q0 q1 q2 z hs H ⊢
  generalize hZ : w.heap.size = Z at q0 q1 q2 z
  go_wp2_with fail
  refine (runAtoms_bad _ _ l c t _ hl ht hs HV.out).mono ?_
  rintro e w1 ⟨rfl, hb⟩
  replace q0 := (hb.cell (p := ⟨Z, 0, none⟩) z).trans q0
  replace q1 := (hb.cell (p := ⟨Z, 1, none⟩) z).trans q1
  replace q2 := (hb.cell (p := ⟨Z, 2, none⟩) z).trans q2
  replace z := Nat.lt_of_lt_of_le z hb.size
  replace hs := hs.below hb (Nat.le_refl _)
  replace H := H.below hb (Nat.le_refl _)
  replace hB := hB.thru hb hB.size
  clear hb
  go_wp2_with fail
  refine (runs_ok _ _ m _ hmk hkb H HW.out).mono ?_
  rintro e w2 ⟨pR, kR, rfl, HR, _, hb⟩
  replace q0 := (hb.cell (p := ⟨Z, 0, none⟩) z).trans q0
  replace q1 := (hb.cell (p := ⟨Z, 1, none⟩) z).trans q1
  replace q2 := (hb.cell (p := ⟨Z, 2, none⟩) z).trans q2
  replace z := Nat.lt_of_lt_of_le z hb.size
  replace hs := hs.below hb (Nat.le_refl _)
  replace H := H.below hb (Nat.le_refl _)
  replace hB := hB.thru hb hB.size
  clear hb
  go_wp2_with fail
  refine (checkRun_any _ _ l c t _ hl ht hs).mono ?_
  rintro e w3 ⟨rfl, hb⟩
  replace q0 := (hb.cell (p := ⟨Z, 0, none⟩) z).trans q0
  replace q1 := (hb.cell (p := ⟨Z, 1, none⟩) z).trans q1
  replace q2 := (hb.cell (p := ⟨Z, 2, none⟩) z).trans q2
  replace z := Nat.lt_of_lt_of_le z hb.size
  replace hs := hs.below hb (Nat.le_refl _)
  replace H := H.below hb (Nat.le_refl _)
  replace HR := HR.below hb (Nat.le_refl _)
  replace hB := hB.thru hb hB.size
  clear hb
  go_wp2_with fail
  refine (checkAtoms_any _ _ m _ hm H).mono ?_
  rintro e w4 ⟨rfl, hb⟩
  rw [HW.out]
  replace q0 := (hb.cell (p := ⟨Z, 0, none⟩) z).trans q0
  replace q1 := (hb.cell (p := ⟨Z, 1, none⟩) z).trans q1
  replace q2 := (hb.cell (p := ⟨Z, 2, none⟩) z).trans q2
  replace z := Nat.lt_of_lt_of_le z hb.size
  replace hs := hs.below hb (Nat.le_refl _)
  replace H := H.below hb (Nat.le_refl _)
  replace HR := HR.below hb (Nat.le_refl _)
  replace hB := hB.thru hb hB.size
  clear hb
  go_wp2_with fail
  refine (runsOf_ok _ _ m _ H HOL.out).mono ?_
  rintro e w5 ⟨pR2, kR2, rfl, HR2, hb⟩
  replace q0 := (hb.cell (p := ⟨Z, 0, none⟩) z).trans q0
  replace q1 := (hb.cell (p := ⟨Z, 1, none⟩) z).trans q1
  replace q2 := (hb.cell (p := ⟨Z, 2, none⟩) z).trans q2
  replace z := Nat.lt_of_lt_of_le z hb.size
  replace hs := hs.below hb (Nat.le_refl _)
  replace H := H.below hb (Nat.le_refl _)
  replace HR := HR.below hb (Nat.le_refl _)
  replace hB := hB.thru hb hB.size
  clear hb
  go_wp2_with fail
  refine (runBegun_true _).mono ?_
  rintro e w6 ⟨rfl, hb⟩
  replace q0 := (hb.cell (p := ⟨Z, 0, none⟩) z).trans q0
  replace q1 := (hb.cell (p := ⟨Z, 1, none⟩) z).trans q1
  replace q2 := (hb.cell (p := ⟨Z, 2, none⟩) z).trans q2
  replace z := Nat.lt_of_lt_of_le z hb.size
  replace hs := hs.below hb (Nat.le_refl _)
  replace H := H.below hb (Nat.le_refl _)
  replace HR := HR.below hb (Nat.le_refl _)
  replace HR2 := HR2.below hb (Nat.le_refl _)
  replace hB := hB.thru hb hB.size
  clear hb
  go_wp2_with fail
  refine (runCheck_any _ _ l c t _ hl ht hs).mono ?_
  rintro e w7 ⟨rfl, hb⟩
  replace q0 := (hb.cell (p := ⟨Z, 0, none⟩) z).trans q0
  replace q1 := (hb.cell (p := ⟨Z, 1, none⟩) z).trans q1
  replace q2 := (hb.cell (p := ⟨Z, 2, none⟩) z).trans q2
  replace z := Nat.lt_of_lt_of_le z hb.size
  replace hs := hs.below hb (Nat.le_refl _)
  replace H := H.below hb (Nat.le_refl _)
  replace HR := HR.below hb (Nat.le_refl _)
  replace HR2 := HR2.below hb (Nat.le_refl _)
  replace hB := hB.thru hb hB.size
  clear hb
  go_wp2_with fail
  refine (atomsAre_any none none 0 0 [] [] (chkRun l c t) (chkRun l c t) _ (Nat.zero_le _) (Nat.zero_le _) (Or.inl rfl) (Or.inl rfl) rfl (by split <;> rfl)).mono ?_
  rintro e w8 ⟨rfl, hb⟩
  replace q0 := (hb.cell (p := ⟨Z, 0, none⟩) z).trans q0
  replace q1 := (hb.cell (p := ⟨Z, 1, none⟩) z).trans q1
  replace q2 := (hb.cell (p := ⟨Z, 2, none⟩) z).trans q2
  replace z := Nat.lt_of_lt_of_le z hb.size
  replace hs := hs.below hb (Nat.le_refl _)
  replace H := H.below hb (Nat.le_refl _)
  replace HR := HR.below hb (Nat.le_refl _)
  replace HR2 := HR2.below hb (Nat.le_refl _)
  replace hB := hB.thru hb hB.size
  clear hb
  go_wp2_with fail
  refine (sameRuns_true _ _ _ _ (runsL m) _ hrl HR HR2).mono ?_
  rintro e w9 ⟨rfl, hb⟩
  replace q0 := (hb.cell (p := ⟨Z, 0, none⟩) z).trans q0
  replace q1 := (hb.cell (p := ⟨Z, 1, none⟩) z).trans q1
  replace q2 := (hb.cell (p := ⟨Z, 2, none⟩) z).trans q2
  replace z := Nat.lt_of_lt_of_le z hb.size
  replace hs := hs.below hb (Nat.le_refl _)
  replace H := H.below hb (Nat.le_refl _)
  replace HR := HR.below hb (Nat.le_refl _)
  replace HR2 := HR2.below hb (Nat.le_refl _)
  replace hB := hB.thru hb hB.size
  clear hb
  go_wp2_with fail
  go_ret
  exact ⟨rfl, hB⟩

set_option maxRecDepth 100000 in
set_option maxHeartbeats 8000000 in
theorem runTells_00 (a : Option Addr) (cap : Nat) (l : List (Int × Int)) (c : Int) (t : ByteArray) (b : Option Addr) (kb : Nat) (m : List At) (w : World) (hl : l.length ≤ maxLen) (ht : t.size ≤ maxLen) (hm : m.length ≤ maxLen) (_hmk : m.length ≤ kb) (_hkb : kb ≤ maxLen) (hs : StepsAt w a l) (H : AtomsAt w b m) (hv : chkRun l c t ≠ 0) (hw : chkL m ≠ 0) :
    Calls Try.prog 3 #[.agg #[.slice a l.length cap, .int .i64 c, .string t], .slice b m.length kb] w fun e w' => e = .returned (.bool true) ∧ Below w.heap.size w w' := by
  have HV := hidE hv
  have HW := hidE hw
  have hv1 : (chkRun l c t == 0) = false := beq_eq_false_iff_ne.2 hv
  have hw1 : (chkL m == 0) = false := beq_eq_false_iff_ne.2 hw
  clear hv hw
  have hB := (Below.refl w.heap.size w).alloc (Nat.le_refl _) (Obj.cells #[.slice a l.length cap, .int .i64 c, .string t] 26)
  have q0 : (w.alloc (Obj.cells #[.slice a l.length cap, .int .i64 c, .string t] 26)).cell? ⟨w.heap.size, 0, none⟩ = some (.slice a l.length cap) := by simp
  have q1 : (w.alloc (Obj.cells #[.slice a l.length cap, .int .i64 c, .string t] 26)).cell? ⟨w.heap.size, 1, none⟩ = some (.int .i64 c) := by simp
  have q2 : (w.alloc (Obj.cells #[.slice a l.length cap, .int .i64 c, .string t] 26)).cell? ⟨w.heap.size, 2, none⟩ = some (.string t) := by simp
  have z : w.heap.size < (w.alloc (Obj.cells #[.slice a l.length cap, .int .i64 c, .string t] 26)).heap.size := by simp
  replace hs := hs.below hB (Nat.le_refl _)
  replace H := H.below hB (Nat.le_refl _)
  go_enter Try.func3, Try.ntmps3
  go_upto_region 1 with fail
  generalize w.alloc (Obj.cells #[.slice a l.length cap, .int .i64 c, .string t] 26) = W at hB q0 q1 q2 z hs H ⊢
  generalize hZ : w.heap.size = Z at q0 q1 q2 z
  go_wp2_with fail
  refine (runAtoms_bad _ _ l c t _ hl ht hs HV.out).mono ?_
  rintro e w1 ⟨rfl, hb⟩
  replace q0 := (hb.cell (p := ⟨Z, 0, none⟩) z).trans q0
  replace q1 := (hb.cell (p := ⟨Z, 1, none⟩) z).trans q1
  replace q2 := (hb.cell (p := ⟨Z, 2, none⟩) z).trans q2
  replace z := Nat.lt_of_lt_of_le z hb.size
  replace hs := hs.below hb (Nat.le_refl _)
  replace H := H.below hb (Nat.le_refl _)
  replace hB := hB.thru hb hB.size
  clear hb
  go_wp2_with fail
  refine (runs_bad _ _ m _ hm H HW.out).mono ?_
  rintro e w2 ⟨rfl, hb⟩
  replace q0 := (hb.cell (p := ⟨Z, 0, none⟩) z).trans q0
  replace q1 := (hb.cell (p := ⟨Z, 1, none⟩) z).trans q1
  replace q2 := (hb.cell (p := ⟨Z, 2, none⟩) z).trans q2
  replace z := Nat.lt_of_lt_of_le z hb.size
  replace hs := hs.below hb (Nat.le_refl _)
  replace H := H.below hb (Nat.le_refl _)
  replace hB := hB.thru hb hB.size
  clear hb
  go_wp2_with fail
  refine (checkRun_any _ _ l c t _ hl ht hs).mono ?_
  rintro e w3 ⟨rfl, hb⟩
  replace q0 := (hb.cell (p := ⟨Z, 0, none⟩) z).trans q0
  replace q1 := (hb.cell (p := ⟨Z, 1, none⟩) z).trans q1
  replace q2 := (hb.cell (p := ⟨Z, 2, none⟩) z).trans q2
  replace z := Nat.lt_of_lt_of_le z hb.size
  replace hs := hs.below hb (Nat.le_refl _)
  replace H := H.below hb (Nat.le_refl _)
  replace hB := hB.thru hb hB.size
  clear hb
  go_wp2_with fail
  refine (checkAtoms_any _ _ m _ hm H).mono ?_
  rintro e w4 ⟨rfl, hb⟩
  replace q0 := (hb.cell (p := ⟨Z, 0, none⟩) z).trans q0
  replace q1 := (hb.cell (p := ⟨Z, 1, none⟩) z).trans q1
  replace q2 := (hb.cell (p := ⟨Z, 2, none⟩) z).trans q2
  replace z := Nat.lt_of_lt_of_le z hb.size
  replace hs := hs.below hb (Nat.le_refl _)
  replace H := H.below hb (Nat.le_refl _)
  replace hB := hB.thru hb hB.size
  clear hb
  go_wp2_with fail
  refine (runBegun_true _).mono ?_
  rintro e w5 ⟨rfl, hb⟩
  replace q0 := (hb.cell (p := ⟨Z, 0, none⟩) z).trans q0
  replace q1 := (hb.cell (p := ⟨Z, 1, none⟩) z).trans q1
  replace q2 := (hb.cell (p := ⟨Z, 2, none⟩) z).trans q2
  replace z := Nat.lt_of_lt_of_le z hb.size
  replace hs := hs.below hb (Nat.le_refl _)
  replace H := H.below hb (Nat.le_refl _)
  replace hB := hB.thru hb hB.size
  clear hb
  go_wp2_with fail
  refine (runCheck_any _ _ l c t _ hl ht hs).mono ?_
  rintro e w6 ⟨rfl, hb⟩
  replace q0 := (hb.cell (p := ⟨Z, 0, none⟩) z).trans q0
  replace q1 := (hb.cell (p := ⟨Z, 1, none⟩) z).trans q1
  replace q2 := (hb.cell (p := ⟨Z, 2, none⟩) z).trans q2
  replace z := Nat.lt_of_lt_of_le z hb.size
  replace hs := hs.below hb (Nat.le_refl _)
  replace H := H.below hb (Nat.le_refl _)
  replace hB := hB.thru hb hB.size
  clear hb
  go_wp2_with fail
  refine (atomsAre_any none none 0 0 [] [] (chkRun l c t) (chkRun l c t) _ (Nat.zero_le _) (Nat.zero_le _) (Or.inl rfl) (Or.inl rfl) rfl (by split <;> rfl)).mono ?_
  rintro e w7 ⟨rfl, hb⟩
  replace q0 := (hb.cell (p := ⟨Z, 0, none⟩) z).trans q0
  replace q1 := (hb.cell (p := ⟨Z, 1, none⟩) z).trans q1
  replace q2 := (hb.cell (p := ⟨Z, 2, none⟩) z).trans q2
  replace z := Nat.lt_of_lt_of_le z hb.size
  replace hs := hs.below hb (Nat.le_refl _)
  replace H := H.below hb (Nat.le_refl _)
  replace hB := hB.thru hb hB.size
  clear hb
  go_wp2_with fail
  refine (sameRuns_true none none 0 0 [] _ (Nat.zero_le _) (Or.inl rfl) (Or.inl rfl)).mono ?_
  rintro e w8 ⟨rfl, hb⟩
  replace q0 := (hb.cell (p := ⟨Z, 0, none⟩) z).trans q0
  replace q1 := (hb.cell (p := ⟨Z, 1, none⟩) z).trans q1
  replace q2 := (hb.cell (p := ⟨Z, 2, none⟩) z).trans q2
  replace z := Nat.lt_of_lt_of_le z hb.size
  replace hs := hs.below hb (Nat.le_refl _)
  replace H := H.below hb (Nat.le_refl _)
  replace hB := hB.thru hb hB.size
  clear hb
  go_wp2_with fail
  go_ret
  exact ⟨rfl, hB⟩

theorem runTells_true (a : Option Addr) (cap : Nat) (l : List (Int × Int)) (c : Int) (t : ByteArray) (b : Option Addr) (kb : Nat) (m : List At) (w : World) (hl : l.length ≤ maxLen) (ht : t.size ≤ maxLen) (hm : m.length ≤ maxLen) (hmk : m.length ≤ kb) (hkb : kb ≤ maxLen) (hs : StepsAt w a l) (H : AtomsAt w b m) :
    Calls Try.prog 3 #[.agg #[.slice a l.length cap, .int .i64 c, .string t], .slice b m.length kb] w fun e w' => e = .returned (.bool true) ∧ Below w.heap.size w w' := by
  by_cases hv : chkRun l c t = 0 <;> by_cases hw : chkL m = 0
  · exact runTells_11 a cap l c t b kb m w hl ht hm hmk hkb hs H hv hw
  · exact runTells_10 a cap l c t b kb m w hl ht hm hmk hkb hs H hv hw
  · exact runTells_01 a cap l c t b kb m w hl ht hm hmk hkb hs H hv hw
  · exact runTells_00 a cap l c t b kb m w hl ht hm hmk hkb hs H hv hw
end Go.Proofs.Ytfekbfjfjohofab
