/- The contract of caretBegun. -/
import Derived.Test.YtcggeeejkgndmacCaretC
import Derived.Test.YtcggeeejkgndmacHi
namespace Go.Proofs.Ytcggeeejkgndmac
open Go.RowKit

theorem hi_chkS : chkS hiL [] = 0 := by decide
theorem hi_of : ofL hiL [] 1 = ([(3, 0)], 1, 0) := by decide
theorem hi_at : atL hiL [] [(3, 0)] 1 = (1, 0) := by decide
theorem hi_at0 : atL hiL [] [] 0 = (0, 0) := by decide

theorem caretOf_hi (g : Nat) (w : World) (h : AtomsAt w (some ⟨g, 0, none⟩) hiL) :
    Calls Try.prog 13 #[.agg #[.slice (some ⟨g, 0, none⟩) 2 2, .slice none 0 0], .int .i64 1] w fun e w' => ∃ p c, e = .returned (.tuple #[.agg #[.slice p 1 c, .int .i64 1], .int .i64 0]) ∧ StepsAt w' p [(3, 0)] ∧ Below w.heap.size w w' := by
  have h1 := caretOf_any (some ⟨g, 0, none⟩) none 2 0 hiL [] 1 w (by decide) h (Or.inl rfl)
  rw [hi_of] at h1
  exact h1
theorem caretAt_hi (g : Nat) (p : Option Addr) (c : Nat) (w : World) (h : AtomsAt w (some ⟨g, 0, none⟩) hiL) (h' : StepsAt w p [(3, 0)]) :
    Calls Try.prog 14 #[.agg #[.slice (some ⟨g, 0, none⟩) 2 2, .slice none 0 0], .agg #[.slice p 1 c, .int .i64 1]] w fun e w' => e = .returned (.tuple #[.int .i64 1, .int .i64 0]) ∧ Below w.heap.size w w' := by
  have h1 := caretAt_any (some ⟨g, 0, none⟩) none p 2 0 c hiL [] [(3, 0)] 1 w (by decide) (by decide) h (Or.inl rfl) h'
  rw [hi_at] at h1
  exact h1
theorem caretAt_no (g : Nat) (w : World) (h : AtomsAt w (some ⟨g, 0, none⟩) hiL) :
    Calls Try.prog 14 #[.agg #[.slice (some ⟨g, 0, none⟩) 2 2, .slice none 0 0], .agg #[.slice none 0 0, .int .i64 0]] w fun e w' => e = .returned (.tuple #[.int .i64 0, .int .i64 0]) ∧ Below w.heap.size w w' := by
  have h1 := caretAt_any (some ⟨g, 0, none⟩) none none 2 0 0 hiL [] [] 0 w (by decide) (by decide) h (Or.inl rfl) (Or.inl rfl)
  rw [hi_at0] at h1
  exact h1

set_option maxRecDepth 100000 in
set_option maxHeartbeats 4000000 in
theorem caretBegun_true (w : World) :
    Calls Try.prog 19 #[] w fun e w' => e = .returned (.bool true) ∧ Below w.heap.size w w' := by
  go_enter Try.func19, Try.ntmps19
  go_wp2_with fail
  refine (hi_any _).mono ?_
  rintro e w1 ⟨g, rfl, h, hB⟩
  go_wp2_with fail
  have hb := (Below.refl w1.heap.size w1).alloc (Nat.le_refl _) (Obj.cells #[.slice (some ⟨g, 0, none⟩) 2 2, .slice none 0 0] 32)
  have q0 : (w1.alloc (Obj.cells #[.slice (some ⟨g, 0, none⟩) 2 2, .slice none 0 0] 32)).cell? ⟨w1.heap.size, 0, none⟩ = some (.slice (some ⟨g, 0, none⟩) 2 2) := by simp
  have q1 : (w1.alloc (Obj.cells #[.slice (some ⟨g, 0, none⟩) 2 2, .slice none 0 0] 32)).cell? ⟨w1.heap.size, 1, none⟩ = some (.slice none 0 0) := by simp
  have z : w1.heap.size < (w1.alloc (Obj.cells #[.slice (some ⟨g, 0, none⟩) 2 2, .slice none 0 0] 32)).heap.size := by simp
  replace h := h.below hb (Nat.le_refl _)
  replace hB := hB.thru hb hB.size
  generalize w1.alloc (Obj.cells #[.slice (some ⟨g, 0, none⟩) 2 2, .slice none 0 0] 32) = w2 at hb q0 q1 z h hB ⊢
  generalize w1.heap.size = Z at q0 q1 z ⊢
  clear hb
  refine (caretOf_hi g _ h).mono ?_
  rintro e w3 ⟨p, c, rfl, hs, hb⟩
  replace q0 := (hb.cell (p := ⟨Z, 0, none⟩) z).trans q0
  replace q1 := (hb.cell (p := ⟨Z, 1, none⟩) z).trans q1
  replace z := Nat.lt_of_lt_of_le z hb.size
  replace h := h.below hb (Nat.le_refl _)
  replace hB := hB.thru hb hB.size
  clear hb
  go_wp2_with fail
  have hb := (Below.refl w3.heap.size w3).alloc (Nat.le_refl _) (Obj.cells #[.slice p 1 c, .int .i64 1] 41)
  have m0 : (w3.alloc (Obj.cells #[.slice p 1 c, .int .i64 1] 41)).cell? ⟨w3.heap.size, 0, none⟩ = some (.slice p 1 c) := by simp
  have m1 : (w3.alloc (Obj.cells #[.slice p 1 c, .int .i64 1] 41)).cell? ⟨w3.heap.size, 1, none⟩ = some (.int .i64 1) := by simp
  have zM : w3.heap.size < (w3.alloc (Obj.cells #[.slice p 1 c, .int .i64 1] 41)).heap.size := by simp
  replace q0 := (hb.cell (p := ⟨Z, 0, none⟩) z).trans q0
  replace q1 := (hb.cell (p := ⟨Z, 1, none⟩) z).trans q1
  replace z := Nat.lt_of_lt_of_le z hb.size
  replace h := h.below hb (Nat.le_refl _)
  replace hs := hs.below hb (Nat.le_refl _)
  replace hB := hB.thru hb hB.size
  generalize w3.alloc (Obj.cells #[.slice p 1 c, .int .i64 1] 41) = w4 at hb m0 m1 zM q0 q1 z h hs hB ⊢
  generalize w3.heap.size = M at m0 m1 zM ⊢
  clear hb
  refine (caretAt_hi g p c _ h hs).mono ?_
  rintro e w5 ⟨rfl, hb⟩
  replace q0 := (hb.cell (p := ⟨Z, 0, none⟩) z).trans q0
  replace q1 := (hb.cell (p := ⟨Z, 1, none⟩) z).trans q1
  replace m0 := (hb.cell (p := ⟨M, 0, none⟩) zM).trans m0
  replace m1 := (hb.cell (p := ⟨M, 1, none⟩) zM).trans m1
  replace z := Nat.lt_of_lt_of_le z hb.size
  replace zM := Nat.lt_of_lt_of_le zM hb.size
  replace h := h.below hb (Nat.le_refl _)
  replace hs := hs.below hb (Nat.le_refl _)
  replace hB := hB.thru hb hB.size
  clear hb
  go_wp2_with fail
  refine (caretAt_no g _ h).mono ?_
  rintro e w6 ⟨rfl, hb⟩
  replace m0 := (hb.cell (p := ⟨M, 0, none⟩) zM).trans m0
  replace m1 := (hb.cell (p := ⟨M, 1, none⟩) zM).trans m1
  replace zM := Nat.lt_of_lt_of_le zM hb.size
  replace hs := hs.below hb (Nat.le_refl _)
  replace hB := hB.thru hb hB.size
  clear hb q0 q1 z h
  go_upto_region 5 with fail
  have hBd : Below w6.heap.size w6 w6.drew := (Below.refl _ _).drew
  go_region_held_law (fun w' => w'.cell? ⟨M, 0, none⟩ = some (.slice p 1 c) ∧ w'.cell? ⟨M, 1, none⟩ = some (.int .i64 1))
    (first | exact ⟨m0, m1⟩ | exact ⟨t0, t1⟩ | exact ⟨u0, u1⟩)
    (first
      | (go_at_call 57; refine (at_any 3 0 1 _).mono ?_; rintro e w7 ⟨rfl, hs7, hb7⟩; have hb7' : Below w6.heap.size w6 w7 := hBd.thru hb7 (Nat.le_refl _); have t0 := (hb7'.cell (p := ⟨M, 0, none⟩) zM).trans m0; have t1 := (hb7'.cell (p := ⟨M, 1, none⟩) zM).trans m1; have hs7' := hs.below hb7' (Nat.le_refl _))
      | (go_at_call 20; refine (sameMark_n _ _ _ _ _ _ [(3, 0)] [(3, 0)] _ _ _ rfl rfl (by decide) (by decide) hs7' hs7).mono ?_; rintro e w8 ⟨rfl, hb8⟩; rw [show (ordM [(3, 0)] 1 [(3, 0)] 1 == 0) = true from by decide]; have hb8' : Below w6.heap.size w6 w8 := hb7'.thru hb8 hb7'.size; have u0 := (hb8'.cell (p := ⟨M, 0, none⟩) zM).trans m0; have u1 := (hb8'.cell (p := ⟨M, 1, none⟩) zM).trans m1))
  go_wp2_with fail
  go_ret
  exact ⟨rfl, hB.thru hb8' hB.size⟩
end Go.Proofs.Ytcggeeejkgndmac
