import Derived.Test.YtcggeeejkgndmacHolds
import Derived.Test.YtcggeeejkgndmacAtomCk
namespace Go.Proofs.Ytcggeeejkgndmac
open Go.RowKit

def hiL : List At := [⟨[(3, 0)], 1, 104⟩, ⟨[(4, 0)], 2, 105⟩]

set_option maxRecDepth 100000 in
set_option maxHeartbeats 1000000 in
theorem hi_any (w : World) : Calls Try.prog 30 #[] w fun e w' => ∃ g, e = .returned (.slice (some ⟨g, 0, none⟩) 2 2) ∧ AtomsAt w' (some ⟨g, 0, none⟩) hiL ∧ Below w.heap.size w w' := by
  go_enter Try.func30, Try.ntmps30
  go_wp2_with fail
  refine (at_any 3 0 1 w).mono ?_
  rintro e w1 ⟨rfl, hs1, hb1⟩
  go_wp2_with fail
  refine (at_any 4 0 2 w1).mono ?_
  rintro e w2 ⟨rfl, hs2, hb2⟩
  have hs1' := hs1.below hb2 (Nat.le_refl _)
  have hb3 := hb1.thru hb2 hb1.size
  go_wp2_with fail
  go_ret
  refine ⟨w2.heap.size, rfl, ?_, hb3.alloc hb3.size _⟩
  have hbn : Below w2.heap.size w2 (w2.alloc (Obj.cells #[.slice (some ⟨w.heap.size + 1, 0, none⟩) 1 1, .int .i64 1, .int .u8 104, .slice (some ⟨w1.heap.size + 1, 0, none⟩) 1 1, .int .i64 2, .int .u8 105] 50)) := (Below.refl _ _).alloc (Nat.le_refl _) _
  refine Or.inr ⟨w2.heap.size, 0, rfl, by simp, fun i hi => ?_⟩
  have h2 : i < 2 := hi
  rcases (show i = 0 ∨ i = 1 by omega) with rfl | rfl
  · exact ⟨_, 1, by simp [hiL], by simp [hiL], by simp [hiL], hs1'.below hbn (Nat.le_refl _), by simp [hiL, maxLen], by simp [hiL], by simp [hiL], by simp [hiL]⟩
  · exact ⟨_, 1, by simp [hiL], by simp [hiL], by simp [hiL], hs2.below hbn (Nat.le_refl _), by simp [hiL, maxLen], by simp [hiL], by simp [hiL], by simp [hiL]⟩
end Go.Proofs.Ytcggeeejkgndmac
