/- Contract of diff.Diff where it has an error; whole. -/
import Derived.Test.YtnhjebdlcbhkcadDiffR
namespace Go.Proofs.Ytnhjebdlcbhkcad
open Go.RowKit

set_option maxRecDepth 100000 in
set_option maxHeartbeats 400000 in
theorem diff_err (a b : ByteArray) (w : World) (h : diffE a b ≠ 0) :
    Calls Try.prog 17 #[.string a, .string b] w fun e w' => e = .returned (.tuple #[.slice none 0 0, .int .i64 (diffE a b)]) ∧ Below w.heap.size w w' := by
  have hzc : (w.alloc (Obj.cells #[.string b] 9)).cell? ⟨w.heap.size, 0, none⟩ = some (.string b) := by simp
  have hB0 : Below w.heap.size w (w.alloc (Obj.cells #[.string b] 9)) := (Below.refl _ _).alloc (Nat.le_refl _) _
  by_cases ha : (a.size : Int) > 300
  · have HE : Hid (diffE a b = 2) := by show _ = _; unfold diffE; rw [if_pos (Or.inl (by omega))]
    clear h
    go_enter Try.func17, Try.ntmps17
    go_upto_region 1 with fail
    generalize w.alloc (Obj.cells #[.string b] 9) = W at *
    go_wp2_with fail
    go_ret2
    exact ⟨by rw [HE.out]; rfl, hB0⟩
  by_cases hb : (b.size : Int) > 300
  · have HE : Hid (diffE a b = 2) := by show _ = _; unfold diffE; rw [if_pos (Or.inr (by omega))]
    clear h
    go_enter Try.func17, Try.ntmps17
    go_upto_region 1 with fail
    generalize w.alloc (Obj.cells #[.string b] 9) = W at *
    go_wp2_with fail
    go_ret2
    exact ⟨by rw [HE.out]; rfl, hB0⟩
  have hna : ¬ (300 < a.size ∨ 300 < b.size) := by omega
  have hsa : a.size ≤ 300 := by omega
  have hsb : b.size ≤ 300 := by omega
  cases h1 : allS a.data.toList
  · have HE : Hid (diffE a b = 3) := by show _ = _; unfold diffE; rw [if_neg hna, if_neg (by rw [h1]; simp)]
    have H1 := hidE h1
    clear h h1 hna
    go_enter Try.func17, Try.ntmps17
    go_upto_region 1 with fail
    generalize w.alloc (Obj.cells #[.string b] 9) = W at *
    go_wp2_with (go_at_call 45; refine (signAll_any _ _ (by unfold maxLen; omega)).mono ?_; rintro e w' ⟨rfl, hw⟩; replace hw := hw.symm; subst hw; rw [H1.out])
    go_ret2
    exact ⟨by rw [HE.out]; rfl, hB0⟩
  cases h2 : allS b.data.toList
  · have HE : Hid (diffE a b = 3) := by show _ = _; unfold diffE; rw [if_neg hna, if_neg (by rw [h2]; simp)]
    have H1 := hidE h1
    have H2 := hidE h2
    clear h h1 h2 hna
    go_enter Try.func17, Try.ntmps17
    go_upto_region 1 with fail
    generalize w.alloc (Obj.cells #[.string b] 9) = W at *
    go_wp2_with (go_at_call 45; refine (signAll_any _ _ (by unfold maxLen; omega)).mono ?_; rintro e w' ⟨rfl, hw⟩; replace hw := hw.symm; subst hw; first | rw [H1.out] | rw [H2.out])
    go_ret2
    exact ⟨by rw [HE.out]; rfl, hB0⟩
  exact absurd (show diffE a b = 0 by unfold diffE; rw [if_neg hna, if_pos ⟨h1, h2⟩]) h

theorem diffE_zero {a b : ByteArray} (h : diffE a b = 0) : a.size ≤ 300 ∧ b.size ≤ 300 ∧ allS a.data.toList = true ∧ allS b.data.toList = true := by
  unfold diffE at h
  split at h
  · cases h
  · rename_i h1
    split at h
    · rename_i h2; exact ⟨by omega, by omega, h2.1, h2.2⟩
    · cases h
end Go.Proofs.Ytnhjebdlcbhkcad
