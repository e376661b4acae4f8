import Derived.Test.YtfekbfjfjohofabSorted
import Derived.Test.YtfekbfjfjohofabPutD
import Derived.Test.YtfekbfjfjohofabSameC
namespace Go.Proofs.Ytfekbfjfjohofab
open Go.RowKit

theorem ordI_zero {a b : Int} (h : ordI a b = 0) : a = b := by
  unfold ordI at h
  split at h
  · omega
  · split at h <;> omega
theorem orI_zero {a b : Int} (h : orI a b = 0) : a = 0 ∧ b = 0 := by
  unfold orI at h; split at h <;> simp_all
theorem ordM_zero {l m : List (Int × Int)} {c d : Int} (h : ordM l c m d = 0) : l = m ∧ c = d := by
  obtain ⟨h1, h2⟩ := orI_zero h
  exact ⟨ordP_zero h1, ordI_zero h2⟩
theorem sameL_refl : ∀ l : List At, sameL l l = true
  | [] => rfl
  | x :: l => by
    show (sameAt x x && sameL l l) = true
    rw [sameL_refl l, Bool.and_true]
    unfold sameAt
    have : ordM x.path x.clock x.path x.clock = 0 := cmpM.refl (x.path, x.clock)
    rw [this]; simp
end Go.Proofs.Ytfekbfjfjohofab
