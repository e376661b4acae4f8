/- A note that keeps the rules is small enough. -/
import Derived.Test.YtnhjebdlcbhkcagEncC
import Derived.Test.YtnhjebdlcbhkcagFrListN
import Derived.Test.YtnhjebdlcbhkcagRelPu
namespace Go.Proofs.Ytnhjebdlcbhkcag
open Go.RowKit

theorem smallD_of {d : Dd} (h : chkD d = 0) : DdSmall d := by
  rcases roomD_of h with ⟨_, h2, h3, h4, _, h6⟩ | ⟨_, h2, h3, h4, h5, _, h7⟩
  · have := h2.1
    refine ⟨?_, ?_, h3, ?_, ?_⟩
    · omega
    · rw [h4]; simp
    · omega
    · omega
  · have := h2.1
    refine ⟨?_, ?_, ?_, h3, h4⟩
    · rw [h5]; simp
    · omega
    · rw [h7]; show (0 : Nat) ≤ 255; omega
theorem chkN_deeds {n : Nt} (h : chkN n = 0) : n.needs.length = 5 ∧ n.deeds.length ≤ 20 ∧ ∀ d ∈ n.deeds, chkD d = 0 := by
  unfold chkN at h
  split at h
  · cases h
  split at h
  · cases h
  rename_i h2
  split at h
  · cases h
  split at h
  · cases h
  split at h
  · cases h
  split at h
  · cases h
  rename_i h6
  exact ⟨by simpa using h2, by omega, chkDl_zero h⟩
theorem smallN_of {n : Nt} (h : chkN n = 0) : NtSmall n := by
  obtain ⟨h1, h2, h3⟩ := chkN_deeds h
  exact ⟨by omega, by omega, fun d hd => smallD_of (h3 d hd)⟩
theorem small_rel {ns : List Nt} (h : chkRel ns = 0) : ns.length ≤ 300 ∧ ∀ n ∈ ns, NtSmall n :=
  ⟨(chkRel_len h).1, fun n hn => smallN_of ((chkRel_len h).2 n hn)⟩
end Go.Proofs.Ytnhjebdlcbhkcag
