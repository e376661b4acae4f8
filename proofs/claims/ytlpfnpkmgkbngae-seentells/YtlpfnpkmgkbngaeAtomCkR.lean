import Derived.Test.YtlpfnpkmgkbngaeAtomCk
namespace Go.Proofs.Ytlpfnpkmgkbngae
open Go.RowKit

set_option maxHeartbeats 400000 in
theorem isSign_any (s : Int) (w : World) (h0 : 0 ≤ s) (h1 : s ≤ 255) :
    Calls Try.prog 45 #[.int .u8 s] w fun e w' => e = .returned (.bool (isSignB s)) ∧ w' = w := by
  have hw : IntKind.i64.wrap s = s := by rw [IntKind.wrap_i64] <;> omega
  go_enter Try.func45, Try.ntmps45
  go_wp2_with (go_at_call 22; refine (between_any _ _ _ _).mono ?_; rintro e w' ⟨rfl, rfl⟩)
  go_ret
  exact ⟨by rfl, rfl⟩

end Go.Proofs.Ytlpfnpkmgkbngae
