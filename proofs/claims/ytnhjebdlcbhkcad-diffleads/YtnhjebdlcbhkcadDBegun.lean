/- The law's diffBegun. -/
import Derived.Test.YtnhjebdlcbhkcadDiffSum
namespace Go.Proofs.Ytnhjebdlcbhkcad
open Go.RowKit

def hatT : ByteArray := ⟨#[104, 97, 116]⟩
def hitT : ByteArray := ⟨#[104, 105, 116]⟩
theorem hat_hit : diffE hatT hitT = 0 := by decide
theorem far_hat_hit : far hatT.data.toList hitT.data.toList = 2 := by simp [hatT, hitT, far, lcs]

set_option maxRecDepth 100000 in
set_option maxHeartbeats 1000000 in
theorem diffBegun_true (w : World) :
    Calls Try.prog 16 #[] w fun e w' => e = .returned (.bool true) ∧ Below w.heap.size w w' := by
  obtain ⟨hE, hT⟩ := diff_leads hat_hit
  have hI := diff_is hat_hit
  have hM := hI.many
  rw [far_hat_hit] at hM
  have hD := fun w0 => diff_ok hatT hitT w0 (by decide) (by decide) (by decide) (by decide)
  have hl : (diffL hatT hitT).length ≤ 600 := hI.len
  have hx : ∀ x ∈ diffL hatT hitT, x.text.size ≤ 4611686018427387904 ∧ x.many ≤ 9223372036854775807 := fun x hx => by have := hI.each x hx; omega
  have hc : ∀ x ∈ diffL hatT hitT, 0 ≤ cntE x ∧ cntE x ≤ 300 := fun x hx => (hI.each x hx).2.2.2.2
  generalize diffL hatT hitT = LL at *
  have HD := hidE hD
  have HX := hidE hx
  have HC := hidE hc
  have HM := hidE hM
  have HE := hidE hE
  have HT : Hid (playT hatT LL = ⟨#[104, 105, 116]⟩) := hidE hT
  clear hD hx hc hM hI hE hT
  go_enter Try.func16, Try.ntmps16
  go_upto_region 2 with (go_at_call 17; refine (HD.out _).mono ?_; rintro e w1 ⟨v, rfl, hO, hb1⟩; obtain ⟨pv, cv, rfl⟩ := owns_sliceE hO; have hrow := hO.eds.row)
  have HR := hidE hrow
  have HB1 := hidE hb1
  clear hO hrow hb1
  go_upto_region 3 with (go_at_call 14; refine (play_any hatT pv cv LL w1 HR.out (by unfold maxLen; omega) (by decide) HX.out).mono ?_; rintro e w2 ⟨rfl, hb2⟩; rw [HE.out, HT.out])
  have HB2 := hidE hb2
  have HR2 := hidE (HR.out.below hb2 (Nat.le_refl _))
  clear hb2
  go_wp2_with (go_at_call 19; refine (many_any pv cv LL w2 HR2.out (by omega) HC.out).mono ?_; rintro e w3 ⟨rfl, hb3⟩; rw [HM.out])
  go_ret
  exact ⟨rfl, (HB1.out.trans (HB2.out.mono HB1.out.size)).trans (hb3.mono (Nat.le_trans HB1.out.size HB2.out.size))⟩
end Go.Proofs.Ytnhjebdlcbhkcad
