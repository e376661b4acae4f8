import Derived.Test.YtfekbfjfjohofaaPutIs
import Derived.Test.YtfekbfjfjohofaaSameC
namespace Go.Proofs.Ytfekbfjfjohofaa
open Go.RowKit

theorem atomsAt_drop1 {w : World} {g : Nat} (h : AtomsAt w (some ⟨g, 0, none⟩) hiL) : AtomsAt w (some ⟨g, 3, none⟩) (hiL.drop 1) := by
  rcases h with h | ⟨b, off, e, hlt, hc⟩
  · simp [hiL] at h
  · cases e
    refine Or.inr ⟨g, 3, rfl, hlt, fun i hi => ?_⟩
    have h0 : i = 0 := by simp [hiL] at hi; omega
    subst h0
    exact hc 1 (by simp [hiL])
theorem atomsAt_take1 {w : World} {g : Nat} (h : AtomsAt w (some ⟨g, 0, none⟩) hiL) : AtomsAt w (some ⟨g, 0, none⟩) (hiL.take 1) := by
  rcases h with h | ⟨b, off, e, hlt, hc⟩
  · simp [hiL] at h
  · cases e
    refine Or.inr ⟨g, 0, rfl, hlt, fun i hi => ?_⟩
    have h0 : i = 0 := by simp [hiL] at hi; omega
    subst h0
    exact hc 0 (by simp [hiL])

set_option maxRecDepth 100000 in
set_option maxHeartbeats 1000000 in
theorem atomBegun_true (w : World) : Calls Try.prog 27 #[] w fun e w' => e = .returned (.bool true) ∧ Below w.heap.size w w' := by
  go_enter Try.func27, Try.ntmps27
  go_wp2_with fail
  refine (hi_any w).mono ?_
  rintro e w1 ⟨g1, rfl, ha1, hb1⟩
  go_wp2_with fail
  refine (text_ok _ _ hiL _ ha1 hiL_chk).mono ?_
  rintro e w2 ⟨rfl, hb2⟩
  rw [hi_txt]
  have hB2 := hb1.thru hb2 hb1.size
  clear hb1 hb2 ha1
  go_upto_region 2 with fail
  have hBd : Below w2.heap.size w2 w2.drew := (Below.refl _ _).drew
  go_cut [3, 4] (fun t f wc => ∃ p c, t = .slice p 2 c ∧ f = .int .i64 0 ∧ AtomsAt wc p hiL ∧ Below w2.heap.size w2 wc)
  case first =>
    go_region_held3 (fun _ => True) (trivial)
      (first
        | (go_at_call 21; refine (put_is _ _ _ _ (hiL.drop 1) (hiL.take 1) _ (atomsAt_drop1 (by first | exact hx2 | exact hx1')) (atomsAt_take1 (by first | exact hx1' | exact hx2)) hi1_chk hi0_chk (by decide)).mono ?_; rintro e w5 ⟨p5, c5, rfl, hat5, hb5⟩)
        | (go_at_call 63; refine (hi_any _).mono ?_; rintro e w4 ⟨gb, rfl, hx2, hb4⟩; have hx1' := hx1.below hb4 (Nat.le_refl _))
        | (go_at_call 63; refine (hi_any _).mono ?_; rintro e w3 ⟨ga, rfl, hx1, hb3⟩))
    have hB3 : Below w2.heap.size w2 w3 := hBd.thru hb3 (Nat.le_refl _)
    have hB4 := hB3.thru hb4 hB3.size
    have hB5 := hB4.thru hb5 hB4.size
    rw [hi_put] at hat5
    go_wp2_with fail
    go_meet
    exact ⟨p5, c5, by rfl, rfl, hat5, hB5⟩
  case rest =>
    obtain ⟨p3, c3, rfl, rfl, hat3, hb3⟩ := hcut
    have hB3 := hB2.thru hb3 hB2.size
    clear hBd hb3 hB2
    go_wp2_with fail
    refine (hi_any _).mono ?_
    rintro e w4 ⟨g4, rfl, ha4, hb4⟩
    replace hat3 := hat3.below hb4 (Nat.le_refl _)
    replace hB3 := hB3.thru hb4 hB3.size
    clear hb4
    go_wp2_with fail
    refine (at_any 3 0 1 _).mono ?_
    rintro e w5 ⟨rfl, hs5, hb5⟩
    replace hat3 := hat3.below hb5 (Nat.le_refl _)
    replace hB3 := hB3.thru hb5 hB3.size
    replace ha4 := ha4.below hb5 (Nat.le_refl _)
    clear hb5
    go_wp2_with fail
    have hbn : Below w5.heap.size w5 (w5.alloc (Obj.cells #[.slice (some ⟨w4.heap.size + 1, 0, none⟩) 1 1, .int .i64 1] 24)) := (Below.refl _ _).alloc (Nat.le_refl _) _
    have hmk : MarksAt (w5.alloc (Obj.cells #[.slice (some ⟨w4.heap.size + 1, 0, none⟩) 1 1, .int .i64 1] 24)) (some ⟨w5.heap.size, 0, none⟩) [([(3, 0)], 1)] := by
      refine Or.inr ⟨w5.heap.size, 0, rfl, by simp, fun i hi => ?_⟩
      have h0 : i = 0 := by simp at hi; omega
      subst h0
      exact ⟨_, 1, by simp, by simp, hs5.below hbn (Nat.le_refl _), by simp [maxLen]⟩
    replace hat3 := hat3.below hbn (Nat.le_refl _)
    replace ha4 := ha4.below hbn (Nat.le_refl _)
    replace hB3 := hB3.thru hbn hB3.size
    clear hs5
    generalize w5.alloc (Obj.cells #[.slice (some ⟨w4.heap.size + 1, 0, none⟩) 1 1, .int .i64 1] 24) = w6 at hmk hat3 ha4 hB3 ⊢
    refine (take_is _ _ _ _ hiL [([(3, 0)], 1)] _ ha4 hiL_chk (by simp [maxLen]) hmk).mono ?_
    rintro e w7 ⟨p7, c7, rfl, hat7, hb7⟩
    rw [hi_take] at hat7 ⊢
    replace hat3 := hat3.below hb7 (Nat.le_refl _)
    replace hB3 := hB3.thru hb7 hB3.size
    clear hb7 ha4 hmk hbn
    go_wp2_with fail
    refine (hi_any _).mono ?_
    rintro e w8 ⟨g8, rfl, ha8, hb8⟩
    replace hat3 := hat3.below hb8 (Nat.le_refl _)
    replace hat7 := hat7.below hb8 (Nat.le_refl _)
    replace hB3 := hB3.thru hb8 hB3.size
    clear hb8
    go_wp2_with fail
    refine (atomCheck_any _ _ hiL _ (by simp [maxLen, hiL]) ha8).mono ?_
    rintro e w9 ⟨rfl, hb9⟩
    rw [hiL_chk]
    replace hat3 := hat3.below hb9 (Nat.le_refl _)
    replace hat7 := hat7.below hb9 (Nat.le_refl _)
    replace hB3 := hB3.thru hb9 hB3.size
    clear hb9 ha8
    go_wp2_with fail
    refine (hi_any _).mono ?_
    rintro e w10 ⟨g10, rfl, ha10, hb10⟩
    replace hat3 := hat3.below hb10 (Nat.le_refl _)
    replace hat7 := hat7.below hb10 (Nat.le_refl _)
    replace hB3 := hB3.thru hb10 hB3.size
    clear hb10
    go_wp2_with fail
    refine (sameAtoms_any _ _ _ _ hiL hiL _ (by simp [maxLen, hiL]) (by simp [maxLen, hiL]) hat3 ha10).mono ?_
    rintro e w11 ⟨rfl, hb11⟩
    rw [sameL_refl]
    replace hat7 := hat7.below hb11 (Nat.le_refl _)
    replace hB3 := hB3.thru hb11 hB3.size
    clear hb11 hat3 ha10
    go_wp2_with fail
    refine (hi_any _).mono ?_
    rintro e w12 ⟨g12, rfl, ha12, hb12⟩
    replace hat7 := hat7.below hb12 (Nat.le_refl _)
    replace hB3 := hB3.thru hb12 hB3.size
    clear hb12
    go_wp2_with fail
    refine (sameAtoms_any _ _ _ _ (hiL.drop 1) (hiL.drop 1) _ (by simp [maxLen, hiL]) (by simp [maxLen, hiL]) hat7 (atomsAt_drop1 ha12)).mono ?_
    rintro e w13 ⟨rfl, hb13⟩
    rw [sameL_refl]
    replace hB3 := hB3.thru hb13 hB3.size
    go_wp2_with fail
    go_ret
    exact ⟨rfl, hB3⟩
end Go.Proofs.Ytfekbfjfjohofaa
