/- The law DiffLeads. -/
import Derived.Test.YtnhjebdlcbhkcadDNear
import Derived.Test.YtnhjebdlcbhkcadFarR
namespace Go.Proofs.Ytnhjebdlcbhkcad
open Go.RowKit

set_option maxRecDepth 100000 in
set_option maxHeartbeats 2000000 in
theorem diffLeads_err (a b : ByteArray) (w : World) (h : diffE a b ≠ 0) :
    Calls Try.prog 5 #[.string a, .string b] w fun e w' => e = .returned (.bool true) ∧ Below w.heap.size w w' := by
  have HB := hidE (fun w0 => diffBegun_true w0)
  have HD := hidE (fun w0 => diff_err a b w0 h)
  by_cases ha : (a.size : Int) > 300
  · have HE : diffE a b = 2 := by unfold diffE; rw [if_pos (Or.inl (by omega))]
    rw [HE] at HD
    clear h HE
    go_enter Try.func5, Try.ntmps5
    go_wp2_with (first | (go_at_call 17; refine (HD.out _).mono ?_; rintro e w1 ⟨rfl, hb1⟩) | (go_at_call 16; refine (HB.out _).mono ?_; rintro e w2 ⟨rfl, hb2⟩))
    go_ret
    exact ⟨rfl, hb1.trans (hb2.mono hb1.size)⟩
  by_cases hb : (b.size : Int) > 300
  · have HE : diffE a b = 2 := by unfold diffE; rw [if_pos (Or.inr (by omega))]
    rw [HE] at HD
    clear h HE
    go_enter Try.func5, Try.ntmps5
    go_wp2_with (first | (go_at_call 17; refine (HD.out _).mono ?_; rintro e w1 ⟨rfl, hb1⟩) | (go_at_call 16; refine (HB.out _).mono ?_; rintro e w2 ⟨rfl, hb2⟩))
    go_ret
    exact ⟨rfl, hb1.trans (hb2.mono hb1.size)⟩
  have hna : ¬ (300 < a.size ∨ 300 < b.size) := by omega
  have hsa : a.size ≤ maxLen := by unfold maxLen; omega
  have hsb : b.size ≤ maxLen := by unfold maxLen; omega
  cases h1 : allS a.data.toList
  · have HE : diffE a b = 3 := by unfold diffE; rw [if_neg hna, if_neg (by rw [h1]; simp)]
    rw [HE] at HD
    have H1 := hidE h1
    clear h h1 hna HE
    go_enter Try.func5, Try.ntmps5
    go_wp2_with (first | (go_at_call 17; refine (HD.out _).mono ?_; rintro e w1 ⟨rfl, hb1⟩) | (go_at_call 16; refine (HB.out _).mono ?_; rintro e w2 ⟨rfl, hb2⟩) | (go_at_call 18; (with_reducible refine (areSigns_any a _ hsa).mono ?_); rintro e w' ⟨rfl, hw⟩; replace hw := hw.symm; subst hw; rw [H1.out]))
    go_ret
    exact ⟨rfl, hb1.trans (hb2.mono hb1.size)⟩
  cases h2 : allS b.data.toList
  · have HE : diffE a b = 3 := by unfold diffE; rw [if_neg hna, if_neg (by rw [h2]; simp)]
    rw [HE] at HD
    have H1 := hidE h1
    have H2 := hidE h2
    clear h h1 h2 hna HE
    go_enter Try.func5, Try.ntmps5
    go_wp2_with (first | (go_at_call 17; refine (HD.out _).mono ?_; rintro e w1 ⟨rfl, hb1⟩) | (go_at_call 16; refine (HB.out _).mono ?_; rintro e w2 ⟨rfl, hb2⟩) | (go_at_call 18; first | ((with_reducible refine (areSigns_any a _ hsa).mono ?_); rintro e w' ⟨rfl, hw⟩; replace hw := hw.symm; subst hw; rw [H1.out]) | ((with_reducible refine (areSigns_any b _ hsb).mono ?_); rintro e w' ⟨rfl, hw⟩; replace hw := hw.symm; subst hw; rw [H2.out])))
    go_ret
    exact ⟨rfl, hb1.trans (hb2.mono hb1.size)⟩
  exact absurd (show diffE a b = 0 by unfold diffE; rw [if_neg hna, if_pos ⟨h1, h2⟩]) h

set_option maxRecDepth 100000 in
set_option maxHeartbeats 4000000 in
theorem diffLeads_zero (a b : ByteArray) (w : World) (h : diffE a b = 0) :
    Calls Try.prog 5 #[.string a, .string b] w fun e w' => e = .returned (.bool true) ∧ Below w.heap.size w w' := by
  have HB := hidE (fun w0 => diffBegun_true w0)
  have HD := hidE (fun w0 => diff_row a b w0 h)
  have HM := hidE (fun p c w0 w => many_row a b p c w0 w h)
  obtain ⟨n1, n2, n3, n4⟩ := diffE_zero h
  have ha : decide ((a.size : Int) > 300) = false := decide_eq_false (by omega)
  have hb : decide ((b.size : Int) > 300) = false := decide_eq_false (by omega)
  have hsa : a.size ≤ maxLen := by unfold maxLen; omega
  have hsb : b.size ≤ maxLen := by unfold maxLen; omega
  have H1 := hidE n3
  have H2 := hidE n4
  have HF := hidE (fun w0 => farOf_ok a b w0 n1 n2)
  have hI := diff_is h
  have hlen := hI.len
  have HX := hidE (fun x hx => hI.each x hx)
  obtain ⟨hE, hT⟩ := diff_leads h
  have HP := hidE (fun p c w0 (hr : RowEd w0 p (diffL a b)) => playOf_any a p c (diffL a b) w0 hr (by unfold maxLen; omega) (by omega) (fun x hx => by have := hI.each x hx; omega))
  rw [hE, hT] at HP
  clear hE hT hI n3 n4 h
  generalize far a.data.toList b.data.toList = f at *
  generalize diffL a b = L at *
  go_enter Try.func5, Try.ntmps5
  go_upto_region 11 with (first | (go_at_call 17; refine (HD.out _).mono ?_; rintro e w1 ⟨p1, k1, rfl, r1, hb1⟩; have R1 := hidE r1; clear r1) | (go_at_call 16; refine (HB.out _).mono ?_; rintro e w2 ⟨rfl, hb2⟩) | (go_at_call 18; first | ((with_reducible refine (areSigns_any a _ hsa).mono ?_); rintro e w' ⟨rfl, hw⟩; replace hw := hw.symm; subst hw; rw [H1.out]) | ((with_reducible refine (areSigns_any b _ hsb).mono ?_); rintro e w' ⟨rfl, hw⟩; replace hw := hw.symm; subst hw; rw [H2.out])))
  have BB := hidE (hb1.trans (hb2.mono hb1.size))
  have R2 := hidE (R1.out.below hb2 (Nat.le_refl _))
  have B12 := hidE hb2
  clear hb1 hb2 HB HD H1 H2 hsa hsb ha hb
  go_upto_region 12 with (go_at_call 15; refine (HP.out p1 k1 w2 R2.out).mono ?_; rintro e w3 ⟨rfl, hb3⟩)
  have B3 := hidE (BB.out.trans (hb3.mono BB.out.size))
  have B13 := hidE (B12.out.trans (hb3.mono B12.out.size))
  have R3 := hidE (R2.out.below hb3 (Nat.le_refl _))
  clear hb3 HP R2 BB B12
  go_wp2_with fail
  go_loopw [10] (fun v wr => ∃ i : Nat, i ≤ L.length ∧ v = .int .i64 (i : Int) ∧ wr = w3) (fun v _ => L.length - (intOf v).toNat)
  case atStart => exact ⟨0, Nat.zero_le _, rfl, rfl⟩
  case round =>
    obtain ⟨i, hi, rfl, rfl⟩ := hrel
    rcases Nat.lt_or_ge i L.length with hlt | hge
    · rcases R3.out with hz | ⟨ab, ao, rfl, hab, hc⟩
      · simp [hz] at hlt
      obtain ⟨c0, c1, c2, c3⟩ := hc i hlt
      obtain ⟨x1, x2, x3, _⟩ := HX.out L[i] (List.getElem_mem hlt)
      have hi1 : (i : Int) < (L.length : Int) := by omega
      have hwi : IntKind.i64.wrap ((i : Int) + 1) = ((i + 1 : Nat) : Int) := by rw [IntKind.wrap_i64] <;> omega
      clear hc R3 HX HF HM c0 c1
      generalize L[i] = x at *
      obtain ⟨kind, n, many, tx⟩ := x
      simp only at c2 c3 x1 x2 x3
      have hgt : decide ((tx.size : Int) > 60) = false := decide_eq_false (by omega)
      by_cases hm : many = 0
      · subst hm
        have htb : tx.toList.isEmpty = false := by
          rw [isEmpty_size]
          have : 0 < tx.size := by rcases x1 with x1 | x1 <;> omega
          simpa using (show ¬ tx.size = 0 by omega)
        clear x1
        go_wp2_with fail
        go_roundw
        case rel => exact ⟨i + 1, hlt, rfl, trivial⟩
        case measure => simp [intOf]; omega
      · have hb1 : (many == 0) = false := by rw [beq_eq_false_iff_ne]; exact hm
        have hb2 : decide (many = 0) = false := decide_eq_false hm
        clear x1
        go_wp2_with fail
        go_roundw
        case rel => exact ⟨i + 1, hlt, rfl, trivial⟩
        case measure => simp [intOf]; omega
    · have hil : ¬ (i : Int) < (L.length : Int) := by omega
      clear HX R3
      go_wp2_with (first | (go_at_call 19; refine (HM.out _ _ w1 _ R1.out B13.out).mono ?_; rintro e w4 ⟨rfl, hb4⟩) | (go_at_call 20; refine (HF.out _).mono ?_; rintro e w5 ⟨rfl, hb5⟩))
      go_ret
      exact ⟨by simp, (B3.out.trans (hb4.mono B3.out.size)).trans (hb5.mono (Nat.le_trans B3.out.size hb4.size))⟩

theorem diffLeads_ok (a b : ByteArray) (w : World) :
    Calls Try.prog 5 #[.string a, .string b] w fun e w' => e = .returned (.bool true) ∧ Below w.heap.size w w' := by
  by_cases h : diffE a b = 0
  · exact diffLeads_zero a b w h
  · exact diffLeads_err a b w h
end Go.Proofs.Ytnhjebdlcbhkcad
