/- The law DiffNear. -/
import Derived.Test.YtnhjebdlcbhkcadDBegun
namespace Go.Proofs.Ytnhjebdlcbhkcad
open Go.RowKit

theorem diffE_comm (a b : ByteArray) : diffE a b = diffE b a := by
  unfold diffE
  have e1 : (300 < a.size ∨ 300 < b.size) = (300 < b.size ∨ 300 < a.size) := propext Or.comm
  have e2 : (allS a.data.toList = true ∧ allS b.data.toList = true) = (allS b.data.toList = true ∧ allS a.data.toList = true) := propext And.comm
  simp only [e1, e2]
theorem diffE_ok {a b : ByteArray} (h1 : a.size ≤ 300) (h2 : b.size ≤ 300) (h3 : allS a.data.toList = true) (h4 : allS b.data.toList = true) : diffE a b = 0 := by
  unfold diffE; rw [if_neg (by omega), if_pos ⟨h3, h4⟩]

/-- Diff, where it has no error: the row lies somewhere -/
theorem diff_row (a b : ByteArray) (w : World) (h : diffE a b = 0) :
    Calls Try.prog 17 #[.string a, .string b] w fun e w' => ∃ p c, e = .returned (.tuple #[.slice p (diffL a b).length c, .int .i64 0]) ∧ RowEd w' p (diffL a b) ∧ Below w.heap.size w w' := by
  obtain ⟨h1, h2, h3, h4⟩ := diffE_zero h
  refine (diff_ok a b w h1 h2 h3 h4).mono ?_
  rintro e w' ⟨v, rfl, hO, hb⟩
  obtain ⟨p, c, rfl⟩ := owns_sliceE hO
  exact ⟨p, c, rfl, hO.eds.row, hb⟩

theorem many_row (a b : ByteArray) (p : Option Addr) (c : Nat) (w0 w : World) (h : diffE a b = 0) (hr : RowEd w0 p (diffL a b)) (hb : Below w0.heap.size w0 w) :
    Calls Try.prog 19 #[.slice p (diffL a b).length c] w fun e w' => e = .returned (.int .i64 (far a.data.toList b.data.toList : Nat)) ∧ Below w.heap.size w w' := by
  have hI := diff_is h
  have := many_any p c (diffL a b) w (hr.below hb (Nat.le_refl _)) (by have := hI.len; omega) (fun x hx => (hI.each x hx).2.2.2.2)
  rwa [hI.many] at this

set_option maxRecDepth 100000 in
set_option maxHeartbeats 1000000 in
theorem diffNear_err (a b c : ByteArray) (w : World) (h : diffE a b ≠ 0) :
    Calls Try.prog 6 #[.string a, .string b, .string c] w fun e w' => e = .returned (.bool true) ∧ Below w.heap.size w w' := by
  have h1 := diff_err a b
  have h2 := diff_err b a
  rw [← diffE_comm a b] at h2
  have HB := hidE (fun w0 => diffBegun_true w0)
  have H1 := hidE (fun w0 => h1 w0 h)
  have H2 := hidE (fun w0 => h2 w0 h)
  clear h1 h2
  generalize diffE a b = z at *
  go_enter Try.func6, Try.ntmps6
  go_upto_region 3 with (go_at_call 16; refine (HB.out _).mono ?_; rintro e w1 ⟨rfl, hb1⟩)
  go_upto_region 4 with (go_at_call 17; refine (H1.out _).mono ?_; rintro e w2 ⟨rfl, hb2⟩)
  go_upto_region 5 with (go_at_call 17; refine (H2.out _).mono ?_; rintro e w3 ⟨rfl, hb3⟩)
  have hb := (hb1.trans (hb2.mono hb1.size)).trans (hb3.mono (Nat.le_trans hb1.size hb2.size))
  clear hb1 hb2 hb3
  go_wp2_with fail
  go_ret
  exact ⟨rfl, hb⟩

set_option maxRecDepth 100000 in
set_option maxHeartbeats 2000000 in
theorem diffNear_zero (a b c : ByteArray) (w : World) (h : diffE a b = 0) :
    Calls Try.prog 6 #[.string a, .string b, .string c] w fun e w' => e = .returned (.bool true) ∧ Below w.heap.size w w' := by
  have HB := hidE (fun w0 => diffBegun_true w0)
  have hba : diffE b a = 0 := by rw [diffE_comm]; exact h
  have H1 := hidE (fun w0 => diff_row a b w0 h)
  have H2 := hidE (fun w0 => diff_row b a w0 hba)
  have M1 := hidE (fun p c w0 w => many_row a b p c w0 w h)
  have M2 := hidE (fun p c w0 w => many_row b a p c w0 w hba)
  have HF := hidE (far_comm b.data.toList a.data.toList)
  have HF3 : Hid (far a.data.toList b.data.toList ≤ far a.data.toList c.data.toList + far c.data.toList b.data.toList) := hidE (far_three _ _ _)
  have HLE : Hid (far a.data.toList b.data.toList ≤ 600 ∧ ((diffE a c = 0) → far a.data.toList c.data.toList ≤ 600) ∧ ((diffE a c = 0) → far c.data.toList b.data.toList ≤ 600)) := by
    obtain ⟨x1, x2, _, _⟩ := diffE_zero h
    refine hidE ⟨?_, fun hc => ?_, fun hc => ?_⟩
    · unfold far; rw [size_list, size_list]; omega
    · have := (diffE_zero hc).2.1; unfold far; rw [size_list, size_list]; omega
    · have := (diffE_zero hc).2.1; unfold far; rw [size_list, size_list]; omega
  have hcase : (diffE a c = 0 ∧ diffE c b = 0) ∨ (diffE a c ≠ 0 ∧ diffE c b ≠ 0) := by
    obtain ⟨x1, x2, x3, x4⟩ := diffE_zero h
    by_cases e : diffE a c = 0
    · obtain ⟨_, y2, _, y4⟩ := diffE_zero e
      exact Or.inl ⟨e, diffE_ok y2 x2 y4 x4⟩
    · refine Or.inr ⟨e, fun e2 => e ?_⟩
      obtain ⟨y1, _, y3, _⟩ := diffE_zero e2
      exact diffE_ok x1 y1 x3 y3
  go_enter Try.func6, Try.ntmps6
  go_upto_region 3 with (go_at_call 16; refine (HB.out _).mono ?_; rintro e w1 ⟨rfl, hb1⟩)
  go_upto_region 4 with (go_at_call 17; refine (H1.out _).mono ?_; rintro e w2 ⟨p1, k1, rfl, r1, hb2⟩)
  go_upto_region 5 with (go_at_call 17; refine (H2.out _).mono ?_; rintro e w3 ⟨p2, k2, rfl, r2, hb3⟩)
  have B3 := hidE ((hb1.trans (hb2.mono hb1.size)).trans (hb3.mono (Nat.le_trans hb1.size hb2.size)))
  have R1 := hidE r1
  have R2 := hidE r2
  have B23 := hidE hb3
  clear hb1 hb2 hb3 r1 r2 H1 H2 HB
  generalize (diffL a b).length = n1 at *
  generalize (diffL b a).length = n2 at *
  rw [HF.out] at M2
  generalize hfab : far a.data.toList b.data.toList = f1 at *
  clear hfab HF
  go_upto_region 9 with (go_at_call 19; first | (with_reducible refine (M1.out _ _ w2 _ R1.out B23.out).mono ?_; rintro e w4 ⟨rfl, hb4⟩) | (with_reducible refine (M2.out _ _ w3 _ R2.out hb4).mono ?_; rintro e w5 ⟨rfl, hb5⟩))
  have B35 := hidE (hb4.trans (hb5.mono hb4.size))
  have B5 := hidE (B3.out.trans (B35.out.mono B3.out.size))
  have B25 := hidE (B23.out.trans (B35.out.mono B23.out.size))
  clear hb4 hb5 M2 R2 B3 B23 B35
  rcases hcase with ⟨e1, e2⟩ | ⟨e1, e2⟩
  · have H1 := hidE (fun w0 => diff_row a c w0 e1)
    have H2 := hidE (fun w0 => diff_row c b w0 e2)
    have M3 := hidE (fun p k w0 w => many_row a c p k w0 w e1)
    have M4 := hidE (fun p k w0 w => many_row c b p k w0 w e2)
    have hq := HLE.out.2.1 e1
    have hq2 := HLE.out.2.2 e1
    clear HLE e1 e2 h hba
    go_upto_region 10 with (go_at_call 17; refine (H1.out _).mono ?_; rintro e w6 ⟨p3, k3, rfl, r3, hb6⟩)
    go_upto_region 11 with (go_at_call 17; refine (H2.out _).mono ?_; rintro e w7 ⟨p4, k4, rfl, r4, hb7⟩)
    have R3 := hidE r3
    have R4 := hidE r4
    have B67 := hidE hb7
    have B57 := hidE (hb6.trans (hb7.mono hb6.size))
    have B7 := hidE (B5.out.trans (B57.out.mono B5.out.size))
    have B27 := hidE (B25.out.trans (B57.out.mono B25.out.size))
    clear hb6 hb7 r3 r4 H1 H2
    generalize (diffL a c).length = n3 at *
    generalize (diffL c b).length = n4 at *
    generalize far a.data.toList c.data.toList = f3 at *
    generalize far c.data.toList b.data.toList = f4 at *
    have hle := HF3.out
    have hwr : IntKind.i64.wrap ((f3 : Int) + (f4 : Int)) = (f3 : Int) + (f4 : Int) := by rw [IntKind.wrap_i64] <;> omega
    have hfin : (f1 : Int) ≤ (f3 : Int) + (f4 : Int) := by omega
    go_wp2_with (go_at_call 19; first | (with_reducible refine (M1.out _ _ w2 _ R1.out B27.out).mono ?_; rintro e w8 ⟨rfl, hb8⟩) | (with_reducible refine (M3.out _ _ w6 _ R3.out (B67.out.trans (hb8.mono B67.out.size))).mono ?_; rintro e w9 ⟨rfl, hb9⟩) | (with_reducible refine (M4.out _ _ w7 _ R4.out (hb8.trans (hb9.mono hb8.size))).mono ?_; rintro e w10 ⟨rfl, hb10⟩))
    go_ret
    exact ⟨by simp, ((B7.out.trans (hb8.mono B7.out.size)).trans (hb9.mono (Nat.le_trans B7.out.size hb8.size))).trans (hb10.mono (Nat.le_trans (Nat.le_trans B7.out.size hb8.size) hb9.size))⟩
  · have H1 := hidE (fun w0 => diff_err a c w0 e1)
    have H2 := hidE (fun w0 => diff_err c b w0 e2)
    clear HLE h hba HF3 M1 R1
    generalize diffE a c = z1 at *
    generalize diffE c b = z2 at *
    go_upto_region 10 with (go_at_call 17; refine (H1.out _).mono ?_; rintro e w6 ⟨rfl, hb6⟩)
    go_upto_region 11 with (go_at_call 17; refine (H2.out _).mono ?_; rintro e w7 ⟨rfl, hb7⟩)
    have B7 := hidE ((B5.out.trans (hb6.mono B5.out.size)).trans (hb7.mono (Nat.le_trans B5.out.size hb6.size)))
    clear hb6 hb7
    go_wp2_with fail
    go_ret
    exact ⟨rfl, B7.out⟩

theorem diffNear_ok (a b c : ByteArray) (w : World) :
    Calls Try.prog 6 #[.string a, .string b, .string c] w fun e w' => e = .returned (.bool true) ∧ Below w.heap.size w w' := by
  by_cases h : diffE a b = 0
  · exact diffNear_zero a b c w h
  · exact diffNear_err a b c w h
end Go.Proofs.Ytnhjebdlcbhkcad
