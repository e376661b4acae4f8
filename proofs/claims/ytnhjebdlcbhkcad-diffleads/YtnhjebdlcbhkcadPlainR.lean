/- The reference's PlainOf. -/
import Derived.Test.YtnhjebdlcbhkcadPlainC
namespace Go.Proofs.Ytnhjebdlcbhkcad
open Go.RowKit

set_option maxHeartbeats 1000000 in
theorem isInside_any (n m : Int) (k : Nat) (w : World) (hk : k ≤ 1000) :
    Calls Try.prog 92 #[.int .i64 n, .int .i64 m, .int .i64 k] w fun e w' => e = .returned (.bool (pieceB n m k)) ∧ w' = w := by
  cases h1 : inB n 0 k
  · have HF : Hid (pieceB n m k = false) := by show _ = _; simp [inB] at h1; simp [pieceB]; omega
    have H1 := hidE h1
    clear h1
    go_enter Try.func92, Try.ntmps92
    go_wp2_with (go_at_call 56; refine (between_any _ _ _ _).mono ?_; rintro e w' ⟨rfl, rfl⟩; rw [H1.out])
    go_ret
    exact ⟨ret_bool HF.out.symm, rfl⟩
  cases h2 : inB m 0 k
  · have HF : Hid (pieceB n m k = false) := by show _ = _; simp [inB] at h1 h2; simp [pieceB]; omega
    have H1 := hidE h1
    have H2 := hidE h2
    clear h1 h2
    go_enter Try.func92, Try.ntmps92
    go_wp2_with (go_at_call 56; refine (between_any _ _ _ _).mono ?_; rintro e w' ⟨rfl, rfl⟩; first | rw [H2.out] | rw [H1.out])
    all_goals
      go_ret
      exact ⟨ret_bool HF.out.symm, rfl⟩
  have hn : 0 ≤ n ∧ n ≤ k := by simpa [inB] using h1
  have hm : 0 ≤ m ∧ m ≤ k := by simpa [inB] using h2
  have HF : Hid (pieceB n m k = decide (n + m ≤ k)) := by show _ = _; unfold pieceB; rw [decide_eq_true hn.1, decide_eq_true hm.1]; rfl
  have hw1 : IntKind.i64.wrap (n + m) = n + m := by rw [IntKind.wrap_i64] <;> omega
  have H1 := hidE h1
  have H2 := hidE h2
  clear h1 h2
  go_enter Try.func92, Try.ntmps92
  go_wp2_with (go_at_call 56; refine (between_any _ _ _ _).mono ?_; rintro e w' ⟨rfl, rfl⟩; first | rw [H2.out] | rw [H1.out])
  go_ret
  exact ⟨ret_bool HF.out.symm, rfl⟩

set_option maxRecDepth 100000 in
set_option maxHeartbeats 4000000 in
theorem plainOf_any (s t : ByteArray) (kind n many : Int) (w : World) (hs : s.size ≤ 4611686018427387904) (ht : t.size ≤ 4611686018427387904) (_hmn : many ≤ 9223372036854775807) :
    Calls Try.prog 44 #[.string s, .agg #[.int .i64 kind, .int .i64 n, .int .i64 many, .string t]] w fun e w' => e = .returned (.tuple #[.string (plT s ⟨kind, n, many, t⟩), .int .i64 (plE s ⟨kind, n, many, t⟩)]) ∧ Below w.heap.size w w' := by
  have hB := (Below.refl w.heap.size w).alloc (Nat.le_refl _) (Obj.cells #[.int .i64 kind, .int .i64 n, .int .i64 many, .string t] 45)
  have q0 : (w.alloc (Obj.cells #[.int .i64 kind, .int .i64 n, .int .i64 many, .string t] 45)).cell? ⟨w.heap.size, 0, none⟩ = some (.int .i64 kind) := by simp
  have q1 : (w.alloc (Obj.cells #[.int .i64 kind, .int .i64 n, .int .i64 many, .string t] 45)).cell? ⟨w.heap.size, 1, none⟩ = some (.int .i64 n) := by simp
  have q2 : (w.alloc (Obj.cells #[.int .i64 kind, .int .i64 n, .int .i64 many, .string t] 45)).cell? ⟨w.heap.size, 2, none⟩ = some (.int .i64 many) := by simp
  have q3 : (w.alloc (Obj.cells #[.int .i64 kind, .int .i64 n, .int .i64 many, .string t] 45)).cell? ⟨w.heap.size, 3, none⟩ = some (.string t) := by simp
  have z : w.heap.size < (w.alloc (Obj.cells #[.int .i64 kind, .int .i64 n, .int .i64 many, .string t] 45)).heap.size := by simp
  go_enter Try.func44, Try.ntmps44
  go_upto_region 1 with fail
  generalize w.alloc (Obj.cells #[.int .i64 kind, .int .i64 n, .int .i64 many, .string t] 45) = W at hB q0 q1 q2 q3 z ⊢
  have hsL : s.size ≤ maxLen := by unfold maxLen; omega
  have htL : t.size ≤ maxLen := by unfold maxLen; omega
  by_cases h300 : (s.size : Int) > 300
  · have HE : Hid (plE s ⟨kind, n, many, t⟩ = 2) := by show _ = _; unfold plE; rw [if_pos (by omega)]
    have HT : Hid (plT s ⟨kind, n, many, t⟩ = ⟨#[]⟩) := by show _ = _; unfold plT; rw [if_pos (by omega)]
    go_wp2_with fail
    go_ret2
    exact ⟨by rw [HE.out, HT.out]; rfl, hB⟩
  cases hsg : allS s.data.toList
  · have HE : Hid (plE s ⟨kind, n, many, t⟩ = 3) := by show _ = _; unfold plE; rw [if_neg (by omega), if_pos hsg]
    have HT : Hid (plT s ⟨kind, n, many, t⟩ = ⟨#[]⟩) := by show _ = _; unfold plT; rw [if_neg (by omega), if_pos hsg]
    have H0 := hidE hsg
    clear hsg
    go_wp2_with (go_at_call 18; first | ((with_reducible refine (areSigns_any s _ hsL).mono ?_); rintro e w' ⟨rfl, hw⟩; replace hw := hw.symm; subst hw; rw [H0.out]))
    go_ret2
    exact ⟨by rw [HE.out, HT.out]; rfl, hB⟩
  have HE1 : Hid (plE s ⟨kind, n, many, t⟩ = if kind = 1 then putE s n many t else if kind = 2 then takeE s n many t else 7) := by show _ = _; unfold plE; rw [if_neg (by omega), if_neg (by rw [hsg]; decide)]
  have HT1 : Hid (plT s ⟨kind, n, many, t⟩ = if kind = 1 then putT s n many t else if kind = 2 then takeT s n many t else ⟨#[]⟩) := by show _ = _; unfold plT; rw [if_neg (by omega), if_neg (by rw [hsg]; decide)]
  have H0 := hidE hsg
  clear hsg
  by_cases hk1 : kind = 1
  · subst hk1
    rw [if_pos rfl] at HE1 HT1
    by_cases hm : many = 0
    case neg =>
      have HE0 : putE s n many t = 1 := by unfold putE; rw [if_pos hm]
      have HE : Hid (plE s ⟨1, n, many, t⟩ = 1) := by show _ = _; rw [HE1.out, HE0]
      have HT : Hid (plT s ⟨1, n, many, t⟩ = ⟨#[]⟩) := by show _ = _; rw [HT1.out, putT_err (by rw [HE0]; decide)]
      have hmb : (many != 0) = true := by rw [bne_iff_ne]; exact hm
      clear hm HE0 HE1 HT1
      go_wp2_with (go_at_call 18; first | ((with_reducible refine (areSigns_any s _ hsL).mono ?_); rintro e w' ⟨rfl, hw⟩; replace hw := hw.symm; subst hw; rw [H0.out]))
      go_ret2
      exact ⟨by rw [HE.out, HT.out]; rfl, hB⟩
    subst hm
    cases h1 : inB n 0 s.size
    · have HE0 : putE s n 0 t = 3 := by unfold putE; rw [if_neg (by decide), if_pos h1]
      have HE : Hid (plE s ⟨1, n, 0, t⟩ = 3) := by show _ = _; rw [HE1.out, HE0]
      have HT : Hid (plT s ⟨1, n, 0, t⟩ = ⟨#[]⟩) := by show _ = _; rw [HT1.out, putT_err (by rw [HE0]; decide)]
      have H1 := hidE h1
      clear h1 HE0 HE1 HT1
      go_wp2_with (first | (go_at_call 56; refine (between_any _ _ _ _).mono ?_; rintro e w' ⟨rfl, hw⟩; replace hw := hw.symm; subst hw; rw [H1.out]) | (go_at_call 18; first | ((with_reducible refine (areSigns_any s _ hsL).mono ?_); rintro e w' ⟨rfl, hw⟩; replace hw := hw.symm; subst hw; rw [H0.out])))
      go_ret2
      exact ⟨by rw [HE.out, HT.out]; rfl, hB⟩
    cases h2 : allS t.data.toList
    · have HE0 : putE s n 0 t = 3 := by unfold putE; rw [if_neg (by decide), if_neg (by rw [h1]; decide), if_pos h2]
      have HE : Hid (plE s ⟨1, n, 0, t⟩ = 3) := by show _ = _; rw [HE1.out, HE0]
      have HT : Hid (plT s ⟨1, n, 0, t⟩ = ⟨#[]⟩) := by show _ = _; rw [HT1.out, putT_err (by rw [HE0]; decide)]
      have H1 := hidE h1
      have H2 := hidE h2
      clear h1 h2 HE0 HE1 HT1
      go_wp2_with (first | (go_at_call 56; refine (between_any _ _ _ _).mono ?_; rintro e w' ⟨rfl, hw⟩; replace hw := hw.symm; subst hw; rw [H1.out]) | (go_at_call 18; first | ((with_reducible refine (areSigns_any s _ hsL).mono ?_); rintro e w' ⟨rfl, hw⟩; replace hw := hw.symm; subst hw; rw [H0.out]) | ((with_reducible refine (areSigns_any t _ htL).mono ?_); rintro e w' ⟨rfl, hw⟩; replace hw := hw.symm; subst hw; rw [H2.out])))
      go_ret2
      exact ⟨by rw [HE.out, HT.out]; rfl, hB⟩
    have hw1 : IntKind.i64.wrap ((s.size : Int) + t.size) = s.size + t.size := by rw [IntKind.wrap_i64] <;> omega
    by_cases h3 : (s.size : Int) + t.size > 300
    · have HE0 : putE s n 0 t = 2 := by unfold putE; rw [if_neg (by decide), if_neg (by rw [h1]; decide), if_neg (by rw [h2]; decide), if_pos (by omega)]
      have HE : Hid (plE s ⟨1, n, 0, t⟩ = 2) := by show _ = _; rw [HE1.out, HE0]
      have HT : Hid (plT s ⟨1, n, 0, t⟩ = ⟨#[]⟩) := by show _ = _; rw [HT1.out, putT_err (by rw [HE0]; decide)]
      have H1 := hidE h1
      have H2 := hidE h2
      clear h1 h2 HE0 HE1 HT1
      go_wp2_with (first | (go_at_call 56; refine (between_any _ _ _ _).mono ?_; rintro e w' ⟨rfl, hw⟩; replace hw := hw.symm; subst hw; rw [H1.out]) | (go_at_call 18; first | ((with_reducible refine (areSigns_any s _ hsL).mono ?_); rintro e w' ⟨rfl, hw⟩; replace hw := hw.symm; subst hw; rw [H0.out]) | ((with_reducible refine (areSigns_any t _ htL).mono ?_); rintro e w' ⟨rfl, hw⟩; replace hw := hw.symm; subst hw; rw [H2.out])))
      go_ret2
      exact ⟨by rw [HE.out, HT.out]; rfl, hB⟩
    have HE0 : putE s n 0 t = 0 := putE_ok rfl h1 h2 (by omega)
    have HE : Hid (plE s ⟨1, n, 0, t⟩ = 0) := by show _ = _; rw [HE1.out, HE0]
    have HT : Hid (plT s ⟨1, n, 0, t⟩ = s.extract 0 n.toNat ++ t ++ s.extract n.toNat s.size) := by show _ = _; rw [HT1.out]; unfold putT; rw [if_pos HE0]
    have H1 := hidE h1
    have H2 := hidE h2
    have hn : 0 ≤ n ∧ n ≤ s.size := by simpa [inB] using h1
    clear h1 h2 HE0 HE1 HT1
    obtain ⟨k, rfl⟩ : ∃ k : Nat, n = k := ⟨n.toNat, by omega⟩
    have hk : k ≤ s.size := by omega
    have k1 := cell_regrown q1
    have k3 := cell_regrown q3
    go_upto_region 13 with (first | (go_at_call 56; refine (between_any _ _ _ _).mono ?_; rintro e w' ⟨rfl, hw⟩; replace hw := hw.symm; subst hw; rw [H1.out]) | (go_at_call 18; first | ((with_reducible refine (areSigns_any s _ hsL).mono ?_); rintro e w' ⟨rfl, hw⟩; replace hw := hw.symm; subst hw; rw [H0.out]) | ((with_reducible refine (areSigns_any t _ htL).mono ?_); rintro e w' ⟨rfl, hw⟩; replace hw := hw.symm; subst hw; rw [H2.out])))
    refine wp_region_quiet_below (by kernel_rfl) (by kernel_rfl) ?_
    repeat (first | go_big_quiet_step (fail) | quiet_step (fail))
    refine wpQuiet_nil ?_
    intro _ hw'
    obtain ⟨⟨dq, osq⟩, hw''⟩ := hw'
    subst hw''
    replace hB := hB.thru (below_regrown W dq osq) (Nat.le_of_lt z)
    go_wp2_with fail
    go_ret2
    exact ⟨by rw [HE.out, HT.out, Int.toNat_natCast]; rfl, hB⟩
  have hb1 : (kind == 1) = false := by rw [beq_eq_false_iff_ne]; exact hk1
  by_cases hk2 : kind = 2
  · subst hk2
    rw [if_neg (by decide), if_pos rfl] at HE1 HT1
    clear hk1
    by_cases h0 : t.size = 0
    case neg =>
      have HE0 : takeE s n many t = 1 := by unfold takeE; rw [if_pos h0]
      have HE : Hid (plE s ⟨2, n, many, t⟩ = 1) := by show _ = _; rw [HE1.out, HE0]
      have HT : Hid (plT s ⟨2, n, many, t⟩ = ⟨#[]⟩) := by show _ = _; rw [HT1.out, takeT_err (by rw [HE0]; decide)]
      have htb : t.toList.isEmpty = false := by rw [isEmpty_size]; simpa using h0
      clear h0 HE0 HE1 HT1
      go_wp2_with (go_at_call 18; first | ((with_reducible refine (areSigns_any s _ hsL).mono ?_); rintro e w' ⟨rfl, hw⟩; replace hw := hw.symm; subst hw; rw [H0.out]))
      go_ret2
      exact ⟨by rw [HE.out, HT.out]; rfl, hB⟩
    have HTS := hidE h0
    have htb : t.toList.isEmpty = true := by rw [isEmpty_size, h0]; rfl
    clear h0
    cases h1 : pieceB n many s.size
    · have HE0 : takeE s n many t = 3 := by unfold takeE; rw [if_neg (by simpa using HTS.out), if_pos h1]
      have HE : Hid (plE s ⟨2, n, many, t⟩ = 3) := by show _ = _; rw [HE1.out, HE0]
      have HT : Hid (plT s ⟨2, n, many, t⟩ = ⟨#[]⟩) := by show _ = _; rw [HT1.out, takeT_err (by rw [HE0]; decide)]
      have H1 := hidE h1
      clear h1 HE0 HE1 HT1
      go_wp2_with (first | (go_at_call 92; refine (isInside_any _ _ _ _ (by omega)).mono ?_; rintro e w' ⟨rfl, hw⟩; replace hw := hw.symm; subst hw; rw [H1.out]) | (go_at_call 18; first | ((with_reducible refine (areSigns_any s _ hsL).mono ?_); rintro e w' ⟨rfl, hw⟩; replace hw := hw.symm; subst hw; rw [H0.out])))
      go_ret2
      exact ⟨by rw [HE.out, HT.out]; rfl, hB⟩
    have HE0 : takeE s n many t = 0 := takeE_ok HTS.out h1
    have HE : Hid (plE s ⟨2, n, many, t⟩ = 0) := by show _ = _; rw [HE1.out, HE0]
    have HT : Hid (plT s ⟨2, n, many, t⟩ = s.extract 0 n.toNat ++ s.extract (n.toNat + many.toNat) s.size) := by show _ = _; rw [HT1.out]; unfold takeT; rw [if_pos HE0]
    have H1 := hidE h1
    have hn : 0 ≤ n ∧ 0 ≤ many ∧ n + many ≤ s.size := by simp [pieceB] at h1; omega
    clear h1 HE0 HE1 HT1
    obtain ⟨k, rfl⟩ : ∃ k : Nat, n = k := ⟨n.toNat, by omega⟩
    obtain ⟨j, rfl⟩ : ∃ j : Nat, many = j := ⟨many.toNat, by omega⟩
    have hk : k ≤ s.size := by omega
    have hkj : k + j ≤ s.size := by omega
    have hw1 : IntKind.i64.wrap ((k : Int) + j) = ((k + j : Nat) : Int) := by rw [IntKind.wrap_i64] <;> omega
    have k1 := cell_regrown q1
    have k2 := cell_regrown q2
    go_upto_region 19 with (first | (go_at_call 92; refine (isInside_any _ _ _ _ (by omega)).mono ?_; rintro e w' ⟨rfl, hw⟩; replace hw := hw.symm; subst hw; rw [H1.out]) | (go_at_call 18; first | ((with_reducible refine (areSigns_any s _ hsL).mono ?_); rintro e w' ⟨rfl, hw⟩; replace hw := hw.symm; subst hw; rw [H0.out])))
    refine wp_region_quiet_below (by kernel_rfl) (by kernel_rfl) ?_
    repeat (first | go_big_quiet_step (fail) | quiet_step (fail))
    refine wpQuiet_nil ?_
    intro _ hw'
    obtain ⟨⟨dq, osq⟩, hw''⟩ := hw'
    subst hw''
    replace hB := hB.thru (below_regrown W dq osq) (Nat.le_of_lt z)
    go_wp2_with fail
    go_ret2
    exact ⟨by rw [HE.out, HT.out, Int.toNat_natCast, Int.toNat_natCast]; rfl, hB⟩
  have hb2 : (kind == 2) = false := by rw [beq_eq_false_iff_ne]; exact hk2
  have HE : Hid (plE s ⟨kind, n, many, t⟩ = 7) := by show _ = _; rw [HE1.out, if_neg hk1, if_neg hk2]
  have HT : Hid (plT s ⟨kind, n, many, t⟩ = ⟨#[]⟩) := by show _ = _; rw [HT1.out, if_neg hk1, if_neg hk2]
  clear HE1 HT1 hk1 hk2
  go_wp2_with (go_at_call 18; first | ((with_reducible refine (areSigns_any s _ hsL).mono ?_); rintro e w' ⟨rfl, hw⟩; replace hw := hw.symm; subst hw; rw [H0.out]))
  go_ret2
  exact ⟨by rw [HE.out, HT.out]; rfl, hB⟩
end Go.Proofs.Ytnhjebdlcbhkcad
