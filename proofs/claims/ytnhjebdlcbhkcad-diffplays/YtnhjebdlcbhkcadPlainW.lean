/- Contract of edit.Plain. -/
import Derived.Test.YtnhjebdlcbhkcadPlainC
namespace Go.Proofs.Ytnhjebdlcbhkcad
open Go.RowKit

set_option maxRecDepth 100000 in
set_option maxHeartbeats 4000000 in
theorem plain_any (s t : ByteArray) (kind n many : Int) (w : World) (hs : s.size ≤ 4611686018427387904) (ht : t.size ≤ 4611686018427387904) (hmn : many ≤ 9223372036854775807) :
    Calls Try.prog 43 #[.string s, .agg #[.int .i64 kind, .int .i64 n, .int .i64 many, .string t]] w fun e w' => e = .returned (.tuple #[.string (plT s ⟨kind, n, many, t⟩), .int .i64 (plE s ⟨kind, n, many, t⟩)]) ∧ Below w.heap.size w w' := by
  have hB := (Below.refl w.heap.size w).alloc (Nat.le_refl _) (Obj.cells #[.int .i64 kind, .int .i64 n, .int .i64 many, .string t] 45)
  have q0 : (w.alloc (Obj.cells #[.int .i64 kind, .int .i64 n, .int .i64 many, .string t] 45)).cell? ⟨w.heap.size, 0, none⟩ = some (.int .i64 kind) := by simp
  have q1 : (w.alloc (Obj.cells #[.int .i64 kind, .int .i64 n, .int .i64 many, .string t] 45)).cell? ⟨w.heap.size, 1, none⟩ = some (.int .i64 n) := by simp
  have q2 : (w.alloc (Obj.cells #[.int .i64 kind, .int .i64 n, .int .i64 many, .string t] 45)).cell? ⟨w.heap.size, 2, none⟩ = some (.int .i64 many) := by simp
  have q3 : (w.alloc (Obj.cells #[.int .i64 kind, .int .i64 n, .int .i64 many, .string t] 45)).cell? ⟨w.heap.size, 3, none⟩ = some (.string t) := by simp
  have z : w.heap.size < (w.alloc (Obj.cells #[.int .i64 kind, .int .i64 n, .int .i64 many, .string t] 45)).heap.size := by simp
  go_enter Try.func43, Try.ntmps43
  go_upto_region 1 with fail
  generalize w.alloc (Obj.cells #[.int .i64 kind, .int .i64 n, .int .i64 many, .string t] 45) = W at hB q0 q1 q2 q3 z ⊢
  have hsL : s.size ≤ maxLen := by unfold maxLen; omega
  by_cases h300 : (s.size : Int) > 300
  · have HE : Hid (plE s ⟨kind, n, many, t⟩ = 2) := by show _ = _; unfold plE; rw [if_pos (by omega)]
    have HT : Hid (plT s ⟨kind, n, many, t⟩ = ⟨#[]⟩) := by show _ = _; unfold plT; rw [if_pos (by omega)]
    go_wp2_with fail
    go_ret2
    exact ⟨by rw [HE.out, HT.out]; rfl, hB⟩
  cases hsg : allS s.data.toList
  · have HE : Hid (plE s ⟨kind, n, many, t⟩ = 3) := by show _ = _; unfold plE; rw [if_neg (by omega), if_pos hsg]
    have HT : Hid (plT s ⟨kind, n, many, t⟩ = ⟨#[]⟩) := by show _ = _; unfold plT; rw [if_neg (by omega), if_pos hsg]
    have H0 := hidE hsg
    clear hsg
    go_wp2_with (go_at_call 45; refine (signAll_any s _ hsL).mono ?_; rintro e w' ⟨rfl, hw⟩; replace hw := hw.symm; subst hw; rw [H0.out])
    go_ret2
    exact ⟨by rw [HE.out, HT.out]; rfl, hB⟩
  have HE1 : Hid (plE s ⟨kind, n, many, t⟩ = if kind = 1 then putE s n many t else if kind = 2 then takeE s n many t else 7) := by show _ = _; unfold plE; rw [if_neg (by omega), if_neg (by rw [hsg]; decide)]
  have HT1 : Hid (plT s ⟨kind, n, many, t⟩ = if kind = 1 then putT s n many t else if kind = 2 then takeT s n many t else ⟨#[]⟩) := by show _ = _; unfold plT; rw [if_neg (by omega), if_neg (by rw [hsg]; decide)]
  have H0 := hidE hsg
  clear hsg
  by_cases hk1 : kind = 1
  · have HE : Hid (plE s ⟨kind, n, many, t⟩ = putE s n many t) := by show _ = _; rw [HE1.out, if_pos hk1]
    have HT : Hid (plT s ⟨kind, n, many, t⟩ = putT s n many t) := by show _ = _; rw [HT1.out, if_pos hk1]
    have HC := hidE (plainPut_any s t kind n many W (by omega) ht)
    subst hk1
    clear HE1 HT1
    go_wp2_with (first | (go_at_call 45; refine (signAll_any s _ hsL).mono ?_; rintro e w' ⟨rfl, hw⟩; replace hw := hw.symm; subst hw; rw [H0.out]) | (go_at_call 90; refine HC.out.mono ?_; rintro e w2 ⟨rfl, hb⟩))
    go_ret2
    exact ⟨by rw [HE.out, HT.out]; rfl, hB.thru hb (Nat.le_of_lt z)⟩
  have hb1 : (kind == 1) = false := by rw [beq_eq_false_iff_ne]; exact hk1
  by_cases hk2 : kind = 2
  · have HE : Hid (plE s ⟨kind, n, many, t⟩ = takeE s n many t) := by show _ = _; rw [HE1.out, if_neg hk1, if_pos hk2]
    have HT : Hid (plT s ⟨kind, n, many, t⟩ = takeT s n many t) := by show _ = _; rw [HT1.out, if_neg hk1, if_pos hk2]
    have HC := hidE (plainTake_any s t kind n many W (by omega) hmn)
    subst hk2
    clear HE1 HT1 hk1
    go_wp2_with (first | (go_at_call 45; refine (signAll_any s _ hsL).mono ?_; rintro e w' ⟨rfl, hw⟩; replace hw := hw.symm; subst hw; rw [H0.out]) | (go_at_call 91; refine HC.out.mono ?_; rintro e w2 ⟨rfl, hb⟩))
    go_ret2
    exact ⟨by rw [HE.out, HT.out]; rfl, hB.thru hb (Nat.le_of_lt z)⟩
  have hb2 : (kind == 2) = false := by rw [beq_eq_false_iff_ne]; exact hk2
  have HE : Hid (plE s ⟨kind, n, many, t⟩ = 7) := by show _ = _; rw [HE1.out, if_neg hk1, if_neg hk2]
  have HT : Hid (plT s ⟨kind, n, many, t⟩ = ⟨#[]⟩) := by show _ = _; rw [HT1.out, if_neg hk1, if_neg hk2]
  clear HE1 HT1 hk1 hk2
  go_wp2_with (go_at_call 45; refine (signAll_any s _ hsL).mono ?_; rintro e w' ⟨rfl, hw⟩; replace hw := hw.symm; subst hw; rw [H0.out])
  go_ret2
  exact ⟨by rw [HE.out, HT.out]; rfl, hB⟩
end Go.Proofs.Ytnhjebdlcbhkcad
