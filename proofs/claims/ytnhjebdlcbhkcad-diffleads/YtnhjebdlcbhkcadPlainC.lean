/- Contracts of edit.Plain. -/
import Derived.Test.YtnhjebdlcbhkcadRunCk
namespace Go.Proofs.Ytnhjebdlcbhkcad
open Go.RowKit

/-- an edit -/
structure Ed where
  kind : Int
  at' : Int
  many : Int
  text : ByteArray
def edV (e : Ed) : Value := .agg #[.int .i64 e.kind, .int .i64 e.at', .int .i64 e.many, .string e.text]

set_option maxHeartbeats 400000 in
theorem isPlace_any (n k : Int) (w : World) :
    Calls Try.prog 121 #[.int .i64 n, .int .i64 k] w fun e w' => e = .returned (.bool (inB n 0 k)) ∧ w' = w := by
  by_cases h1 : n ≥ 0 <;> by_cases h2 : n ≤ k
  all_goals
    go_enter Try.func121, Try.ntmps121
    go_wp2
    go_ret
    exact ⟨ret_bool (by simp [inB]; omega), rfl⟩

/-- so many of the signs stand from a place on -/
def pieceB (n m k : Int) : Bool := decide (0 ≤ n) && decide (0 ≤ m) && decide (n + m ≤ k)

set_option maxHeartbeats 400000 in
theorem isPiece_any (n m : Int) (k : Nat) (w : World) (hk : k ≤ 9223372036854775807) (hm : m ≤ 9223372036854775807) :
    Calls Try.prog 122 #[.int .i64 n, .int .i64 m, .int .i64 k] w fun e w' => e = .returned (.bool (pieceB n m k)) ∧ w' = w := by
  by_cases h1 : n ≥ 0
  · by_cases h2 : m ≥ 0
    · have hw : IntKind.i64.wrap ((k : Int) - m) = k - m := by rw [IntKind.wrap_i64] <;> omega
      by_cases h3 : n ≤ (k : Int) - m
      all_goals
        go_enter Try.func122, Try.ntmps122
        go_wp2
        go_ret
        exact ⟨ret_bool (by simp [pieceB]; omega), rfl⟩
    · go_enter Try.func122, Try.ntmps122
      go_wp2
      go_ret
      exact ⟨ret_bool (by simp [pieceB]; omega), rfl⟩
  · go_enter Try.func122, Try.ntmps122
    go_wp2
    go_ret
    exact ⟨ret_bool (by simp [pieceB]; omega), rfl⟩

def putE (s : ByteArray) (n many : Int) (t : ByteArray) : Int := if many ≠ 0 then 1 else if inB n 0 s.size = false then 3 else if allS t.data.toList = false then 3 else if 300 < s.size + t.size then 2 else 0
def putT (s : ByteArray) (n many : Int) (t : ByteArray) : ByteArray := if putE s n many t = 0 then s.extract 0 n.toNat ++ t ++ s.extract n.toNat s.size else ⟨#[]⟩
def takeE (s : ByteArray) (n many : Int) (t : ByteArray) : Int := if t.size ≠ 0 then 1 else if pieceB n many s.size = false then 3 else 0
def takeT (s : ByteArray) (n many : Int) (t : ByteArray) : ByteArray := if takeE s n many t = 0 then s.extract 0 n.toNat ++ s.extract (n.toNat + many.toNat) s.size else ⟨#[]⟩
/-- what Plain answers -/
def plE (s : ByteArray) (e : Ed) : Int := if 300 < s.size then 2 else if allS s.data.toList = false then 3 else if e.kind = 1 then putE s e.at' e.many e.text else if e.kind = 2 then takeE s e.at' e.many e.text else 7
def plT (s : ByteArray) (e : Ed) : ByteArray := if 300 < s.size then ⟨#[]⟩ else if allS s.data.toList = false then ⟨#[]⟩ else if e.kind = 1 then putT s e.at' e.many e.text else if e.kind = 2 then takeT s e.at' e.many e.text else ⟨#[]⟩

theorem putE_ok {s t : ByteArray} {n many : Int} (h0 : many = 0) (h1 : inB n 0 s.size = true) (h2 : allS t.data.toList = true) (h3 : ¬ 300 < s.size + t.size) : putE s n many t = 0 := by
  unfold putE; rw [if_neg (by simpa using h0), if_neg (by rw [h1]; decide), if_neg (by rw [h2]; decide), if_neg h3]
theorem putT_err {s t : ByteArray} {n many : Int} (h : putE s n many t ≠ 0) : putT s n many t = ⟨#[]⟩ := by unfold putT; rw [if_neg h]
theorem takeE_ok {s t : ByteArray} {n many : Int} (h0 : t.size = 0) (h1 : pieceB n many s.size = true) : takeE s n many t = 0 := by
  unfold takeE; rw [if_neg (by simpa using h0), if_neg (by rw [h1]; decide)]
theorem takeT_err {s t : ByteArray} {n many : Int} (h : takeE s n many t ≠ 0) : takeT s n many t = ⟨#[]⟩ := by unfold takeT; rw [if_neg h]

set_option maxRecDepth 100000 in
set_option maxHeartbeats 2000000 in
theorem plainPut_any (s t : ByteArray) (kind n many : Int) (w : World) (hs : s.size ≤ 300) (ht : t.size ≤ 4611686018427387904) :
    Calls Try.prog 90 #[.string s, .agg #[.int .i64 kind, .int .i64 n, .int .i64 many, .string t]] w fun e w' => e = .returned (.tuple #[.string (putT s n many t), .int .i64 (putE s n many t)]) ∧ Below w.heap.size w w' := by
  have hB := (Below.refl w.heap.size w).alloc (Nat.le_refl _) (Obj.cells #[.int .i64 kind, .int .i64 n, .int .i64 many, .string t] 45)
  have q0 : (w.alloc (Obj.cells #[.int .i64 kind, .int .i64 n, .int .i64 many, .string t] 45)).cell? ⟨w.heap.size, 0, none⟩ = some (.int .i64 kind) := by simp
  have q1 : (w.alloc (Obj.cells #[.int .i64 kind, .int .i64 n, .int .i64 many, .string t] 45)).cell? ⟨w.heap.size, 1, none⟩ = some (.int .i64 n) := by simp
  have q2 : (w.alloc (Obj.cells #[.int .i64 kind, .int .i64 n, .int .i64 many, .string t] 45)).cell? ⟨w.heap.size, 2, none⟩ = some (.int .i64 many) := by simp
  have q3 : (w.alloc (Obj.cells #[.int .i64 kind, .int .i64 n, .int .i64 many, .string t] 45)).cell? ⟨w.heap.size, 3, none⟩ = some (.string t) := by simp
  have z : w.heap.size < (w.alloc (Obj.cells #[.int .i64 kind, .int .i64 n, .int .i64 many, .string t] 45)).heap.size := by simp
  go_enter Try.func90, Try.ntmps90
  go_upto_region 1 with fail
  generalize w.alloc (Obj.cells #[.int .i64 kind, .int .i64 n, .int .i64 many, .string t] 45) = W at hB q0 q1 q2 q3 z ⊢
  by_cases hm : many = 0
  case neg =>
    have HE : Hid (putE s n many t = 1) := by show _ = _; unfold putE; rw [if_pos hm]
    have HT : Hid (putT s n many t = ⟨#[]⟩) := putT_err (by rw [HE.out]; decide)
    have hmb : (many != 0) = true := by rw [bne_iff_ne]; exact hm
    clear hm
    go_wp2_with fail
    go_ret2
    exact ⟨by rw [HE.out, HT.out]; rfl, hB⟩
  subst hm
  cases h1 : inB n 0 s.size
  · have HE : Hid (putE s n 0 t = 3) := by show _ = _; unfold putE; rw [if_neg (by decide), if_pos h1]
    have HT : Hid (putT s n 0 t = ⟨#[]⟩) := putT_err (by rw [HE.out]; decide)
    have H1 := hidE h1
    have H2 := hidE (rfl : True = True)
    clear h1
    go_wp2_with (first | (go_at_call 121; refine (isPlace_any _ _ _).mono ?_; rintro e w' ⟨rfl, hw⟩; replace hw := hw.symm; subst hw; rw [H1.out]) | (go_at_call 45; refine (signAll_any _ _ (by unfold maxLen; omega)).mono ?_; rintro e w' ⟨rfl, hw⟩; replace hw := hw.symm; subst hw; rw [H2.out]))
    go_ret2
    exact ⟨by rw [HE.out, HT.out]; rfl, hB⟩
  cases h2 : allS t.data.toList
  · have HE : Hid (putE s n 0 t = 3) := by show _ = _; unfold putE; rw [if_neg (by decide), if_neg (by rw [h1]; decide), if_pos h2]
    have HT : Hid (putT s n 0 t = ⟨#[]⟩) := putT_err (by rw [HE.out]; decide)
    have H1 := hidE h1
    have H2 := hidE h2
    clear h1 h2
    go_wp2_with (first | (go_at_call 121; refine (isPlace_any _ _ _).mono ?_; rintro e w' ⟨rfl, hw⟩; replace hw := hw.symm; subst hw; rw [H1.out]) | (go_at_call 45; refine (signAll_any _ _ (by unfold maxLen; omega)).mono ?_; rintro e w' ⟨rfl, hw⟩; replace hw := hw.symm; subst hw; rw [H2.out]))
    go_ret2
    exact ⟨by rw [HE.out, HT.out]; rfl, hB⟩
  have hw1 : IntKind.i64.wrap ((s.size : Int) + t.size) = s.size + t.size := by rw [IntKind.wrap_i64] <;> omega
  by_cases h3 : (s.size : Int) + t.size > 300
  · have HE : Hid (putE s n 0 t = 2) := by show _ = _; unfold putE; rw [if_neg (by decide), if_neg (by rw [h1]; decide), if_neg (by rw [h2]; decide), if_pos (by omega)]
    have HT : Hid (putT s n 0 t = ⟨#[]⟩) := putT_err (by rw [HE.out]; decide)
    have H1 := hidE h1
    have H2 := hidE h2
    clear h1 h2
    go_wp2_with (first | (go_at_call 121; refine (isPlace_any _ _ _).mono ?_; rintro e w' ⟨rfl, hw⟩; replace hw := hw.symm; subst hw; rw [H1.out]) | (go_at_call 45; refine (signAll_any _ _ (by unfold maxLen; omega)).mono ?_; rintro e w' ⟨rfl, hw⟩; replace hw := hw.symm; subst hw; rw [H2.out]))
    go_ret2
    exact ⟨by rw [HE.out, HT.out]; rfl, hB⟩
  have HE : Hid (putE s n 0 t = 0) := putE_ok rfl h1 h2 (by omega)
  have HT : Hid (putT s n 0 t = s.extract 0 n.toNat ++ t ++ s.extract n.toNat s.size) := by show _ = _; unfold putT; rw [if_pos HE.out]
  have H1 := hidE h1
  have H2 := hidE h2
  have hn : 0 ≤ n ∧ n ≤ s.size := by simpa [inB] using h1
  clear h1 h2
  obtain ⟨k, rfl⟩ : ∃ k : Nat, n = k := ⟨n.toNat, by omega⟩
  have hk : k ≤ s.size := by omega
  have k1 := cell_regrown q1
  have k3 := cell_regrown q3
  go_upto_region 7 with (first | (go_at_call 121; refine (isPlace_any _ _ _).mono ?_; rintro e w' ⟨rfl, hw⟩; replace hw := hw.symm; subst hw; rw [H1.out]) | (go_at_call 45; refine (signAll_any _ _ (by unfold maxLen; omega)).mono ?_; rintro e w' ⟨rfl, hw⟩; replace hw := hw.symm; subst hw; rw [H2.out]))
  refine wp_region_quiet_below (by kernel_rfl) (by kernel_rfl) ?_
  repeat (first | go_big_quiet_step (fail) | quiet_step (fail))
  refine wpQuiet_nil ?_
  intro _ hw'
  obtain ⟨⟨dq, osq⟩, hw''⟩ := hw'
  subst hw''
  replace hB := hB.thru (below_regrown W dq osq) (Nat.le_of_lt z)
  go_wp2_with fail
  go_ret2
  exact ⟨by rw [HE.out, HT.out, Int.toNat_natCast]; rfl, hB⟩

set_option maxRecDepth 100000 in
set_option maxHeartbeats 2000000 in
theorem plainTake_any (s t : ByteArray) (kind n many : Int) (w : World) (hs : s.size ≤ 300) (hmn : many ≤ 9223372036854775807) :
    Calls Try.prog 91 #[.string s, .agg #[.int .i64 kind, .int .i64 n, .int .i64 many, .string t]] w fun e w' => e = .returned (.tuple #[.string (takeT s n many t), .int .i64 (takeE s n many t)]) ∧ Below w.heap.size w w' := by
  have hB := (Below.refl w.heap.size w).alloc (Nat.le_refl _) (Obj.cells #[.int .i64 kind, .int .i64 n, .int .i64 many, .string t] 45)
  have q0 : (w.alloc (Obj.cells #[.int .i64 kind, .int .i64 n, .int .i64 many, .string t] 45)).cell? ⟨w.heap.size, 0, none⟩ = some (.int .i64 kind) := by simp
  have q1 : (w.alloc (Obj.cells #[.int .i64 kind, .int .i64 n, .int .i64 many, .string t] 45)).cell? ⟨w.heap.size, 1, none⟩ = some (.int .i64 n) := by simp
  have q2 : (w.alloc (Obj.cells #[.int .i64 kind, .int .i64 n, .int .i64 many, .string t] 45)).cell? ⟨w.heap.size, 2, none⟩ = some (.int .i64 many) := by simp
  have q3 : (w.alloc (Obj.cells #[.int .i64 kind, .int .i64 n, .int .i64 many, .string t] 45)).cell? ⟨w.heap.size, 3, none⟩ = some (.string t) := by simp
  have z : w.heap.size < (w.alloc (Obj.cells #[.int .i64 kind, .int .i64 n, .int .i64 many, .string t] 45)).heap.size := by simp
  go_enter Try.func91, Try.ntmps91
  go_upto_region 1 with fail
  generalize w.alloc (Obj.cells #[.int .i64 kind, .int .i64 n, .int .i64 many, .string t] 45) = W at hB q0 q1 q2 q3 z ⊢
  by_cases ht : t.size = 0
  case neg =>
    have HE : Hid (takeE s n many t = 1) := by show _ = _; unfold takeE; rw [if_pos ht]
    have HT : Hid (takeT s n many t = ⟨#[]⟩) := takeT_err (by rw [HE.out]; decide)
    have htb : t.toList.isEmpty = false := by rw [isEmpty_size]; simpa using ht
    clear ht
    go_wp2_with fail
    go_ret2
    exact ⟨by rw [HE.out, HT.out]; rfl, hB⟩
  have HTS := hidE ht
  have htb : t.toList.isEmpty = true := by rw [isEmpty_size, ht]; rfl
  clear ht
  cases h1 : pieceB n many s.size
  · have HE : Hid (takeE s n many t = 3) := by show _ = _; unfold takeE; rw [if_neg (by simpa using HTS.out), if_pos h1]
    have HT : Hid (takeT s n many t = ⟨#[]⟩) := takeT_err (by rw [HE.out]; decide)
    have H1 := hidE h1
    clear h1
    go_wp2_with (go_at_call 122; refine (isPiece_any _ _ _ _ (by omega) hmn).mono ?_; rintro e w' ⟨rfl, hw⟩; replace hw := hw.symm; subst hw; rw [H1.out])
    go_ret2
    exact ⟨by rw [HE.out, HT.out]; rfl, hB⟩
  have HE : Hid (takeE s n many t = 0) := takeE_ok HTS.out h1
  have HT : Hid (takeT s n many t = s.extract 0 n.toNat ++ s.extract (n.toNat + many.toNat) s.size) := by show _ = _; unfold takeT; rw [if_pos HE.out]
  have H1 := hidE h1
  have hn : 0 ≤ n ∧ 0 ≤ many ∧ n + many ≤ s.size := by simp [pieceB] at h1; omega
  clear h1
  obtain ⟨k, rfl⟩ : ∃ k : Nat, n = k := ⟨n.toNat, by omega⟩
  obtain ⟨j, rfl⟩ : ∃ j : Nat, many = j := ⟨many.toNat, by omega⟩
  have hk : k ≤ s.size := by omega
  have hkj : k + j ≤ s.size := by omega
  have hw1 : IntKind.i64.wrap ((k : Int) + j) = ((k + j : Nat) : Int) := by rw [IntKind.wrap_i64] <;> omega
  have k1 := cell_regrown q1
  have k2 := cell_regrown q2
  go_upto_region 5 with (go_at_call 122; refine (isPiece_any _ _ _ _ (by omega) hmn).mono ?_; rintro e w' ⟨rfl, hw⟩; replace hw := hw.symm; subst hw; rw [H1.out])
  refine wp_region_quiet_below (by kernel_rfl) (by kernel_rfl) ?_
  repeat (first | go_big_quiet_step (fail) | quiet_step (fail))
  refine wpQuiet_nil ?_
  intro _ hw'
  obtain ⟨⟨dq, osq⟩, hw''⟩ := hw'
  subst hw''
  replace hB := hB.thru (below_regrown W dq osq) (Nat.le_of_lt z)
  go_wp2_with fail
  go_ret2
  exact ⟨by rw [HE.out, HT.out, Int.toNat_natCast, Int.toNat_natCast]; rfl, hB⟩
end Go.Proofs.Ytnhjebdlcbhkcad
