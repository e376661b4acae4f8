/- Contracts of sign.All, AreSigns, run.Check, CheckRun. -/
import Derived.Test.YtnhjebdlcbhkcafNextOf
import Derived.Test.YtnhjebdlcbhkcafAtomCkR
namespace Go.Proofs.Ytnhjebdlcbhkcaf
open Go.RowKit

theorem isEmpty_size (t : ByteArray) : t.toList.isEmpty = decide (t.size = 0) := by
  rw [ByteArray.toList_eq]
  obtain ⟨⟨d⟩⟩ := t
  cases d <;> simp [ByteArray.size]

def allS (l : List UInt8) : Bool := l.all fun c => isSignB c.toNat
/-- what Check of a run answers -/
def chkRun (l : List (Int × Int)) (c : Int) (t : ByteArray) : Int :=
  if chk l c ≠ 0 then chk l c else if t.size = 0 then 1 else if 60 < t.size then 2 else if allS t.data.toList = false then 3 else (nxt l c ((t.size : Int) - 1)).2.2

theorem allS_drop (s : ByteArray) (k : Nat) (h : k < s.size) : allS (s.data.toList.drop k) = (isSignB s[k].toNat && allS (s.data.toList.drop (k + 1))) := by
  rw [List.drop_eq_getElem_cons (by simpa using h)]; rfl

theorem bump_len' (l : List (Int × Int)) (n : Int) : (bump l n).length = l.length := by unfold bump setL; simp

theorem u8_range (c : UInt8) : (0 : Int) ≤ c.toNat ∧ (c.toNat : Int) ≤ 255 := by
  have := c.toNat_lt; omega

set_option maxHeartbeats 1000000 in
theorem signAll_any (s : ByteArray) (w : World) (hs : s.size ≤ maxLen) :
    Calls Try.prog 53 #[.string s] w fun e w' => e = .returned (.bool (allS s.data.toList)) ∧ w' = w := by
  unfold maxLen at hs
  go_enter Try.func53, Try.ntmps53
  go_wp2
  go_loop [6] (fun i => ∃ k : Nat, k ≤ s.size ∧ i = .int .i64 k ∧ allS s.data.toList = allS (s.data.toList.drop k)) (fun i => s.size - (intOf i).toNat)
  case atStart => exact ⟨0, Nat.zero_le _, rfl, by simp⟩
  case round =>
    obtain ⟨k, hk, rfl, hall⟩ := hrel
    have HA := hidE hall
    clear hall
    by_cases hlt : k < s.size
    · have hi1 : (k : Int) < s.size := by omega
      have HD := hidE (allS_drop s k hlt)
      have hr := u8_range s[k]
      cases hsg : isSignB (s[k].toNat : Int)
      all_goals
        have HSG := hidE hsg
        clear hsg
        go_wp2_with (go_at_call 60; refine (signIs_any _ _ hr.1 hr.2).mono ?_; rintro e w' ⟨rfl, rfl⟩; rw [HSG.out])
      · go_ret
        exact ⟨ret_bool (by rw [HA.out, HD.out, HSG.out]; rfl), rfl⟩
      · go_round
        case rel => exact ⟨k + 1, by omega, by go_num, by rw [HA.out, HD.out, HSG.out]; rfl⟩
        case measure => simp [intOf]; omega
    · go_wp2
      go_ret
      exact ⟨ret_bool (by rw [HA.out, List.drop_eq_nil_of_le (by simp; omega)]; rfl), rfl⟩

set_option maxHeartbeats 1000000 in
theorem areSigns_any (s : ByteArray) (w : World) (hs : s.size ≤ maxLen) :
    Calls Try.prog 41 #[.string s] w fun e w' => e = .returned (.bool (allS s.data.toList)) ∧ w' = w := by
  unfold maxLen at hs
  go_enter Try.func41, Try.ntmps41
  go_wp2
  go_loop [3] (fun i => ∃ k : Nat, k ≤ s.size ∧ i = .int .i64 k ∧ allS s.data.toList = allS (s.data.toList.drop k)) (fun i => s.size - (intOf i).toNat)
  case atStart => exact ⟨0, Nat.zero_le _, rfl, by simp⟩
  case round =>
    obtain ⟨k, hk, rfl, hall⟩ := hrel
    have HA := hidE hall
    clear hall
    by_cases hlt : k < s.size
    · have hi1 : (k : Int) < s.size := by omega
      have HD := hidE (allS_drop s k hlt)
      have hr := u8_range s[k]
      cases hsg : isSignB (s[k].toNat : Int)
      all_goals
        have HSG := hidE hsg
        clear hsg
        go_wp2_with (go_at_call 50; refine (isSign_any _ _ hr.1 hr.2).mono ?_; rintro e w' ⟨rfl, rfl⟩; rw [HSG.out])
      · go_ret
        exact ⟨ret_bool (by rw [HA.out, HD.out, HSG.out]; rfl), rfl⟩
      · go_round
        case rel => exact ⟨k + 1, by omega, by go_num, by rw [HA.out, HD.out, HSG.out]; rfl⟩
        case measure => simp [intOf]; omega
    · go_wp2
      go_ret
      exact ⟨ret_bool (by rw [HA.out, List.drop_eq_nil_of_le (by simp; omega)]; rfl), rfl⟩

set_option maxRecDepth 100000 in
set_option maxHeartbeats 2000000 in
theorem runCheck_any (a : Option Addr) (cap : Nat) (l : List (Int × Int)) (c : Int) (t : ByteArray) (w : World) (hl : l.length ≤ maxLen) (ht : t.size ≤ maxLen) (h : StepsAt w a l) :
    Calls Try.prog 45 #[.agg #[.slice a l.length cap, .int .i64 c, .string t]] w fun e w' => e = .returned (.int .i64 (chkRun l c t)) ∧ Below w.heap.size w w' := by
  have hbA : Below w.heap.size w (w.alloc (Obj.cells #[.slice a l.length cap, .int .i64 c, .string t] 52)) := (Below.refl _ _).alloc (Nat.le_refl _) _
  have q0 : (w.alloc (Obj.cells #[.slice a l.length cap, .int .i64 c, .string t] 52)).cell? ⟨w.heap.size, 0, none⟩ = some (.slice a l.length cap) := by simp
  have q1 : (w.alloc (Obj.cells #[.slice a l.length cap, .int .i64 c, .string t] 52)).cell? ⟨w.heap.size, 1, none⟩ = some (.int .i64 c) := by simp
  have q2 : (w.alloc (Obj.cells #[.slice a l.length cap, .int .i64 c, .string t] 52)).cell? ⟨w.heap.size, 2, none⟩ = some (.string t) := by simp
  have z1 : w.heap.size < (w.alloc (Obj.cells #[.slice a l.length cap, .int .i64 c, .string t] 52)).heap.size := by simp
  have htm := ht
  unfold maxLen at ht
  go_enter Try.func45, Try.ntmps45
  go_upto_region 1 with fail
  generalize w.alloc (Obj.cells #[.slice a l.length cap, .int .i64 c, .string t] 52) = w1 at hbA q0 q1 q2 z1 ⊢
  go_wp2_with fail
  refine (check_any _ _ l _ _ hl (h.below hbA (Nat.le_refl _))).mono ?_
  rintro e w2 ⟨rfl, hb2⟩
  have p0 := (hb2.cell (p := ⟨w.heap.size, 0, none⟩) z1).trans q0
  have p1 := (hb2.cell (p := ⟨w.heap.size, 1, none⟩) z1).trans q1
  have p2 := (hb2.cell (p := ⟨w.heap.size, 2, none⟩) z1).trans q2
  have hb := hbA.thru hb2 hbA.size
  clear hbA hb2 q0 q1 q2 z1
  by_cases h0 : chk l c = 0
  rotate_left
  · have hx : (chk l c != 0) = true := bne_iff_ne.2 h0
    have HC : Hid (chkRun l c t = chk l c) := by show _ = _; unfold chkRun; rw [if_pos h0]
    clear h0
    go_wp2_with fail
    go_ret
    exact ⟨ret_int HC.out.symm, hb⟩
  rw [h0]
  have HC : Hid (chkRun l c t = if t.size = 0 then 1 else if 60 < t.size then 2 else if allS t.data.toList = false then 3 else (nxt l c ((t.size : Int) - 1)).2.2) := by show _ = _; unfold chkRun; rw [if_neg (by omega)]
  clear h0
  by_cases h1 : t.size = 0
  · have h1' : ((t.size : Int) = 0) := by omega
    replace HC : Hid (chkRun l c t = 1) := by show _ = _; rw [HC.out, if_pos h1]
    clear h1
    go_wp2_with fail
    go_ret
    exact ⟨ret_int HC.out.symm, hb⟩
  have h1' : ¬ ((t.size : Int) = 0) := by omega
  replace HC : Hid (chkRun l c t = if 60 < t.size then 2 else if allS t.data.toList = false then 3 else (nxt l c ((t.size : Int) - 1)).2.2) := by show _ = _; rw [HC.out, if_neg h1]
  by_cases h2 : 60 < t.size
  · have h2' : (t.size : Int) > 60 := by omega
    replace HC : Hid (chkRun l c t = 2) := by show _ = _; rw [HC.out, if_pos h2]
    clear h1 h2
    go_wp2_with fail
    go_ret
    exact ⟨ret_int HC.out.symm, hb⟩
  have h2' : ¬ ((t.size : Int) > 60) := by omega
  replace HC : Hid (chkRun l c t = if allS t.data.toList = false then 3 else (nxt l c ((t.size : Int) - 1)).2.2) := by show _ = _; rw [HC.out, if_neg h2]
  cases h3 : allS t.data.toList
  · replace HC : Hid (chkRun l c t = 3) := by show _ = _; rw [HC.out, if_pos h3]
    have H3 := hidE h3
    clear h1 h2 h3
    go_wp2_with (go_at_call 53; refine (signAll_any _ _ htm).mono ?_; rintro e w' ⟨rfl, rfl⟩; rw [H3.out])
    go_ret
    exact ⟨ret_int HC.out.symm, hb⟩
  · replace HC : Hid (chkRun l c t = (nxt l c ((t.size : Int) - 1)).2.2) := by show _ = _; rw [HC.out, if_neg (by rw [h3]; decide)]
    have H3 := hidE h3
    clear h1 h2 h3
    go_wp2_with (first | (go_at_call 53; refine (signAll_any _ _ htm).mono ?_; rintro e w' ⟨rfl, rfl⟩; rw [H3.out]) | (go_at_call 48; refine (next_any _ _ l _ _ _ hl (h.below hb (Nat.le_refl _))).mono ?_; rintro e w3 ⟨na, nc, rfl, hsN, hb3⟩))
    go_ret
    exact ⟨ret_int HC.out.symm, (hb.thru hb3 hb.size).alloc (Nat.le_trans hb.size hb3.size) _⟩

set_option maxRecDepth 100000 in
set_option maxHeartbeats 2000000 in
theorem checkRun_any (a : Option Addr) (cap : Nat) (l : List (Int × Int)) (c : Int) (t : ByteArray) (w : World) (hl : l.length ≤ maxLen) (ht : t.size ≤ maxLen) (h : StepsAt w a l) :
    Calls Try.prog 28 #[.agg #[.slice a l.length cap, .int .i64 c, .string t]] w fun e w' => e = .returned (.int .i64 (chkRun l c t)) ∧ Below w.heap.size w w' := by
  have hbA : Below w.heap.size w (w.alloc (Obj.cells #[.slice a l.length cap, .int .i64 c, .string t] 52)) := (Below.refl _ _).alloc (Nat.le_refl _) _
  have q0 : (w.alloc (Obj.cells #[.slice a l.length cap, .int .i64 c, .string t] 52)).cell? ⟨w.heap.size, 0, none⟩ = some (.slice a l.length cap) := by simp
  have q1 : (w.alloc (Obj.cells #[.slice a l.length cap, .int .i64 c, .string t] 52)).cell? ⟨w.heap.size, 1, none⟩ = some (.int .i64 c) := by simp
  have q2 : (w.alloc (Obj.cells #[.slice a l.length cap, .int .i64 c, .string t] 52)).cell? ⟨w.heap.size, 2, none⟩ = some (.string t) := by simp
  have z1 : w.heap.size < (w.alloc (Obj.cells #[.slice a l.length cap, .int .i64 c, .string t] 52)).heap.size := by simp
  have htm := ht
  unfold maxLen at ht
  go_enter Try.func28, Try.ntmps28
  go_upto_region 1 with fail
  generalize w.alloc (Obj.cells #[.slice a l.length cap, .int .i64 c, .string t] 52) = w1 at hbA q0 q1 q2 z1 ⊢
  go_wp2_with fail
  refine (checkMark_any _ _ l _ _ hl (h.below hbA (Nat.le_refl _))).mono ?_
  rintro e w2 ⟨rfl, hb2⟩
  have p0 := (hb2.cell (p := ⟨w.heap.size, 0, none⟩) z1).trans q0
  have p1 := (hb2.cell (p := ⟨w.heap.size, 1, none⟩) z1).trans q1
  have p2 := (hb2.cell (p := ⟨w.heap.size, 2, none⟩) z1).trans q2
  have hb := hbA.thru hb2 hbA.size
  clear hbA hb2 q0 q1 q2 z1
  by_cases h0 : chk l c = 0
  rotate_left
  · have hx : (chk l c != 0) = true := bne_iff_ne.2 h0
    have HC : Hid (chkRun l c t = chk l c) := by show _ = _; unfold chkRun; rw [if_pos h0]
    clear h0
    go_wp2_with fail
    go_ret
    exact ⟨ret_int HC.out.symm, hb⟩
  rw [h0]
  have HC : Hid (chkRun l c t = if t.size = 0 then 1 else if 60 < t.size then 2 else if allS t.data.toList = false then 3 else (nxt l c ((t.size : Int) - 1)).2.2) := by show _ = _; unfold chkRun; rw [if_neg (by omega)]
  clear h0
  by_cases h1 : t.size = 0
  · have h1b : t.toList.isEmpty = true := by rw [isEmpty_size, h1]; rfl
    replace HC : Hid (chkRun l c t = 1) := by show _ = _; rw [HC.out, if_pos h1]
    clear h1
    go_wp2_with fail
    go_ret
    exact ⟨ret_int HC.out.symm, hb⟩
  have h1b : t.toList.isEmpty = false := by rw [isEmpty_size]; simpa using h1
  replace HC : Hid (chkRun l c t = if 60 < t.size then 2 else if allS t.data.toList = false then 3 else (nxt l c ((t.size : Int) - 1)).2.2) := by show _ = _; rw [HC.out, if_neg h1]
  by_cases h2 : 60 < t.size
  · have h2' : (t.size : Int) > 60 := by omega
    replace HC : Hid (chkRun l c t = 2) := by show _ = _; rw [HC.out, if_pos h2]
    clear h1 h2
    go_wp2_with fail
    go_ret
    exact ⟨ret_int HC.out.symm, hb⟩
  have h2' : ¬ ((t.size : Int) > 60) := by omega
  replace HC : Hid (chkRun l c t = if allS t.data.toList = false then 3 else (nxt l c ((t.size : Int) - 1)).2.2) := by show _ = _; rw [HC.out, if_neg h2]
  cases h3 : allS t.data.toList
  · replace HC : Hid (chkRun l c t = 3) := by show _ = _; rw [HC.out, if_pos h3]
    have H3 := hidE h3
    clear h1 h2 h3
    go_wp2_with (go_at_call 41; refine (areSigns_any _ _ htm).mono ?_; rintro e w' ⟨rfl, rfl⟩; rw [H3.out])
    go_ret
    exact ⟨ret_int HC.out.symm, hb⟩
  · replace HC : Hid (chkRun l c t = (nxt l c ((t.size : Int) - 1)).2.2) := by show _ = _; rw [HC.out, if_neg (by rw [h3]; decide)]
    have H3 := hidE h3
    clear h1 h2 h3
    go_wp2_with (first | (go_at_call 41; refine (areSigns_any _ _ htm).mono ?_; rintro e w' ⟨rfl, rfl⟩; rw [H3.out]) | (go_at_call 31; refine (nextOf_any _ _ l _ _ _ hl (h.below hb (Nat.le_refl _))).mono ?_; rintro e w3 ⟨na, nc, rfl, hsN, hb3⟩))
    go_ret
    exact ⟨ret_int HC.out.symm, hb.thru hb3 hb.size⟩
end Go.Proofs.Ytnhjebdlcbhkcaf
