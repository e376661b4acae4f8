/- Contracts of sign.All, AreSigns, run.Check, CheckRun. -/
import Derived.Test.YtnhjebdlcbhkcaeGreatAtomCk
import Derived.Test.YtnhjebdlcbhkcaeGreatNextOf
namespace Go.Proofs.YtnhjebdlcbhkcaeGreat
open Go.RowKit

set_option maxHeartbeats 400000 in
theorem isSign_any (s : Int) (w : World) (h0 : 0 ≤ s) (h1 : s ≤ 255) :
    Calls Tryz.prog 179 #[.int .u8 s] w fun e w' => e = .returned (.bool (isSignB s)) ∧ w' = w := by
  have hw : IntKind.i64.wrap s = s := by rw [IntKind.wrap_i64] <;> omega
  go_enter Tryz.func179, Tryz.ntmps179
  go_wp2_with (go_at_call 101; refine (between_any _ _ _ _).mono ?_; rintro e w' ⟨rfl, rfl⟩)
  go_ret
  exact ⟨by rfl, rfl⟩

set_option maxRecDepth 100000 in
set_option maxHeartbeats 2000000 in
theorem checkAtoms_any (a : Option Addr) (cap : Nat) (l : List At) (w : World) (hl : l.length ≤ maxLen) (h : AtomsAt w a l) :
    Calls Tryz.prog 158 #[.slice a l.length cap] w fun e w' => e = .returned (.int .i64 (chkL l)) ∧ Below w.heap.size w w' := by
  unfold maxLen at hl
  by_cases h300 : 300 < l.length
  · have hd : ((l.length : Int) > 300) := by omega
    go_enter Tryz.func158, Tryz.ntmps158
    go_wp2
    go_ret
    exact ⟨ret_int (by unfold chkL; rw [if_pos h300]), Below.refl _ _⟩
  have hd : ¬ ((l.length : Int) > 300) := by omega
  have HC : Hid (chkL l = chkFrom none l) := by show _ = _; unfold chkL; rw [if_neg h300]
  go_enter Tryz.func158, Tryz.ntmps158
  go_wp2
  go_loopw [3] (fun i wr => ∃ k : Nat, k ≤ l.length ∧ i = .int .i64 k ∧ chkFrom (prevOf l k) (l.drop k) = chkFrom none l ∧ Below w.heap.size w wr) (fun i _ => l.length - (intOf i).toNat)
  case atStart => exact ⟨0, Nat.zero_le _, rfl, rfl, Below.refl _ _⟩
  case round =>
    obtain ⟨k, hk, rfl, hck, hb⟩ := hrel
    have HK := hidE hck
    clear hck
    by_cases hlt : k < l.length
    · rcases h.below hb (Nat.le_refl _) with hs | ⟨ab, ao, rfl, hab, hc⟩
      · simp [hs] at hlt
      have hcons : Hid (chkFrom (prevOf l k) (l.drop k) = if chkAt (prevOf l k) l[k] ≠ 0 then chkAt (prevOf l k) l[k] else chkFrom (some l[k]) (l.drop (k + 1))) := by
        show _ = _
        rw [List.drop_eq_getElem_cons hlt, chkFrom_cons]
      have hnext : Hid (prevOf l (k + 1) = some l[k]) := by
        show _ = _
        unfold prevOf; rw [if_neg (by omega), Nat.add_sub_cancel, List.getElem?_eq_getElem hlt]
      obtain ⟨p, cp, c0, c1, c2, hst, hle, _, s0, s1⟩ := hc k hlt
      have HP : Hid (chkAt (prevOf l k) l[k] = chkAt (prevOf l k) ⟨l[k].path, l[k].clock, l[k].sign⟩) := rfl
      have hi1 : (k : Int) < l.length := by omega
      have HAll := hidE hc
      generalize l[k].path = pk at *
      generalize l[k].clock = ck at *
      generalize l[k].sign = sk at *
      clear hc h
      go_wp2_with fail
      refine (checkMark_any _ _ pk _ _ hle hst).mono ?_
      rintro e w2 ⟨rfl, hbW⟩
      have p0 := (hbW.cell (p := ⟨ab, ao + k * 3, none⟩) hab).trans c0
      have p1 := (hbW.cell (p := ⟨ab, ao + k * 3 + 1, none⟩) hab).trans c1
      have p2 := (hbW.cell (p := ⟨ab, ao + k * 3 + 2, none⟩) hab).trans c2
      have hb2w := hb.thru hbW hb.size
      clear hb c0 c1 c2
      have HR : Hid (chkL l = if chkAt (prevOf l k) ⟨pk, ck, sk⟩ ≠ 0 then chkAt (prevOf l k) ⟨pk, ck, sk⟩ else chkFrom (some l[k]) (l.drop (k + 1))) := by
        show _ = _
        rw [HC.out, ← HK.out, hcons.out, HP.out]
      clear HC HP hcons
      by_cases hc0 : chk pk ck = 0
      · rw [hc0]
        have HA : Hid (chkAt (prevOf l k) ⟨pk, ck, sk⟩ = if isSignB sk = false then 3 else match prevOf l k with
            | none => 0
            | some y => if 0 ≤ ordA y ⟨pk, ck, sk⟩ then 4 else 0) := by
          show _ = _
          unfold chkAt
          rw [if_neg (by simpa using hc0)]
          rfl
        clear hc0
        by_cases g1 : isSignB sk = false
        · have HA2 : Hid (chkL l = 3) := by
            show _ = _
            rw [HR.out, HA.out, if_pos g1, if_pos (by decide)]
          have G1 := hidE g1
          clear g1
          go_wp2_with (go_at_call 179; refine (isSign_any _ _ s0 s1).mono ?_; rintro e w' ⟨rfl, rfl⟩; rw [G1.out])
          go_ret
          exact ⟨ret_int HA2.out.symm, hb2w⟩
        have HA2 : Hid (chkAt (prevOf l k) ⟨pk, ck, sk⟩ = match prevOf l k with
            | none => 0
            | some y => if 0 ≤ ordA y ⟨pk, ck, sk⟩ then 4 else 0) := by
          show _ = _
          rw [HA.out, if_neg g1]
        have G1 : Hid (isSignB sk = true) := by show _ = _; simpa using g1
        clear HA g1
        rcases Nat.eq_zero_or_pos k with rfl | hk0
        · have HA3 : Hid (chkFrom (some l[0]) (l.drop 1) = chkL l) := by
            show _ = _
            rw [HR.out, HA2.out]
            rfl
          have hg : decide ((0 : Int) > 0) = false := by decide
          simp only [Nat.zero_mul, Nat.add_zero] at p0 p1 p2
          go_wp2_with (go_at_call 179; refine (isSign_any _ _ s0 s1).mono ?_; rintro e w' ⟨rfl, rfl⟩; rw [G1.out])
          refine wp_region_quiet_below (by kernel_rfl) (by kernel_rfl) ?_
          repeat (first | go_big_quiet_step (fail) | quiet_step (fail))
          refine wpQuiet_nil ?_
          intro _ hw'
          obtain ⟨⟨dq, osq⟩, hw''⟩ := hw'
          subst hw''
          go_wp2
          go_roundw
          case rel => exact ⟨1, by omega, by go_num, by rw [hnext.out, HA3.out]; unfold chkL; rw [if_neg h300], hb2w.thru (below_regrown _ _ _) hb2w.size⟩
          case measure => simp [intOf]; omega
        · obtain ⟨j, rfl⟩ : ∃ j, k = j + 1 := ⟨k - 1, by omega⟩
          obtain ⟨py, cy, c0, c1, _, hsy, hly, _⟩ := HAll.out j (by omega)
          have d0 := (hbW.cell (p := ⟨ab, ao + j * 3, none⟩) hab).trans c0
          have d1 := (hbW.cell (p := ⟨ab, ao + j * 3 + 1, none⟩) hab).trans c1
          have hpv : Hid (prevOf l (j + 1) = some l[j]) := by
            show _ = _
            unfold prevOf; rw [if_neg (by omega), Nat.add_sub_cancel, List.getElem?_eq_getElem (by omega)]
          have HA3 : Hid (chkAt (prevOf l (j + 1)) ⟨pk, ck, sk⟩ = if 0 ≤ ordM l[j].path l[j].clock pk ck then 4 else 0) := by
            show _ = _
            rw [HA2.out, hpv.out]; rfl
          have k0 := cell_regrown d0
          have k1 := cell_regrown d1
          have k2 := cell_regrown p0
          have k3 := cell_regrown p1
          have S1 := hidE (fun d os => (hsy.below hbW (Nat.le_refl _)).below (below_regrown w2 d os) (Nat.le_refl _))
          have S2 := hidE (fun d os => (hst.below hbW (Nat.le_refl _)).below (below_regrown w2 d os) (Nat.le_refl _))
          clear c0 c1 HA2 hsy hst
          generalize l[j].path = lp at d0 d1 hly HA3 k0 S1
          generalize l[j].clock = lc at d0 d1 HA3 k1
          have hw1 : IntKind.i64.wrap (((j + 1 : Nat) : Int) - 1) = (j : Int) := by rw [IntKind.wrap_i64] <;> omega
          have hg : decide (((j + 1 : Nat) : Int) > 0) = true := by simp
          have hj1 : (j : Int) < l.length := by omega
          go_wp2_with (go_at_call 179; refine (isSign_any _ _ s0 s1).mono ?_; rintro e w' ⟨rfl, rfl⟩; rw [G1.out])
          refine wp_region_quiet_below (by kernel_rfl) (by kernel_rfl) ?_
          repeat (first | go_big_quiet_step ((go_at_call 141; exact Calls.regrown_of (orderOf_any _ _ _ _ lp pk _ _ _ hly hle (S1.out _ _) (S2.out _ _)))) | quiet_step ((go_at_call 141; exact Calls.regrown_of (orderOf_any _ _ _ _ lp pk _ _ _ hly hle (S1.out _ _) (S2.out _ _)))))
          refine wpQuiet_nil ?_
          intro _ hw'
          obtain ⟨⟨dq, osq⟩, hw''⟩ := hw'
          subst hw''
          by_cases ho : 0 ≤ ordM lp lc pk ck
          · have HF : Hid (chkL l = 4) := by show _ = _; rw [HR.out, HA3.out, if_pos ho, if_pos (by decide)]
            go_wp2
            go_ret
            exact ⟨ret_int HF.out.symm, hb2w.thru (below_regrown _ _ _) hb2w.size⟩
          · have HF : Hid (chkL l = chkFrom (some l[j + 1]) (l.drop (j + 1 + 1))) := by show _ = _; rw [HR.out, HA3.out, if_neg ho, if_neg (by decide)]
            have hlt' : ordM lp lc pk ck < 0 := by omega
            go_wp2
            go_roundw
            case rel => exact ⟨j + 1 + 1, by omega, by go_num, by rw [hnext.out, ← HF.out]; unfold chkL; rw [if_neg h300], hb2w.thru (below_regrown _ _ _) hb2w.size⟩
            case measure => simp [intOf]; omega
      · have hcb : (chk pk ck != 0) = true := by rw [bne_iff_ne]; exact hc0
        have HA : Hid (chkL l = chk pk ck) := by
          show _ = _
          have : chkAt (prevOf l k) ⟨pk, ck, sk⟩ = chk pk ck := by unfold chkAt; rw [if_pos hc0]
          rw [HR.out, this, if_pos hc0]
        clear hc0
        go_wp2_with fail
        go_ret
        exact ⟨ret_int HA.out.symm, hb2w⟩
    · go_wp2
      go_ret
      refine ⟨ret_int ?_, hb⟩
      rw [HC.out, ← HK.out, List.drop_eq_nil_of_le (by omega)]; rfl
end Go.Proofs.YtnhjebdlcbhkcaeGreat

namespace Go.Proofs.YtnhjebdlcbhkcaeGreat
open Go.RowKit

theorem isEmpty_size (t : ByteArray) : t.toList.isEmpty = decide (t.size = 0) := by
  rw [ByteArray.toList_eq]
  obtain ⟨⟨d⟩⟩ := t
  cases d <;> simp [ByteArray.size]

def allS (l : List UInt8) : Bool := l.all fun c => isSignB c.toNat
def chkRun (l : List (Int × Int)) (c : Int) (t : ByteArray) : Int :=
  if chk l c ≠ 0 then chk l c else if t.size = 0 then 1 else if 60 < t.size then 2 else if allS t.data.toList = false then 3 else (nxt l c ((t.size : Int) - 1)).2.2

theorem allS_drop (s : ByteArray) (k : Nat) (h : k < s.size) : allS (s.data.toList.drop k) = (isSignB s[k].toNat && allS (s.data.toList.drop (k + 1))) := by
  rw [List.drop_eq_getElem_cons (by simpa using h)]; rfl

theorem bump_len' (l : List (Int × Int)) (n : Int) : (bump l n).length = l.length := by unfold bump setL; simp

theorem u8_range (c : UInt8) : (0 : Int) ≤ c.toNat ∧ (c.toNat : Int) ≤ 255 := by
  have := c.toNat_lt; omega

set_option maxHeartbeats 1000000 in
theorem signAll_any (s : ByteArray) (w : World) (hs : s.size ≤ maxLen) :
    Calls Tryz.prog 88 #[.string s] w fun e w' => e = .returned (.bool (allS s.data.toList)) ∧ w' = w := by
  unfold maxLen at hs
  go_enter Tryz.func88, Tryz.ntmps88
  go_wp2
  go_loop [6] (fun i => ∃ k : Nat, k ≤ s.size ∧ i = .int .i64 k ∧ allS s.data.toList = allS (s.data.toList.drop k)) (fun i => s.size - (intOf i).toNat)
  case atStart => exact ⟨0, Nat.zero_le _, rfl, by simp⟩
  case round =>
    obtain ⟨k, hk, rfl, hall⟩ := hrel
    have HA := hidE hall
    clear hall
    by_cases hlt : k < s.size
    · have hi1 : (k : Int) < s.size := by omega
      have HD := hidE (allS_drop s k hlt)
      have hr := u8_range s[k]
      cases hsg : isSignB (s[k].toNat : Int)
      all_goals
        have HSG := hidE hsg
        clear hsg
        go_wp2_with (go_at_call 135; refine (signIs_any _ _ hr.1 hr.2).mono ?_; rintro e w' ⟨rfl, rfl⟩; rw [HSG.out])
      · go_ret
        exact ⟨ret_bool (by rw [HA.out, HD.out, HSG.out]; rfl), rfl⟩
      · go_round
        case rel => exact ⟨k + 1, by omega, by go_num, by rw [HA.out, HD.out, HSG.out]; rfl⟩
        case measure => simp [intOf]; omega
    · go_wp2
      go_ret
      exact ⟨ret_bool (by rw [HA.out, List.drop_eq_nil_of_le (by simp; omega)]; rfl), rfl⟩

set_option maxHeartbeats 1000000 in
theorem areSigns_any (s : ByteArray) (w : World) (hs : s.size ≤ maxLen) :
    Calls Tryz.prog 109 #[.string s] w fun e w' => e = .returned (.bool (allS s.data.toList)) ∧ w' = w := by
  unfold maxLen at hs
  go_enter Tryz.func109, Tryz.ntmps109
  go_wp2
  go_loop [3] (fun i => ∃ k : Nat, k ≤ s.size ∧ i = .int .i64 k ∧ allS s.data.toList = allS (s.data.toList.drop k)) (fun i => s.size - (intOf i).toNat)
  case atStart => exact ⟨0, Nat.zero_le _, rfl, by simp⟩
  case round =>
    obtain ⟨k, hk, rfl, hall⟩ := hrel
    have HA := hidE hall
    clear hall
    by_cases hlt : k < s.size
    · have hi1 : (k : Int) < s.size := by omega
      have HD := hidE (allS_drop s k hlt)
      have hr := u8_range s[k]
      cases hsg : isSignB (s[k].toNat : Int)
      all_goals
        have HSG := hidE hsg
        clear hsg
        go_wp2_with (go_at_call 179; refine (isSign_any _ _ hr.1 hr.2).mono ?_; rintro e w' ⟨rfl, rfl⟩; rw [HSG.out])
      · go_ret
        exact ⟨ret_bool (by rw [HA.out, HD.out, HSG.out]; rfl), rfl⟩
      · go_round
        case rel => exact ⟨k + 1, by omega, by go_num, by rw [HA.out, HD.out, HSG.out]; rfl⟩
        case measure => simp [intOf]; omega
    · go_wp2
      go_ret
      exact ⟨ret_bool (by rw [HA.out, List.drop_eq_nil_of_le (by simp; omega)]; rfl), rfl⟩

set_option maxRecDepth 100000 in
set_option maxHeartbeats 2000000 in
theorem runCheck_any (a : Option Addr) (cap : Nat) (l : List (Int × Int)) (c : Int) (t : ByteArray) (w : World) (hl : l.length ≤ maxLen) (ht : t.size ≤ maxLen) (h : StepsAt w a l) :
    Calls Tryz.prog 54 #[.agg #[.slice a l.length cap, .int .i64 c, .string t]] w fun e w' => e = .returned (.int .i64 (chkRun l c t)) ∧ Below w.heap.size w w' := by
  have hbA : Below w.heap.size w (w.alloc (Obj.cells #[.slice a l.length cap, .int .i64 c, .string t] 59)) := (Below.refl _ _).alloc (Nat.le_refl _) _
  have q0 : (w.alloc (Obj.cells #[.slice a l.length cap, .int .i64 c, .string t] 59)).cell? ⟨w.heap.size, 0, none⟩ = some (.slice a l.length cap) := by simp
  have q1 : (w.alloc (Obj.cells #[.slice a l.length cap, .int .i64 c, .string t] 59)).cell? ⟨w.heap.size, 1, none⟩ = some (.int .i64 c) := by simp
  have q2 : (w.alloc (Obj.cells #[.slice a l.length cap, .int .i64 c, .string t] 59)).cell? ⟨w.heap.size, 2, none⟩ = some (.string t) := by simp
  have z1 : w.heap.size < (w.alloc (Obj.cells #[.slice a l.length cap, .int .i64 c, .string t] 59)).heap.size := by simp
  have htm := ht
  unfold maxLen at ht
  go_enter Tryz.func54, Tryz.ntmps54
  go_upto_region 1 with fail
  generalize w.alloc (Obj.cells #[.slice a l.length cap, .int .i64 c, .string t] 59) = w1 at hbA q0 q1 q2 z1 ⊢
  go_wp2_with fail
  refine (check_any _ _ l _ _ hl (h.below hbA (Nat.le_refl _))).mono ?_
  rintro e w2 ⟨rfl, hb2⟩
  have p0 := (hb2.cell (p := ⟨w.heap.size, 0, none⟩) z1).trans q0
  have p1 := (hb2.cell (p := ⟨w.heap.size, 1, none⟩) z1).trans q1
  have p2 := (hb2.cell (p := ⟨w.heap.size, 2, none⟩) z1).trans q2
  have hb := hbA.thru hb2 hbA.size
  clear hbA hb2 q0 q1 q2 z1
  by_cases h0 : chk l c = 0
  rotate_left
  · have hx : (chk l c != 0) = true := bne_iff_ne.2 h0
    have HC : Hid (chkRun l c t = chk l c) := by show _ = _; unfold chkRun; rw [if_pos h0]
    clear h0
    go_wp2_with fail
    go_ret
    exact ⟨ret_int HC.out.symm, hb⟩
  rw [h0]
  have HC : Hid (chkRun l c t = if t.size = 0 then 1 else if 60 < t.size then 2 else if allS t.data.toList = false then 3 else (nxt l c ((t.size : Int) - 1)).2.2) := by show _ = _; unfold chkRun; rw [if_neg (by omega)]
  clear h0
  by_cases h1 : t.size = 0
  · have h1' : ((t.size : Int) = 0) := by omega
    replace HC : Hid (chkRun l c t = 1) := by show _ = _; rw [HC.out, if_pos h1]
    clear h1
    go_wp2_with fail
    go_ret
    exact ⟨ret_int HC.out.symm, hb⟩
  have h1' : ¬ ((t.size : Int) = 0) := by omega
  replace HC : Hid (chkRun l c t = if 60 < t.size then 2 else if allS t.data.toList = false then 3 else (nxt l c ((t.size : Int) - 1)).2.2) := by show _ = _; rw [HC.out, if_neg h1]
  by_cases h2 : 60 < t.size
  · have h2' : (t.size : Int) > 60 := by omega
    replace HC : Hid (chkRun l c t = 2) := by show _ = _; rw [HC.out, if_pos h2]
    clear h1 h2
    go_wp2_with fail
    go_ret
    exact ⟨ret_int HC.out.symm, hb⟩
  have h2' : ¬ ((t.size : Int) > 60) := by omega
  replace HC : Hid (chkRun l c t = if allS t.data.toList = false then 3 else (nxt l c ((t.size : Int) - 1)).2.2) := by show _ = _; rw [HC.out, if_neg h2]
  cases h3 : allS t.data.toList
  · replace HC : Hid (chkRun l c t = 3) := by show _ = _; rw [HC.out, if_pos h3]
    have H3 := hidE h3
    clear h1 h2 h3
    go_wp2_with (go_at_call 88; refine (signAll_any _ _ htm).mono ?_; rintro e w' ⟨rfl, rfl⟩; rw [H3.out])
    go_ret
    exact ⟨ret_int HC.out.symm, hb⟩
  · replace HC : Hid (chkRun l c t = (nxt l c ((t.size : Int) - 1)).2.2) := by show _ = _; rw [HC.out, if_neg (by rw [h3]; decide)]
    have H3 := hidE h3
    clear h1 h2 h3
    go_wp2_with (first | (go_at_call 88; refine (signAll_any _ _ htm).mono ?_; rintro e w' ⟨rfl, rfl⟩; rw [H3.out]) | (go_at_call 34; refine (next_any _ _ l _ _ _ hl (h.below hb (Nat.le_refl _))).mono ?_; rintro e w3 ⟨na, nc, rfl, hsN, hb3⟩))
    go_ret
    exact ⟨ret_int HC.out.symm, (hb.thru hb3 hb.size).alloc (Nat.le_trans hb.size hb3.size) _⟩

set_option maxRecDepth 100000 in
set_option maxHeartbeats 2000000 in
theorem checkRun_any (a : Option Addr) (cap : Nat) (l : List (Int × Int)) (c : Int) (t : ByteArray) (w : World) (hl : l.length ≤ maxLen) (ht : t.size ≤ maxLen) (h : StepsAt w a l) :
    Calls Tryz.prog 159 #[.agg #[.slice a l.length cap, .int .i64 c, .string t]] w fun e w' => e = .returned (.int .i64 (chkRun l c t)) ∧ Below w.heap.size w w' := by
  have hbA : Below w.heap.size w (w.alloc (Obj.cells #[.slice a l.length cap, .int .i64 c, .string t] 59)) := (Below.refl _ _).alloc (Nat.le_refl _) _
  have q0 : (w.alloc (Obj.cells #[.slice a l.length cap, .int .i64 c, .string t] 59)).cell? ⟨w.heap.size, 0, none⟩ = some (.slice a l.length cap) := by simp
  have q1 : (w.alloc (Obj.cells #[.slice a l.length cap, .int .i64 c, .string t] 59)).cell? ⟨w.heap.size, 1, none⟩ = some (.int .i64 c) := by simp
  have q2 : (w.alloc (Obj.cells #[.slice a l.length cap, .int .i64 c, .string t] 59)).cell? ⟨w.heap.size, 2, none⟩ = some (.string t) := by simp
  have z1 : w.heap.size < (w.alloc (Obj.cells #[.slice a l.length cap, .int .i64 c, .string t] 59)).heap.size := by simp
  have htm := ht
  unfold maxLen at ht
  go_enter Tryz.func159, Tryz.ntmps159
  go_upto_region 1 with fail
  generalize w.alloc (Obj.cells #[.slice a l.length cap, .int .i64 c, .string t] 59) = w1 at hbA q0 q1 q2 z1 ⊢
  go_wp2_with fail
  refine (checkMark_any _ _ l _ _ hl (h.below hbA (Nat.le_refl _))).mono ?_
  rintro e w2 ⟨rfl, hb2⟩
  have p0 := (hb2.cell (p := ⟨w.heap.size, 0, none⟩) z1).trans q0
  have p1 := (hb2.cell (p := ⟨w.heap.size, 1, none⟩) z1).trans q1
  have p2 := (hb2.cell (p := ⟨w.heap.size, 2, none⟩) z1).trans q2
  have hb := hbA.thru hb2 hbA.size
  clear hbA hb2 q0 q1 q2 z1
  by_cases h0 : chk l c = 0
  rotate_left
  · have hx : (chk l c != 0) = true := bne_iff_ne.2 h0
    have HC : Hid (chkRun l c t = chk l c) := by show _ = _; unfold chkRun; rw [if_pos h0]
    clear h0
    go_wp2_with fail
    go_ret
    exact ⟨ret_int HC.out.symm, hb⟩
  rw [h0]
  have HC : Hid (chkRun l c t = if t.size = 0 then 1 else if 60 < t.size then 2 else if allS t.data.toList = false then 3 else (nxt l c ((t.size : Int) - 1)).2.2) := by show _ = _; unfold chkRun; rw [if_neg (by omega)]
  clear h0
  by_cases h1 : t.size = 0
  · have h1b : t.toList.isEmpty = true := by rw [isEmpty_size, h1]; rfl
    replace HC : Hid (chkRun l c t = 1) := by show _ = _; rw [HC.out, if_pos h1]
    clear h1
    go_wp2_with fail
    go_ret
    exact ⟨ret_int HC.out.symm, hb⟩
  have h1b : t.toList.isEmpty = false := by rw [isEmpty_size]; simpa using h1
  replace HC : Hid (chkRun l c t = if 60 < t.size then 2 else if allS t.data.toList = false then 3 else (nxt l c ((t.size : Int) - 1)).2.2) := by show _ = _; rw [HC.out, if_neg h1]
  by_cases h2 : 60 < t.size
  · have h2' : (t.size : Int) > 60 := by omega
    replace HC : Hid (chkRun l c t = 2) := by show _ = _; rw [HC.out, if_pos h2]
    clear h1 h2
    go_wp2_with fail
    go_ret
    exact ⟨ret_int HC.out.symm, hb⟩
  have h2' : ¬ ((t.size : Int) > 60) := by omega
  replace HC : Hid (chkRun l c t = if allS t.data.toList = false then 3 else (nxt l c ((t.size : Int) - 1)).2.2) := by show _ = _; rw [HC.out, if_neg h2]
  cases h3 : allS t.data.toList
  · replace HC : Hid (chkRun l c t = 3) := by show _ = _; rw [HC.out, if_pos h3]
    have H3 := hidE h3
    clear h1 h2 h3
    go_wp2_with (go_at_call 109; refine (areSigns_any _ _ htm).mono ?_; rintro e w' ⟨rfl, rfl⟩; rw [H3.out])
    go_ret
    exact ⟨ret_int HC.out.symm, hb⟩
  · replace HC : Hid (chkRun l c t = (nxt l c ((t.size : Int) - 1)).2.2) := by show _ = _; rw [HC.out, if_neg (by rw [h3]; decide)]
    have H3 := hidE h3
    clear h1 h2 h3
    go_wp2_with (first | (go_at_call 109; refine (areSigns_any _ _ htm).mono ?_; rintro e w' ⟨rfl, rfl⟩; rw [H3.out]) | (go_at_call 160; refine (nextOf_any _ _ l _ _ _ hl (h.below hb (Nat.le_refl _))).mono ?_; rintro e w3 ⟨na, nc, rfl, hsN, hb3⟩))
    go_ret
    exact ⟨ret_int HC.out.symm, hb.thru hb3 hb.size⟩
end Go.Proofs.YtnhjebdlcbhkcaeGreat
