/- Contracts of the reference's CheckMark, OrderOf, SameMark, IsNone. -/
import Derived.Test.YtnhjebdlcbhkcafNextC
namespace Go.Proofs.Ytnhjebdlcbhkcaf
open Go.RowKit

theorem okSteps_false {l : List (Int × Int)} {k : Nat} (hk : k < l.length) (h : okStep l[k] = false) : okSteps l = false := by
  unfold okSteps; rw [List.all_eq_false]; exact ⟨l[k], List.getElem_mem hk, by rw [h]; simp⟩
theorem okSteps_true {l : List (Int × Int)} (h : ∀ j (hj : j < l.length), okStep l[j] = true) : okSteps l = true := by
  unfold okSteps; rw [List.all_eq_true]; intro x hx; obtain ⟨i, hi, rfl⟩ := List.getElem_of_mem hx; exact h i hi

set_option maxHeartbeats 400000 in
theorem checkMark_any (a : Option Addr) (cap : Nat) (l : List (Int × Int)) (c : Int) (w : World) (hl : l.length ≤ maxLen) (h : StepsAt w a l) :
    Calls Try.prog 30 #[.agg #[.slice a l.length cap, .int .i64 c]] w fun e w' => e = .returned (.int .i64 (chk l c)) ∧ Below w.heap.size w w' := by
  unfold maxLen at hl
  by_cases h10 : 10 < l.length
  · have hd : ((l.length : Int) > 10) := by omega
    go_enter Try.func30, Try.ntmps30
    go_wp2
    go_ret
    exact ⟨ret_int (by simp [chk, h10]), (Below.refl _ _).alloc (Nat.le_refl _) _⟩
  by_cases h0 : l.length = 0
  · go_enter Try.func30, Try.ntmps30
    go_wp2
    go_ret
    exact ⟨ret_int (by simp [chk, h0]), (Below.refl _ _).alloc (Nat.le_refl _) _⟩
  rcases id h with hs | ⟨b, off, rfl, hbl, hc⟩
  · simp [hs] at h0
  have e10 : ¬ ((l.length : Int) > 10) := by omega
  have e0 : ((l.length : Int) == 0) = false := beq_eq_false_iff_ne.2 (by omega)
  have HL : Hid (lastS l = l[l.length - 1]) := lastS_eq (by omega)
  go_enter Try.func30, Try.ntmps30
  go_wp2
  go_loop [4] (fun i => ∃ k : Nat, k ≤ l.length ∧ i = .int .i64 k ∧ (∀ j (hj : j < l.length), j < k → okStep l[j] = true)) (fun i => l.length - (intOf i).toNat)
  case atStart => exact ⟨0, Nat.zero_le _, rfl, fun j _ hj => absurd hj (Nat.not_lt_zero _)⟩
  case round =>
    obtain ⟨k, hk, rfl, hall⟩ := hrel
    by_cases hlt : k < l.length
    · have hc0 := (hc k hlt).1
      have hc1 := (hc k hlt).2
      have HK : Hid (okStep l[k] = (inB l[k].1 0 200 && inB l[k].2 0 4)) := rfl
      clear hc
      generalize l[k].1 = d at hc0 HK
      generalize l[k].2 = s at hc1 HK
      go_wp2_with (go_at_call 17; refine (between_any _ _ _ _).mono ?_; rintro e w' ⟨rfl, rfl⟩)
      · have hno : okStep l[k] = false := by rw [HK.out]; simp_all
        go_ret
        exact ⟨ret_int (by unfold chk; rw [if_neg h10, if_neg h0, okSteps_false hlt hno]; rfl), (Below.refl _ _).alloc (Nat.le_refl _) _⟩
      · have hyes : okStep l[k] = true := by rw [HK.out]; simp_all
        go_round
        case rel =>
          refine ⟨k + 1, by omega, by go_num, fun j hj hjk => ?_⟩
          by_cases e : j = k
          · subst e; exact hyes
          · exact hall j hj (by omega)
        case measure => simp [intOf]; omega
      · have hno : okStep l[k] = false := by rw [HK.out]; simp_all
        go_ret
        exact ⟨ret_int (by unfold chk; rw [if_neg h10, if_neg h0, okSteps_false hlt hno]; rfl), (Below.refl _ _).alloc (Nat.le_refl _) _⟩
    · have hoks : okSteps l = true := okSteps_true fun j hj => hall j hj (by omega)
      have hc0 := (hc (l.length - 1) (by omega)).1
      go_wp2_with (go_at_call 17; refine (between_any _ _ _ _).mono ?_; rintro e w' ⟨rfl, rfl⟩)
      all_goals
        go_ret
        exact ⟨ret_int (by simp_all [chk, HL.out]), (Below.refl _ _).alloc (Nat.le_refl _) _⟩

theorem checkMark_n (a : Option Addr) (cap n : Nat) (l : List (Int × Int)) (c : Int) (w : World) (hn : n = l.length) (hl : l.length ≤ maxLen) (h : StepsAt w a l) :
    Calls Try.prog 30 #[.agg #[.slice a n cap, .int .i64 c]] w fun e w' => e = .returned (.int .i64 (chk l c)) ∧ Below w.heap.size w w' := by
  subst hn; exact checkMark_any a cap l c w hl h

set_option maxHeartbeats 400000 in
theorem isNone_any (a : Option Addr) (cap : Nat) (n : Nat) (c : Int) (w : World) :
    Calls Try.prog 29 #[.agg #[.slice a n cap, .int .i64 c]] w fun e w' => e = .returned (.bool (n == 0 && c == 0)) ∧ Below w.heap.size w w' := by
  go_enter Try.func29, Try.ntmps29
  go_wp2
  all_goals
    go_ret
    refine ⟨ret_bool ?_, (Below.refl _ _).alloc (Nat.le_refl _) _⟩
    simp_all

theorem belowDrewN {B : Nat} {a w : World} (h : Below B a w) (n : Nat) : Below B a (w.drewN n) := ⟨h.os, h.tape, h.output, h.size, h.block⟩

theorem boxes2 (w : World) (v0 v1 u0 u1 : Value) (T T' : TypeId) : ((w.alloc (Obj.cells #[v0, v1] T)).alloc (Obj.cells #[u0, u1] T')).cell? ⟨w.heap.size, 0, none⟩ = some v0 ∧
    ((w.alloc (Obj.cells #[v0, v1] T)).alloc (Obj.cells #[u0, u1] T')).cell? ⟨w.heap.size, 1, none⟩ = some v1 ∧
    ((w.alloc (Obj.cells #[v0, v1] T)).alloc (Obj.cells #[u0, u1] T')).cell? ⟨w.heap.size + 1, 0, none⟩ = some u0 ∧
    ((w.alloc (Obj.cells #[v0, v1] T)).alloc (Obj.cells #[u0, u1] T')).cell? ⟨w.heap.size + 1, 1, none⟩ = some u1 ∧
    ((w.alloc (Obj.cells #[v0, v1] T)).alloc (Obj.cells #[u0, u1] T')).heap.size = w.heap.size + 2 ∧
    Below w.heap.size w ((w.alloc (Obj.cells #[v0, v1] T)).alloc (Obj.cells #[u0, u1] T')) :=
  ⟨by go_simp, by go_simp, by go_simp, by go_simp, by simp, ((Below.refl _ _).alloc (Nat.le_refl _) _).alloc (by simp) _⟩

theorem ordS_zero {s t : Int × Int} (h : ordI s.1 t.1 = 0) : ordS s t = ordI s.2 t.2 := by unfold ordS orI; rw [if_pos h]
theorem ordS_ne {s t : Int × Int} (h : ordI s.1 t.1 ≠ 0) : ordS s t = ordI s.1 t.1 := by unfold ordS orI; rw [if_neg h]

set_option maxHeartbeats 1000000 in
theorem orderOf_any (a a' : Option Addr) (cap cap' : Nat) (l m : List (Int × Int)) (c d : Int) (w : World) (hl : l.length ≤ maxLen) (hm : m.length ≤ maxLen) (h : StepsAt w a l) (h' : StepsAt w a' m) :
    Calls Try.prog 59 #[.agg #[.slice a l.length cap, .int .i64 c], .agg #[.slice a' m.length cap', .int .i64 d]] w fun e w' => e = .returned (.int .i64 (ordM l c m d)) ∧ Below w.heap.size w w' := by
  unfold maxLen at hl
  have _hm := hm
  go_enter Try.func59, Try.ntmps59
  go_wp2
  obtain ⟨q0, q1, q2, q3, hz, hb0⟩ := boxes2 w (.slice a l.length cap) (.int .i64 c) (.slice a' m.length cap') (.int .i64 d) 50 50
  generalize (w.alloc (Obj.cells #[.slice a l.length cap, .int .i64 c] 50)).alloc (Obj.cells #[.slice a' m.length cap', .int .i64 d] 50) = W at q0 q1 q2 q3 hz hb0 ⊢
  replace h := h.below hb0 (Nat.le_refl _)
  replace h' := h'.below hb0 (Nat.le_refl _)
  have z1 : w.heap.size < W.heap.size := by omega
  have z2 : w.heap.size + 1 < W.heap.size := by omega
  have HZ : Hid (W.heap.size = w.heap.size + 2) := hz
  clear hz
  go_loopw [5] (fun i wr => ∃ k : Nat, k ≤ l.length ∧ k ≤ m.length ∧ i = .int .i64 k ∧ ordP (l.drop k) (m.drop k) = ordP l m ∧ Below W.heap.size W wr) (fun i _ => l.length - (intOf i).toNat)
  case atStart => exact ⟨0, Nat.zero_le _, Nat.zero_le _, rfl, rfl, Below.refl _ _⟩
  case round =>
    obtain ⟨k, hk, hk', rfl, hord, hb⟩ := hrel
    have HO : Hid (ordP (l.drop k) (m.drop k) = ordP l m) := hord
    clear hord
    have p0 := (hb.cell (p := ⟨w.heap.size, 0, none⟩) z1).trans q0
    have p1 := (hb.cell (p := ⟨w.heap.size, 1, none⟩) z1).trans q1
    have p2 := (hb.cell (p := ⟨w.heap.size + 1, 0, none⟩) z2).trans q2
    have p3 := (hb.cell (p := ⟨w.heap.size + 1, 1, none⟩) z2).trans q3
    replace h := h.below hb (Nat.le_refl _)
    replace h' := h'.below hb (Nat.le_refl _)
    have hbw : Below w.heap.size w wr := hb0.thru hb (by omega)
    clear q0 q1 q2 q3 hb0
    by_cases hlt : k < l.length
    · rcases id h with hs | ⟨b, off, rfl, hbl, hc⟩
      · simp [hs] at hlt
      have hc0 := (hc k hlt).1
      have hc1 := (hc k hlt).2
      by_cases hlt' : k < m.length
      · rcases id h' with hs' | ⟨b', off', rfl, hbl', hc'⟩
        · simp [hs'] at hlt'
        have hc0' := (hc' k hlt').1
        have hc1' := (hc' k hlt').2
        have HK : Hid (ordP (l.drop k) (m.drop k) = if ordS l[k] m[k] = 0 then ordP (l.drop (k + 1)) (m.drop (k + 1)) else ordS l[k] m[k]) := by
          show _ = _
          rw [List.drop_eq_getElem_cons hlt, List.drop_eq_getElem_cons hlt']; rfl
        have HS : Hid (ordS l[k] m[k] = ordS (l[k].1, l[k].2) (m[k].1, m[k].2)) := rfl
        clear hc hc' h h'
        generalize l[k].1 = x1 at hc0 HS
        generalize l[k].2 = s1 at hc1 HS
        generalize m[k].1 = x2 at hc0' HS
        generalize m[k].2 = s2 at hc1' HS
        have i1 : (k : Int) < (l.length : Int) := by omega
        have i2 : (k : Int) < (m.length : Int) := by omega
        by_cases hx : ordI x1 x2 = 0
        · have HX : Hid (ordI x1 x2 = 0) := hx
          have hx' : (ordI x1 x2 == 0) = true := by rw [hx]; rfl
          clear hx
          go_wp2
          go_quiet ((go_at_call 62; exact Calls.quiet_of_same (numberOrder_any _ _ _)))
          go_wp2
          have hbw2 := belowDrewN hbw nq
          have hb2 := belowDrewN hb nq
          replace p0 : (wr.drewN nq).cell? _ = _ := p0
          replace p1 : (wr.drewN nq).cell? _ = _ := p1
          replace p2 : (wr.drewN nq).cell? _ = _ := p2
          replace p3 : (wr.drewN nq).cell? _ = _ := p3
          replace hc1 : (wr.drewN nq).cell? _ = _ := hc1
          replace hc1' : (wr.drewN nq).cell? _ = _ := hc1'
          generalize wr.drewN nq = wv at p0 p1 p2 p3 hc1 hc1' hbw2 hb2 ⊢
          clear hc0 hc0' hbw hb
          go_quiet ((go_at_call 62; exact Calls.quiet_of_same (numberOrder_any _ _ _)))
          go_wp2
          · have hne : ordS l[k] m[k] ≠ 0 := by rw [HS.out, ordS_zero HX.out]; simp_all
            go_ret
            exact ⟨ret_int (by unfold ordM; rw [← HO.out, HK.out, if_neg hne]; unfold orI; rw [if_neg hne, HS.out, ordS_zero HX.out]), belowDrewN hbw2 _⟩
          · have hne : ordS l[k] m[k] = 0 := by rw [HS.out, ordS_zero HX.out]; simp_all
            go_roundw
            case rel => exact ⟨k + 1, by omega, by omega, by go_num, by rw [← HO.out, HK.out, if_pos hne], belowDrewN hb2 _⟩
            case measure => simp [intOf]; omega
        · have HX : Hid (ordI x1 x2 ≠ 0) := hx
          have hx' : (ordI x1 x2 == 0) = false := beq_eq_false_iff_ne.2 hx
          have hx2 : (ordI x1 x2 != 0) = true := by rw [bne_iff_ne]; exact hx
          clear hx
          go_wp2
          go_quiet ((go_at_call 62; exact Calls.quiet_of_same (numberOrder_any _ _ _)))
          go_wp2
          have hne : ordS l[k] m[k] ≠ 0 := by rw [HS.out, ordS_ne HX.out]; exact HX.out
          go_ret
          exact ⟨ret_int (by unfold ordM; rw [← HO.out, HK.out, if_neg hne]; unfold orI; rw [if_neg hne, HS.out, ordS_ne HX.out]), belowDrewN hbw _⟩
      · have HD : Hid (ordP l m = ordI l.length m.length) := by
          show _ = _
          rw [← HO.out, List.drop_eq_getElem_cons hlt, List.drop_eq_nil_of_le (Nat.le_of_not_lt hlt')]
          unfold ordI; rw [if_neg (by omega), if_pos (by omega)]; rfl
        have i2 : ¬ (k : Int) < (m.length : Int) := by omega
        clear hc h h' hc0 hc1
        go_wp2_with (go_at_call 62; refine (numberOrder_any _ _ _).mono ?_; rintro e w' ⟨rfl, rfl⟩)
        · go_ret
          exact ⟨ret_int (by unfold ordM orI; rw [HD.out, if_pos (by simp_all)]), hbw⟩
        · go_ret
          exact ⟨ret_int (by unfold ordM orI; rw [HD.out, if_neg (by simp_all)]), hbw⟩
    · have HD : Hid (ordP l m = ordI l.length m.length) := by
        show _ = _
        rw [← HO.out, List.drop_eq_nil_of_le (Nat.le_of_not_lt hlt)]
        by_cases hlt' : k < m.length
        · rw [List.drop_eq_getElem_cons hlt']
          unfold ordI; rw [if_pos (by omega)]; rfl
        · rw [List.drop_eq_nil_of_le (Nat.le_of_not_lt hlt')]
          unfold ordI; rw [if_neg (by omega), if_neg (by omega)]; rfl
      clear h h'
      go_wp2_with (go_at_call 62; refine (numberOrder_any _ _ _).mono ?_; rintro e w' ⟨rfl, rfl⟩)
      · go_ret
        exact ⟨ret_int (by unfold ordM orI; rw [HD.out, if_pos (by simp_all)]), hbw⟩
      · go_ret
        exact ⟨ret_int (by unfold ordM orI; rw [HD.out, if_neg (by simp_all)]), hbw⟩

theorem orderOf_n (a a' : Option Addr) (cap cap' n n' : Nat) (l m : List (Int × Int)) (c d : Int) (w : World) (hn : n = l.length) (hn' : n' = m.length) (hl : l.length ≤ maxLen) (hm : m.length ≤ maxLen) (h : StepsAt w a l) (h' : StepsAt w a' m) :
    Calls Try.prog 59 #[.agg #[.slice a n cap, .int .i64 c], .agg #[.slice a' n' cap', .int .i64 d]] w fun e w' => e = .returned (.int .i64 (ordM l c m d)) ∧ Below w.heap.size w w' := by
  subst hn hn'; exact orderOf_any a a' cap cap' l m c d w hl hm h h'

set_option maxHeartbeats 1000000 in
theorem sameMark_n (a a' : Option Addr) (cap cap' n n' : Nat) (l m : List (Int × Int)) (c d : Int) (w : World) (hn : n = l.length) (hn' : n' = m.length) (hl : l.length ≤ maxLen) (hm : m.length ≤ maxLen) (h : StepsAt w a l) (h' : StepsAt w a' m) :
    Calls Try.prog 51 #[.agg #[.slice a n cap, .int .i64 c], .agg #[.slice a' n' cap', .int .i64 d]] w fun e w' => e = .returned (.bool (ordM l c m d == 0)) ∧ Below w.heap.size w w' := by
  subst hn hn'
  obtain ⟨_, _, _, _, _, hb0⟩ := boxes2 w (.slice a l.length cap) (.int .i64 c) (.slice a' m.length cap') (.int .i64 d) 50 50
  go_enter Try.func51, Try.ntmps51
  go_wp2_with (go_at_call 59; refine (orderOf_any _ _ _ _ l m _ _ _ hl hm (by exact h.below hb0 (Nat.le_refl _)) (by exact h'.below hb0 (Nat.le_refl _))).mono ?_; rintro e w' ⟨rfl, hb⟩)
  go_ret
  exact ⟨rfl, hb0.thru hb hb0.size⟩

end Go.Proofs.Ytnhjebdlcbhkcaf
