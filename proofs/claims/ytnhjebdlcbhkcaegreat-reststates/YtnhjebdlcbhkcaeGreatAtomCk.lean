/- Contracts of the reference's CheckMark, OrderOf, SameMark, IsNone. -/
import Derived.Test.YtnhjebdlcbhkcaeGreatNextC
import Derived.Lib.QuietBelow
namespace Go.Proofs.YtnhjebdlcbhkcaeGreat
open Go.RowKit

theorem okSteps_false {l : List (Int × Int)} {k : Nat} (hk : k < l.length) (h : okStep l[k] = false) : okSteps l = false := by
  unfold okSteps; rw [List.all_eq_false]; exact ⟨l[k], List.getElem_mem hk, by rw [h]; simp⟩
theorem okSteps_true {l : List (Int × Int)} (h : ∀ j (hj : j < l.length), okStep l[j] = true) : okSteps l = true := by
  unfold okSteps; rw [List.all_eq_true]; intro x hx; obtain ⟨i, hi, rfl⟩ := List.getElem_of_mem hx; exact h i hi

set_option maxHeartbeats 400000 in
theorem checkMark_any (a : Option Addr) (cap : Nat) (l : List (Int × Int)) (c : Int) (w : World) (hl : l.length ≤ maxLen) (h : StepsAt w a l) :
    Calls Tryz.prog 156 #[.agg #[.slice a l.length cap, .int .i64 c]] w fun e w' => e = .returned (.int .i64 (chk l c)) ∧ Below w.heap.size w w' := by
  unfold maxLen at hl
  by_cases h10 : 10 < l.length
  · have hd : ((l.length : Int) > 10) := by omega
    go_enter Tryz.func156, Tryz.ntmps156
    go_wp2
    go_ret
    exact ⟨ret_int (by simp [chk, h10]), (Below.refl _ _).alloc (Nat.le_refl _) _⟩
  by_cases h0 : l.length = 0
  · go_enter Tryz.func156, Tryz.ntmps156
    go_wp2
    go_ret
    exact ⟨ret_int (by simp [chk, h0]), (Below.refl _ _).alloc (Nat.le_refl _) _⟩
  rcases id h with hs | ⟨b, off, rfl, hbl, hc⟩
  · simp [hs] at h0
  have e10 : ¬ ((l.length : Int) > 10) := by omega
  have e0 : ((l.length : Int) == 0) = false := beq_eq_false_iff_ne.2 (by omega)
  have HL : Hid (lastS l = l[l.length - 1]) := lastS_eq (by omega)
  go_enter Tryz.func156, Tryz.ntmps156
  go_wp2
  go_loop [4] (fun i => ∃ k : Nat, k ≤ l.length ∧ i = .int .i64 k ∧ (∀ j (hj : j < l.length), j < k → okStep l[j] = true)) (fun i => l.length - (intOf i).toNat)
  case atStart => exact ⟨0, Nat.zero_le _, rfl, fun j _ hj => absurd hj (Nat.not_lt_zero _)⟩
  case round =>
    obtain ⟨k, hk, rfl, hall⟩ := hrel
    by_cases hlt : k < l.length
    · have hc0 := (hc k hlt).1
      have hc1 := (hc k hlt).2
      have HK : Hid (okStep l[k] = (inB l[k].1 0 200 && inB l[k].2 0 4)) := rfl
      clear hc
      generalize l[k].1 = d at hc0 HK
      generalize l[k].2 = s at hc1 HK
      go_wp2_with (go_at_call 101; refine (between_any _ _ _ _).mono ?_; rintro e w' ⟨rfl, rfl⟩)
      · have hno : okStep l[k] = false := by rw [HK.out]; simp_all
        go_ret
        exact ⟨ret_int (by unfold chk; rw [if_neg h10, if_neg h0, okSteps_false hlt hno]; rfl), (Below.refl _ _).alloc (Nat.le_refl _) _⟩
      · have hyes : okStep l[k] = true := by rw [HK.out]; simp_all
        go_round
        case rel =>
          refine ⟨k + 1, by omega, by go_num, fun j hj hjk => ?_⟩
          by_cases e : j = k
          · subst e; exact hyes
          · exact hall j hj (by omega)
        case measure => simp [intOf]; omega
      · have hno : okStep l[k] = false := by rw [HK.out]; simp_all
        go_ret
        exact ⟨ret_int (by unfold chk; rw [if_neg h10, if_neg h0, okSteps_false hlt hno]; rfl), (Below.refl _ _).alloc (Nat.le_refl _) _⟩
    · have hoks : okSteps l = true := okSteps_true fun j hj => hall j hj (by omega)
      have hc0 := (hc (l.length - 1) (by omega)).1
      go_wp2_with (go_at_call 101; refine (between_any _ _ _ _).mono ?_; rintro e w' ⟨rfl, rfl⟩)
      all_goals
        go_ret
        exact ⟨ret_int (by simp_all [chk, HL.out]), (Below.refl _ _).alloc (Nat.le_refl _) _⟩

theorem checkMark_n (a : Option Addr) (cap n : Nat) (l : List (Int × Int)) (c : Int) (w : World) (hn : n = l.length) (hl : l.length ≤ maxLen) (h : StepsAt w a l) :
    Calls Tryz.prog 156 #[.agg #[.slice a n cap, .int .i64 c]] w fun e w' => e = .returned (.int .i64 (chk l c)) ∧ Below w.heap.size w w' := by
  subst hn; exact checkMark_any a cap l c w hl h

set_option maxHeartbeats 400000 in
theorem isNone_any (a : Option Addr) (cap : Nat) (n : Nat) (c : Int) (w : World) :
    Calls Tryz.prog 157 #[.agg #[.slice a n cap, .int .i64 c]] w fun e w' => e = .returned (.bool (n == 0 && c == 0)) ∧ Below w.heap.size w w' := by
  go_enter Tryz.func157, Tryz.ntmps157
  go_wp2
  all_goals
    go_ret
    refine ⟨ret_bool ?_, (Below.refl _ _).alloc (Nat.le_refl _) _⟩
    simp_all

theorem belowDrewN {B : Nat} {a w : World} (h : Below B a w) (n : Nat) : Below B a (w.drewN n) := ⟨h.os, h.tape, h.output, h.size, h.block⟩

theorem boxes2 (w : World) (v0 v1 u0 u1 : Value) (T T' : TypeId) : ((w.alloc (Obj.cells #[v0, v1] T)).alloc (Obj.cells #[u0, u1] T')).cell? ⟨w.heap.size, 0, none⟩ = some v0 ∧
    ((w.alloc (Obj.cells #[v0, v1] T)).alloc (Obj.cells #[u0, u1] T')).cell? ⟨w.heap.size, 1, none⟩ = some v1 ∧
    ((w.alloc (Obj.cells #[v0, v1] T)).alloc (Obj.cells #[u0, u1] T')).cell? ⟨w.heap.size + 1, 0, none⟩ = some u0 ∧
    ((w.alloc (Obj.cells #[v0, v1] T)).alloc (Obj.cells #[u0, u1] T')).cell? ⟨w.heap.size + 1, 1, none⟩ = some u1 ∧
    ((w.alloc (Obj.cells #[v0, v1] T)).alloc (Obj.cells #[u0, u1] T')).heap.size = w.heap.size + 2 ∧
    Below w.heap.size w ((w.alloc (Obj.cells #[v0, v1] T)).alloc (Obj.cells #[u0, u1] T')) :=
  ⟨by go_simp, by go_simp, by go_simp, by go_simp, by simp, ((Below.refl _ _).alloc (Nat.le_refl _) _).alloc (by simp) _⟩

theorem ordS_zero {s t : Int × Int} (h : ordI s.1 t.1 = 0) : ordS s t = ordI s.2 t.2 := by unfold ordS orI; rw [if_pos h]
theorem ordS_ne {s t : Int × Int} (h : ordI s.1 t.1 ≠ 0) : ordS s t = ordI s.1 t.1 := by unfold ordS orI; rw [if_neg h]

set_option maxHeartbeats 1000000 in
theorem orderOf_any (a a' : Option Addr) (cap cap' : Nat) (l m : List (Int × Int)) (c d : Int) (w : World) (hl : l.length ≤ maxLen) (hm : m.length ≤ maxLen) (h : StepsAt w a l) (h' : StepsAt w a' m) :
    Calls Tryz.prog 141 #[.agg #[.slice a l.length cap, .int .i64 c], .agg #[.slice a' m.length cap', .int .i64 d]] w fun e w' => e = .returned (.int .i64 (ordM l c m d)) ∧ Below w.heap.size w w' := by
  unfold maxLen at hl
  have _hm := hm
  go_enter Tryz.func141, Tryz.ntmps141
  go_wp2
  obtain ⟨q0, q1, q2, q3, hz, hb0⟩ := boxes2 w (.slice a l.length cap) (.int .i64 c) (.slice a' m.length cap') (.int .i64 d) 42 42
  generalize (w.alloc (Obj.cells #[.slice a l.length cap, .int .i64 c] 42)).alloc (Obj.cells #[.slice a' m.length cap', .int .i64 d] 42) = W at q0 q1 q2 q3 hz hb0 ⊢
  replace h := h.below hb0 (Nat.le_refl _)
  replace h' := h'.below hb0 (Nat.le_refl _)
  have z1 : w.heap.size < W.heap.size := by omega
  have z2 : w.heap.size + 1 < W.heap.size := by omega
  have HZ : Hid (W.heap.size = w.heap.size + 2) := hz
  clear hz
  go_loopw [5] (fun i wr => ∃ k : Nat, k ≤ l.length ∧ k ≤ m.length ∧ i = .int .i64 k ∧ ordP (l.drop k) (m.drop k) = ordP l m ∧ Below W.heap.size W wr) (fun i _ => l.length - (intOf i).toNat)
  case atStart => exact ⟨0, Nat.zero_le _, Nat.zero_le _, rfl, rfl, Below.refl _ _⟩
  case round =>
    obtain ⟨k, hk, hk', rfl, hord, hb⟩ := hrel
    have HO : Hid (ordP (l.drop k) (m.drop k) = ordP l m) := hord
    clear hord
    have p0 := (hb.cell (p := ⟨w.heap.size, 0, none⟩) z1).trans q0
    have p1 := (hb.cell (p := ⟨w.heap.size, 1, none⟩) z1).trans q1
    have p2 := (hb.cell (p := ⟨w.heap.size + 1, 0, none⟩) z2).trans q2
    have p3 := (hb.cell (p := ⟨w.heap.size + 1, 1, none⟩) z2).trans q3
    replace h := h.below hb (Nat.le_refl _)
    replace h' := h'.below hb (Nat.le_refl _)
    have hbw : Below w.heap.size w wr := hb0.thru hb (by omega)
    clear q0 q1 q2 q3 hb0
    by_cases hlt : k < l.length
    · rcases id h with hs | ⟨b, off, rfl, hbl, hc⟩
      · simp [hs] at hlt
      have hc0 := (hc k hlt).1
      have hc1 := (hc k hlt).2
      by_cases hlt' : k < m.length
      · rcases id h' with hs' | ⟨b', off', rfl, hbl', hc'⟩
        · simp [hs'] at hlt'
        have hc0' := (hc' k hlt').1
        have hc1' := (hc' k hlt').2
        have HK : Hid (ordP (l.drop k) (m.drop k) = if ordS l[k] m[k] = 0 then ordP (l.drop (k + 1)) (m.drop (k + 1)) else ordS l[k] m[k]) := by
          show _ = _
          rw [List.drop_eq_getElem_cons hlt, List.drop_eq_getElem_cons hlt']; rfl
        have HS : Hid (ordS l[k] m[k] = ordS (l[k].1, l[k].2) (m[k].1, m[k].2)) := rfl
        clear hc hc' h h'
        generalize l[k].1 = x1 at hc0 HS
        generalize l[k].2 = s1 at hc1 HS
        generalize m[k].1 = x2 at hc0' HS
        generalize m[k].2 = s2 at hc1' HS
        have i1 : (k : Int) < (l.length : Int) := by omega
        have i2 : (k : Int) < (m.length : Int) := by omega
        by_cases hx : ordI x1 x2 = 0
        · have HX : Hid (ordI x1 x2 = 0) := hx
          have hx' : (ordI x1 x2 == 0) = true := by rw [hx]; rfl
          clear hx
          go_wp2
          go_quiet ((go_at_call 177; exact Calls.quiet_of_same (numberOrder_any _ _ _)))
          go_wp2
          have hbw2 := belowDrewN hbw nq
          have hb2 := belowDrewN hb nq
          replace p0 : (wr.drewN nq).cell? _ = _ := p0
          replace p1 : (wr.drewN nq).cell? _ = _ := p1
          replace p2 : (wr.drewN nq).cell? _ = _ := p2
          replace p3 : (wr.drewN nq).cell? _ = _ := p3
          replace hc1 : (wr.drewN nq).cell? _ = _ := hc1
          replace hc1' : (wr.drewN nq).cell? _ = _ := hc1'
          generalize wr.drewN nq = wv at p0 p1 p2 p3 hc1 hc1' hbw2 hb2 ⊢
          clear hc0 hc0' hbw hb
          go_quiet ((go_at_call 177; exact Calls.quiet_of_same (numberOrder_any _ _ _)))
          go_wp2
          · have hne : ordS l[k] m[k] ≠ 0 := by rw [HS.out, ordS_zero HX.out]; simp_all
            go_ret
            exact ⟨ret_int (by unfold ordM; rw [← HO.out, HK.out, if_neg hne]; unfold orI; rw [if_neg hne, HS.out, ordS_zero HX.out]), belowDrewN hbw2 _⟩
          · have hne : ordS l[k] m[k] = 0 := by rw [HS.out, ordS_zero HX.out]; simp_all
            go_roundw
            case rel => exact ⟨k + 1, by omega, by omega, by go_num, by rw [← HO.out, HK.out, if_pos hne], belowDrewN hb2 _⟩
            case measure => simp [intOf]; omega
        · have HX : Hid (ordI x1 x2 ≠ 0) := hx
          have hx' : (ordI x1 x2 == 0) = false := beq_eq_false_iff_ne.2 hx
          have hx2 : (ordI x1 x2 != 0) = true := by rw [bne_iff_ne]; exact hx
          clear hx
          go_wp2
          go_quiet ((go_at_call 177; exact Calls.quiet_of_same (numberOrder_any _ _ _)))
          go_wp2
          have hne : ordS l[k] m[k] ≠ 0 := by rw [HS.out, ordS_ne HX.out]; exact HX.out
          go_ret
          exact ⟨ret_int (by unfold ordM; rw [← HO.out, HK.out, if_neg hne]; unfold orI; rw [if_neg hne, HS.out, ordS_ne HX.out]), belowDrewN hbw _⟩
      · have HD : Hid (ordP l m = ordI l.length m.length) := by
          show _ = _
          rw [← HO.out, List.drop_eq_getElem_cons hlt, List.drop_eq_nil_of_le (Nat.le_of_not_lt hlt')]
          unfold ordI; rw [if_neg (by omega), if_pos (by omega)]; rfl
        have i2 : ¬ (k : Int) < (m.length : Int) := by omega
        clear hc h h' hc0 hc1
        go_wp2_with (go_at_call 177; refine (numberOrder_any _ _ _).mono ?_; rintro e w' ⟨rfl, rfl⟩)
        · go_ret
          exact ⟨ret_int (by unfold ordM orI; rw [HD.out, if_pos (by simp_all)]), hbw⟩
        · go_ret
          exact ⟨ret_int (by unfold ordM orI; rw [HD.out, if_neg (by simp_all)]), hbw⟩
    · have HD : Hid (ordP l m = ordI l.length m.length) := by
        show _ = _
        rw [← HO.out, List.drop_eq_nil_of_le (Nat.le_of_not_lt hlt)]
        by_cases hlt' : k < m.length
        · rw [List.drop_eq_getElem_cons hlt']
          unfold ordI; rw [if_pos (by omega)]; rfl
        · rw [List.drop_eq_nil_of_le (Nat.le_of_not_lt hlt')]
          unfold ordI; rw [if_neg (by omega), if_neg (by omega)]; rfl
      clear h h'
      go_wp2_with (go_at_call 177; refine (numberOrder_any _ _ _).mono ?_; rintro e w' ⟨rfl, rfl⟩)
      · go_ret
        exact ⟨ret_int (by unfold ordM orI; rw [HD.out, if_pos (by simp_all)]), hbw⟩
      · go_ret
        exact ⟨ret_int (by unfold ordM orI; rw [HD.out, if_neg (by simp_all)]), hbw⟩

set_option maxHeartbeats 1000000 in
theorem sameMark_n (a a' : Option Addr) (cap cap' n n' : Nat) (l m : List (Int × Int)) (c d : Int) (w : World) (hn : n = l.length) (hn' : n' = m.length) (hl : l.length ≤ maxLen) (hm : m.length ≤ maxLen) (h : StepsAt w a l) (h' : StepsAt w a' m) :
    Calls Tryz.prog 58 #[.agg #[.slice a n cap, .int .i64 c], .agg #[.slice a' n' cap', .int .i64 d]] w fun e w' => e = .returned (.bool (ordM l c m d == 0)) ∧ Below w.heap.size w w' := by
  subst hn hn'
  obtain ⟨_, _, _, _, _, hb0⟩ := boxes2 w (.slice a l.length cap) (.int .i64 c) (.slice a' m.length cap') (.int .i64 d) 42 42
  go_enter Tryz.func58, Tryz.ntmps58
  go_wp2_with (go_at_call 141; refine (orderOf_any _ _ _ _ l m _ _ _ hl hm (by exact h.below hb0 (Nat.le_refl _)) (by exact h'.below hb0 (Nat.le_refl _))).mono ?_; rintro e w' ⟨rfl, hb⟩)
  go_ret
  exact ⟨rfl, hb0.thru hb hb0.size⟩

end Go.Proofs.YtnhjebdlcbhkcaeGreat

namespace Go.Proofs.YtnhjebdlcbhkcaeGreat
open Go.RowKit

theorem hidE {p : Prop} (h : p) : Hid p := h

def MarksAt (w : World) (a : Option Addr) (ms : List (List (Int × Int) × Int)) : Prop :=
  ms = [] ∨ ∃ b off, a = some ⟨b, off, none⟩ ∧ b < w.heap.size ∧ ∀ i (h : i < ms.length), ∃ p cap, w.cell? ⟨b, off + i * 2, none⟩ = some (.slice p ms[i].1.length cap) ∧ w.cell? ⟨b, off + i * 2 + 1, none⟩ = some (.int .i64 ms[i].2) ∧ StepsAt w p ms[i].1 ∧ ms[i].1.length ≤ maxLen

theorem MarksAt.below {w w' : World} {a : Option Addr} {l : List (List (Int × Int) × Int)} {B : Nat} (h : MarksAt w a l) (hb : Below B w w') (hB : w.heap.size ≤ B) : MarksAt w' a l := by
  rcases h with h | ⟨b, off, rfl, hlt, hc⟩
  · exact Or.inl h
  · refine Or.inr ⟨b, off, rfl, Nat.lt_of_lt_of_le hlt hb.size, fun i hi => ?_⟩
    obtain ⟨p, cap, h1, h2, h3, h4⟩ := hc i hi
    exact ⟨p, cap, (hb.cell (p := ⟨b, off + i * 2, none⟩) (by show b < B; omega)).trans h1, (hb.cell (p := ⟨b, off + i * 2 + 1, none⟩) (by show b < B; omega)).trans h2, h3.below hb hB, h4⟩

theorem cellSome_set {w : World} {a p : Addr} {u v : Value} (h : w.cell? p = some v) : ∃ v', (w.setCell a u).cell? p = some v' := by
  by_cases e : a = p
  · subst e; exact ⟨u, World.cell?_setCell_same _ _ _ h⟩
  · exact ⟨v, (World.cell?_setCell_other _ _ _ _ e).trans h⟩

theorem stepsAt_new (w : World) (l : List (Int × Int)) : StepsAt (w.alloc (.cells (flatS l).toArray 124)) (some ⟨w.heap.size, 0, none⟩) l := by
  refine Or.inr ⟨w.heap.size, 0, rfl, by simp, fun i hi => ?_⟩
  have := flatS_get l i hi
  rw [World.cell?_alloc_new, World.cell?_alloc_new, Nat.zero_add]
  simpa using this

def Holds (w : World) (l : List (Nat × Nat × Value)) : Prop := ∀ x ∈ l, x.1 < w.heap.size ∧ w.cell? ⟨x.1, x.2.1, none⟩ = some x.2.2
theorem Holds.below {w w' : World} {l : List (Nat × Nat × Value)} {B : Nat} (h : Holds w l) (hb : Below B w w') (hB : w.heap.size ≤ B) : Holds w' l := fun x hx =>
  ⟨Nat.lt_of_lt_of_le (h x hx).1 hb.size, (hb.cell (p := ⟨x.1, x.2.1, none⟩) (Nat.lt_of_lt_of_le (h x hx).1 hB)).trans (h x hx).2⟩
theorem holds_cons {w : World} {b o : Nat} {v : Value} {l : List (Nat × Nat × Value)} : Holds w ((b, o, v) :: l) ↔ (b < w.heap.size ∧ w.cell? ⟨b, o, none⟩ = some v) ∧ Holds w l := by
  unfold Holds; simp
theorem holds_nil {w : World} : Holds w [] ↔ True := by unfold Holds; simp
theorem holds_at {w : World} {b o : Nat} {v : Value} (h : w.cell? ⟨b, o, none⟩ = some v) : b < w.heap.size ∧ w.cell? ⟨b, o, none⟩ = some v := ⟨block_lt_of_cell h, h⟩

end Go.Proofs.YtnhjebdlcbhkcaeGreat

namespace Go.Proofs.YtnhjebdlcbhkcaeGreat
open Go.RowKit

set_option maxHeartbeats 1000000 in
theorem at_any (d s c : Int) (w : World) :
    Calls Tryz.prog 23 #[.int .i64 d, .int .i64 s, .int .i64 c] w fun e w' => e = .returned (.agg #[.slice (some ⟨w.heap.size + 1, 0, none⟩) 1 1, .int .i64 c]) ∧ StepsAt w' (some ⟨w.heap.size + 1, 0, none⟩) [(d, s)] ∧ Below w.heap.size w w' := by
  go_enter Tryz.func23, Tryz.ntmps23
  go_wp2
  refine bodyPost_ret (v := .agg #[.slice (some ⟨w.heap.size + 1, 0, none⟩) 1 1, .int .i64 c]) (by simp [results, Tryz.results23, go_sem]) rfl ⟨rfl, ?_, ?_⟩
  · have := stepsAt_new (w.alloc (Obj.cells #[.slice (some ⟨w.heap.size + 1, 0, none⟩) 1 1, .int .i64 c] 42)) [(d, s)]
    simpa [flatS] using this
  · exact ((Below.refl _ _).alloc (Nat.le_refl _) _).alloc (by simp) _

theorem next_n (a : Option Addr) (cap k : Nat) (l : List (Int × Int)) (c n : Int) (w : World) (hk : k = l.length) (hl : l.length ≤ maxLen) (h : StepsAt w a l) :
    Calls Tryz.prog 34 #[.agg #[.slice a k cap, .int .i64 c], .int .i64 n] w (NextGives w l c n) := by
  subst hk; exact next_any a cap l c n w hl h
theorem order_n (a a' : Option Addr) (cap cap' n n' : Nat) (l m : List (Int × Int)) (c d : Int) (w : World) (hn : n = l.length) (hn' : n' = m.length) (hl : l.length ≤ maxLen) (hm : m.length ≤ maxLen) (h : StepsAt w a l) (h' : StepsAt w a' m) :
    Calls Tryz.prog 61 #[.agg #[.slice a n cap, .int .i64 c], .agg #[.slice a' n' cap', .int .i64 d]] w fun e w' => e = .returned (.int .i64 (ordM l c m d)) ∧ Below w.heap.size w w' := by
  subst hn hn'; exact order_any a a' cap cap' l m c d w hl hm h h'
end Go.Proofs.YtnhjebdlcbhkcaeGreat

namespace Go.Proofs.YtnhjebdlcbhkcaeGreat
open Go.RowKit

structure At where
  path : List (Int × Int)
  clock : Int
  sign : Int

def AtomsAt (w : World) (a : Option Addr) (l : List At) : Prop :=
  l = [] ∨ ∃ b off, a = some ⟨b, off, none⟩ ∧ b < w.heap.size ∧ ∀ i (h : i < l.length), ∃ p cap, w.cell? ⟨b, off + i * 3, none⟩ = some (.slice p l[i].path.length cap) ∧ w.cell? ⟨b, off + i * 3 + 1, none⟩ = some (.int .i64 l[i].clock) ∧ w.cell? ⟨b, off + i * 3 + 2, none⟩ = some (.int .u8 l[i].sign) ∧ StepsAt w p l[i].path ∧ l[i].path.length ≤ maxLen ∧ l[i].path.length ≤ cap ∧ 0 ≤ l[i].sign ∧ l[i].sign ≤ 255

theorem AtomsAt.below {w w' : World} {a : Option Addr} {l : List At} {B : Nat} (h : AtomsAt w a l) (hb : Below B w w') (hB : w.heap.size ≤ B) : AtomsAt w' a l := by
  rcases h with h | ⟨b, off, rfl, hlt, hc⟩
  · exact Or.inl h
  · refine Or.inr ⟨b, off, rfl, Nat.lt_of_lt_of_le hlt hb.size, fun i hi => ?_⟩
    obtain ⟨p, cap, h1, h2, h3, h4, h5⟩ := hc i hi
    exact ⟨p, cap, (hb.cell (p := ⟨b, off + i * 3, none⟩) (by show b < B; omega)).trans h1, (hb.cell (p := ⟨b, off + i * 3 + 1, none⟩) (by show b < B; omega)).trans h2, (hb.cell (p := ⟨b, off + i * 3 + 2, none⟩) (by show b < B; omega)).trans h3, h4.below hb hB, h5⟩

def ordA (x y : At) : Int := ordM x.path x.clock y.path y.clock
def isSignB (s : Int) : Bool := inB s 32 126

set_option maxHeartbeats 400000 in
theorem signIs_any (s : Int) (w : World) (_h0 : 0 ≤ s) (_h1 : s ≤ 255) :
    Calls Tryz.prog 135 #[.int .u8 s] w fun e w' => e = .returned (.bool (isSignB s)) ∧ w' = w := by
  by_cases h1 : 32 ≤ s <;> by_cases h2 : s ≤ 126
  all_goals
    go_enter Tryz.func135, Tryz.ntmps135
    go_wp2
    go_ret
    exact ⟨by simp [isSignB, inB, h1, h2], rfl⟩


def chkAt (prev : Option At) (x : At) : Int :=
  if chk x.path x.clock ≠ 0 then chk x.path x.clock else if isSignB x.sign = false then 3 else match prev with
    | none => 0
    | some y => if 0 ≤ ordA y x then 4 else 0
def chkFrom (prev : Option At) : List At → Int
  | [] => 0
  | x :: l => if chkAt prev x ≠ 0 then chkAt prev x else chkFrom (some x) l
def chkL (l : List At) : Int := if 300 < l.length then 2 else chkFrom none l

theorem chkFrom_cons (prev : Option At) (x : At) (l : List At) : chkFrom prev (x :: l) = if chkAt prev x ≠ 0 then chkAt prev x else chkFrom (some x) l := rfl

def prevOf (l : List At) (k : Nat) : Option At := if k = 0 then none else l[k - 1]?

set_option maxRecDepth 100000 in
set_option maxHeartbeats 2000000 in
theorem atomCheck_any (a : Option Addr) (cap : Nat) (l : List At) (w : World) (hl : l.length ≤ maxLen) (h : AtomsAt w a l) :
    Calls Tryz.prog 53 #[.slice a l.length cap] w fun e w' => e = .returned (.int .i64 (chkL l)) ∧ Below w.heap.size w w' := by
  unfold maxLen at hl
  by_cases h300 : 300 < l.length
  · have hd : ((l.length : Int) > 300) := by omega
    go_enter Tryz.func53, Tryz.ntmps53
    go_wp2
    go_ret
    exact ⟨ret_int (by unfold chkL; rw [if_pos h300]), Below.refl _ _⟩
  have hd : ¬ ((l.length : Int) > 300) := by omega
  have HC : Hid (chkL l = chkFrom none l) := by show _ = _; unfold chkL; rw [if_neg h300]
  go_enter Tryz.func53, Tryz.ntmps53
  go_wp2
  go_loopw [11] (fun i wr => ∃ k : Nat, k ≤ l.length ∧ i = .int .i64 k ∧ chkFrom (prevOf l k) (l.drop k) = chkFrom none l ∧ Below w.heap.size w wr) (fun i _ => l.length - (intOf i).toNat)
  case atStart => exact ⟨0, Nat.zero_le _, rfl, rfl, Below.refl _ _⟩
  case round =>
    obtain ⟨k, hk, rfl, hck, hb⟩ := hrel
    have HK := hidE hck
    clear hck
    by_cases hlt : k < l.length
    · rcases h.below hb (Nat.le_refl _) with hs | ⟨ab, ao, rfl, hab, hc⟩
      · simp [hs] at hlt
      have hcons : Hid (chkFrom (prevOf l k) (l.drop k) = if chkAt (prevOf l k) l[k] ≠ 0 then chkAt (prevOf l k) l[k] else chkFrom (some l[k]) (l.drop (k + 1))) := by
        show _ = _
        rw [List.drop_eq_getElem_cons hlt, chkFrom_cons]
      have hnext : Hid (prevOf l (k + 1) = some l[k]) := by
        show _ = _
        unfold prevOf; rw [if_neg (by omega), Nat.add_sub_cancel, List.getElem?_eq_getElem hlt]
      obtain ⟨p, cp, c0, c1, c2, hst, hle, _, s0, s1⟩ := hc k hlt
      have HP : Hid (chkAt (prevOf l k) l[k] = chkAt (prevOf l k) ⟨l[k].path, l[k].clock, l[k].sign⟩) := rfl
      have hi1 : (k : Int) < l.length := by omega
      have HAll := hidE hc
      generalize l[k].path = pk at *
      generalize l[k].clock = ck at *
      generalize l[k].sign = sk at *
      clear hc h
      go_wp2_with fail
      have hbA : Below wr.heap.size wr (wr.alloc (Obj.cells #[.slice p pk.length cp, .int .i64 ck, .int .u8 sk] 108)) := (Below.refl _ _).alloc (Nat.le_refl _) _
      have q0 : (wr.alloc (Obj.cells #[.slice p pk.length cp, .int .i64 ck, .int .u8 sk] 108)).cell? ⟨wr.heap.size, 0, none⟩ = some (.slice p pk.length cp) := by simp
      have q1 : (wr.alloc (Obj.cells #[.slice p pk.length cp, .int .i64 ck, .int .u8 sk] 108)).cell? ⟨wr.heap.size, 1, none⟩ = some (.int .i64 ck) := by simp
      have q2 : (wr.alloc (Obj.cells #[.slice p pk.length cp, .int .i64 ck, .int .u8 sk] 108)).cell? ⟨wr.heap.size, 2, none⟩ = some (.int .u8 sk) := by simp
      have z1 : wr.heap.size < (wr.alloc (Obj.cells #[.slice p pk.length cp, .int .i64 ck, .int .u8 sk] 108)).heap.size := by simp
      generalize wr.alloc (Obj.cells #[.slice p pk.length cp, .int .i64 ck, .int .u8 sk] 108) = w1 at hbA q0 q1 q2 z1 ⊢
      refine (check_any _ _ pk _ _ hle (hst.below hbA (Nat.le_refl _))).mono ?_
      rintro e w2 ⟨rfl, hb2⟩
      have p0 := (hb2.cell (p := ⟨wr.heap.size, 0, none⟩) z1).trans q0
      have p1 := (hb2.cell (p := ⟨wr.heap.size, 1, none⟩) z1).trans q1
      have p2 := (hb2.cell (p := ⟨wr.heap.size, 2, none⟩) z1).trans q2
      have hbW : Below wr.heap.size wr w2 := hbA.thru hb2 hbA.size
      have hb2w := hb.thru hbW hb.size
      clear q0 q1 q2 hbA hb2 hb c0 c1 c2
      have HR : Hid (chkL l = if chkAt (prevOf l k) ⟨pk, ck, sk⟩ ≠ 0 then chkAt (prevOf l k) ⟨pk, ck, sk⟩ else chkFrom (some l[k]) (l.drop (k + 1))) := by
        show _ = _
        rw [HC.out, ← HK.out, hcons.out, HP.out]
      clear HC HP hcons
      by_cases hc0 : chk pk ck = 0
      · rw [hc0]
        have HA : Hid (chkAt (prevOf l k) ⟨pk, ck, sk⟩ = if isSignB sk = false then 3 else match prevOf l k with
            | none => 0
            | some y => if 0 ≤ ordA y ⟨pk, ck, sk⟩ then 4 else 0) := by
          show _ = _
          unfold chkAt
          rw [if_neg (by simpa using hc0)]
        clear hc0
        cases hsg : isSignB sk
        · have HA2 : Hid (chkL l = 3) := by
            show _ = _
            rw [HR.out, HA.out, if_pos hsg, if_pos (by decide)]
          have HSG := hidE hsg
          clear hsg
          go_wp2_with (go_at_call 135; refine (signIs_any _ _ s0 s1).mono ?_; rintro e w' ⟨rfl, rfl⟩; rw [HSG.out])
          go_ret
          exact ⟨ret_int HA2.out.symm, hb2w⟩
        have HSG := hidE hsg
        have HA2 : Hid (chkAt (prevOf l k) ⟨pk, ck, sk⟩ = match prevOf l k with
            | none => 0
            | some y => if 0 ≤ ordA y ⟨pk, ck, sk⟩ then 4 else 0) := by
          show _ = _
          rw [HA.out, if_neg (by rw [hsg]; decide)]
        clear HA hsg
        rcases Nat.eq_zero_or_pos k with rfl | hk0
        · have HA3 : Hid (chkFrom (some l[0]) (l.drop 1) = chkL l) := by
            show _ = _
            rw [HR.out, HA2.out]
            rfl
          have hg : decide ((0 : Int) > 0) = false := by decide
          go_wp2_with (go_at_call 135; refine (signIs_any _ _ s0 s1).mono ?_; rintro e w' ⟨rfl, rfl⟩; rw [HSG.out])
          refine wp_region_quiet_below (by kernel_rfl) (by kernel_rfl) ?_
          repeat (first | go_big_quiet_step (fail) | quiet_step (fail))
          refine wpQuiet_nil ?_
          intro _ hw'
          obtain ⟨⟨dq, osq⟩, hw''⟩ := hw'
          subst hw''
          go_wp2
          go_roundw
          case rel => exact ⟨1, by omega, by go_num, by rw [hnext.out, HA3.out]; unfold chkL; rw [if_neg h300], hb2w.thru (below_regrown _ _ _) hb2w.size⟩
          case measure => simp [intOf]; omega
        · obtain ⟨j, rfl⟩ : ∃ j, k = j + 1 := ⟨k - 1, by omega⟩
          obtain ⟨py, cy, c0, c1, _, hsy, hly, _⟩ := HAll.out j (by omega)
          have d0 := (hbW.cell (p := ⟨ab, ao + j * 3, none⟩) hab).trans c0
          have d1 := (hbW.cell (p := ⟨ab, ao + j * 3 + 1, none⟩) hab).trans c1
          have hpv : Hid (prevOf l (j + 1) = some l[j]) := by
            show _ = _
            unfold prevOf; rw [if_neg (by omega), Nat.add_sub_cancel, List.getElem?_eq_getElem (by omega)]
          have HA3 : Hid (chkAt (prevOf l (j + 1)) ⟨pk, ck, sk⟩ = if 0 ≤ ordM l[j].path l[j].clock pk ck then 4 else 0) := by
            show _ = _
            rw [HA2.out, hpv.out]; rfl
          have k0 := cell_regrown d0
          have k1 := cell_regrown d1
          have k2 := cell_regrown p0
          have k3 := cell_regrown p1
          have S1 := hidE (fun d os => (hsy.below hbW (Nat.le_refl _)).below (below_regrown w2 d os) (Nat.le_refl _))
          have S2 := hidE (fun d os => (hst.below hbW (Nat.le_refl _)).below (below_regrown w2 d os) (Nat.le_refl _))
          clear c0 c1 HA2 hsy hst
          generalize l[j].path = lp at d0 d1 hly HA3 k0 S1
          generalize l[j].clock = lc at d0 d1 HA3 k1
          have hw1 : IntKind.i64.wrap (((j + 1 : Nat) : Int) - 1) = (j : Int) := by rw [IntKind.wrap_i64] <;> omega
          have hg : decide (((j + 1 : Nat) : Int) > 0) = true := by simp
          have hj1 : (j : Int) < l.length := by omega
          go_wp2_with (go_at_call 135; refine (signIs_any _ _ s0 s1).mono ?_; rintro e w' ⟨rfl, rfl⟩; rw [HSG.out])
          refine wp_region_quiet_below (by kernel_rfl) (by kernel_rfl) ?_
          repeat (first | go_big_quiet_step ((go_at_call 61; exact Calls.regrown_of (order_any _ _ _ _ lp pk _ _ _ hly hle (S1.out _ _) (S2.out _ _)))) | quiet_step ((go_at_call 61; exact Calls.regrown_of (order_any _ _ _ _ lp pk _ _ _ hly hle (S1.out _ _) (S2.out _ _)))))
          refine wpQuiet_nil ?_
          intro _ hw'
          obtain ⟨⟨dq, osq⟩, hw''⟩ := hw'
          subst hw''
          by_cases ho : 0 ≤ ordM lp lc pk ck
          · have HF : Hid (chkL l = 4) := by show _ = _; rw [HR.out, HA3.out, if_pos ho, if_pos (by decide)]
            go_wp2
            go_ret
            exact ⟨ret_int HF.out.symm, hb2w.thru (below_regrown _ _ _) hb2w.size⟩
          · have HF : Hid (chkL l = chkFrom (some l[j + 1]) (l.drop (j + 1 + 1))) := by show _ = _; rw [HR.out, HA3.out, if_neg ho, if_neg (by decide)]
            have hlt' : ordM lp lc pk ck < 0 := by omega
            go_wp2
            go_roundw
            case rel => exact ⟨j + 1 + 1, by omega, by go_num, by rw [hnext.out, ← HF.out]; unfold chkL; rw [if_neg h300], hb2w.thru (below_regrown _ _ _) hb2w.size⟩
            case measure => simp [intOf]; omega
      · have hcb : (chk pk ck != 0) = true := by rw [bne_iff_ne]; exact hc0
        have HA : Hid (chkL l = chk pk ck) := by
          show _ = _
          have : chkAt (prevOf l k) ⟨pk, ck, sk⟩ = chk pk ck := by unfold chkAt; rw [if_pos hc0]
          rw [HR.out, this, if_pos hc0]
        clear hc0
        go_wp2_with fail
        go_ret
        exact ⟨ret_int HA.out.symm, hb2w⟩
    · go_wp2
      go_ret
      refine ⟨ret_int ?_, hb⟩
      rw [HC.out, ← HK.out, List.drop_eq_nil_of_le (by omega)]; rfl
end Go.Proofs.YtnhjebdlcbhkcaeGreat
