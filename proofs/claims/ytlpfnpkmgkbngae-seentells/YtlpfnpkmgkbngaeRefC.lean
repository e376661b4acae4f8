/- Contracts of the reference's CheckMark, OrderOf, SameMark, IsNone. -/
import Derived.Test.YtlpfnpkmgkbngaeNextC
namespace Go.Proofs.Ytlpfnpkmgkbngae
open Go.RowKit

theorem okSteps_false {l : List (Int × Int)} {k : Nat} (hk : k < l.length) (h : okStep l[k] = false) : okSteps l = false := by
  unfold okSteps; rw [List.all_eq_false]; exact ⟨l[k], List.getElem_mem hk, by rw [h]; simp⟩
theorem okSteps_true {l : List (Int × Int)} (h : ∀ j (hj : j < l.length), okStep l[j] = true) : okSteps l = true := by
  unfold okSteps; rw [List.all_eq_true]; intro x hx; obtain ⟨i, hi, rfl⟩ := List.getElem_of_mem hx; exact h i hi

set_option maxHeartbeats 400000 in
theorem checkMark_any (a : Option Addr) (cap : Nat) (l : List (Int × Int)) (c : Int) (w : World) (hl : l.length ≤ maxLen) (h : StepsAt w a l) :
    Calls Try.prog 32 #[.agg #[.slice a l.length cap, .int .i64 c]] w fun e w' => e = .returned (.int .i64 (chk l c)) ∧ Below w.heap.size w w' := by
  unfold maxLen at hl
  by_cases h10 : 10 < l.length
  · have hd : ((l.length : Int) > 10) := by omega
    go_enter Try.func32, Try.ntmps32
    go_wp2
    go_ret
    exact ⟨ret_int (by simp [chk, h10]), (Below.refl _ _).alloc (Nat.le_refl _) _⟩
  by_cases h0 : l.length = 0
  · go_enter Try.func32, Try.ntmps32
    go_wp2
    go_ret
    exact ⟨ret_int (by simp [chk, h0]), (Below.refl _ _).alloc (Nat.le_refl _) _⟩
  rcases id h with hs | ⟨b, off, rfl, hbl, hc⟩
  · simp [hs] at h0
  have e10 : ¬ ((l.length : Int) > 10) := by omega
  have e0 : ((l.length : Int) == 0) = false := beq_eq_false_iff_ne.2 (by omega)
  have HL : Hid (lastS l = l[l.length - 1]) := lastS_eq (by omega)
  go_enter Try.func32, Try.ntmps32
  go_wp2
  go_loop [4] (fun i => ∃ k : Nat, k ≤ l.length ∧ i = .int .i64 k ∧ (∀ j (hj : j < l.length), j < k → okStep l[j] = true)) (fun i => l.length - (intOf i).toNat)
  case atStart => exact ⟨0, Nat.zero_le _, rfl, fun j _ hj => absurd hj (Nat.not_lt_zero _)⟩
  case round =>
    obtain ⟨k, hk, rfl, hall⟩ := hrel
    by_cases hlt : k < l.length
    · have hc0 := (hc k hlt).1
      have hc1 := (hc k hlt).2
      have HK : Hid (okStep l[k] = (inB l[k].1 0 200 && inB l[k].2 0 4)) := rfl
      clear hc
      generalize l[k].1 = d at hc0 HK
      generalize l[k].2 = s at hc1 HK
      go_wp2_with (go_at_call 22; refine (between_any _ _ _ _).mono ?_; rintro e w' ⟨rfl, rfl⟩)
      · have hno : okStep l[k] = false := by rw [HK.out]; simp_all
        go_ret
        exact ⟨ret_int (by unfold chk; rw [if_neg h10, if_neg h0, okSteps_false hlt hno]; rfl), (Below.refl _ _).alloc (Nat.le_refl _) _⟩
      · have hyes : okStep l[k] = true := by rw [HK.out]; simp_all
        go_round
        case rel =>
          refine ⟨k + 1, by omega, by go_num, fun j hj hjk => ?_⟩
          by_cases e : j = k
          · subst e; exact hyes
          · exact hall j hj (by omega)
        case measure => simp [intOf]; omega
      · have hno : okStep l[k] = false := by rw [HK.out]; simp_all
        go_ret
        exact ⟨ret_int (by unfold chk; rw [if_neg h10, if_neg h0, okSteps_false hlt hno]; rfl), (Below.refl _ _).alloc (Nat.le_refl _) _⟩
    · have hoks : okSteps l = true := okSteps_true fun j hj => hall j hj (by omega)
      have hc0 := (hc (l.length - 1) (by omega)).1
      go_wp2_with (go_at_call 22; refine (between_any _ _ _ _).mono ?_; rintro e w' ⟨rfl, rfl⟩)
      all_goals
        go_ret
        exact ⟨ret_int (by simp_all [chk, HL.out]), (Below.refl _ _).alloc (Nat.le_refl _) _⟩

theorem checkMark_n (a : Option Addr) (cap n : Nat) (l : List (Int × Int)) (c : Int) (w : World) (hn : n = l.length) (hl : l.length ≤ maxLen) (h : StepsAt w a l) :
    Calls Try.prog 32 #[.agg #[.slice a n cap, .int .i64 c]] w fun e w' => e = .returned (.int .i64 (chk l c)) ∧ Below w.heap.size w w' := by
  subst hn; exact checkMark_any a cap l c w hl h

set_option maxHeartbeats 400000 in
theorem isNone_any (a : Option Addr) (cap : Nat) (n : Nat) (c : Int) (w : World) :
    Calls Try.prog 31 #[.agg #[.slice a n cap, .int .i64 c]] w fun e w' => e = .returned (.bool (n == 0 && c == 0)) ∧ Below w.heap.size w w' := by
  go_enter Try.func31, Try.ntmps31
  go_wp2
  all_goals
    go_ret
    refine ⟨ret_bool ?_, (Below.refl _ _).alloc (Nat.le_refl _) _⟩
    simp_all

theorem belowDrewN {B : Nat} {a w : World} (h : Below B a w) (n : Nat) : Below B a (w.drewN n) := ⟨h.os, h.tape, h.output, h.size, h.block⟩

theorem boxes2 (w : World) (v0 v1 u0 u1 : Value) (T T' : TypeId) : ((w.alloc (Obj.cells #[v0, v1] T)).alloc (Obj.cells #[u0, u1] T')).cell? ⟨w.heap.size, 0, none⟩ = some v0 ∧
    ((w.alloc (Obj.cells #[v0, v1] T)).alloc (Obj.cells #[u0, u1] T')).cell? ⟨w.heap.size, 1, none⟩ = some v1 ∧
    ((w.alloc (Obj.cells #[v0, v1] T)).alloc (Obj.cells #[u0, u1] T')).cell? ⟨w.heap.size + 1, 0, none⟩ = some u0 ∧
    ((w.alloc (Obj.cells #[v0, v1] T)).alloc (Obj.cells #[u0, u1] T')).cell? ⟨w.heap.size + 1, 1, none⟩ = some u1 ∧
    ((w.alloc (Obj.cells #[v0, v1] T)).alloc (Obj.cells #[u0, u1] T')).heap.size = w.heap.size + 2 ∧
    Below w.heap.size w ((w.alloc (Obj.cells #[v0, v1] T)).alloc (Obj.cells #[u0, u1] T')) :=
  ⟨by go_simp, by go_simp, by go_simp, by go_simp, by simp, ((Below.refl _ _).alloc (Nat.le_refl _) _).alloc (by simp) _⟩

theorem ordS_zero {s t : Int × Int} (h : ordI s.1 t.1 = 0) : ordS s t = ordI s.2 t.2 := by unfold ordS orI; rw [if_pos h]
theorem ordS_ne {s t : Int × Int} (h : ordI s.1 t.1 ≠ 0) : ordS s t = ordI s.1 t.1 := by unfold ordS orI; rw [if_neg h]

end Go.Proofs.Ytlpfnpkmgkbngae
