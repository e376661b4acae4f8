/- Contracts of the small functions on numbers (isDigit, isSite, isClock, between, numberOrder, isNaN, Compare). -/
import Derived.Test.YtnhjebdlcbhkcafRows
import Derived.WalkKit
import Derived.WalkSpells
import Derived.WalkLawsBesides
import Derived.Deep.QuietTactic
import Derived.BigQuiet
import Derived.Deep.RegionHeld3
import Derived.BigRegion
namespace Go.Proofs.Ytnhjebdlcbhkcaf
open Go.RowKit

def inB (n lo hi : Int) : Bool := decide (lo ≤ n) && decide (n ≤ hi)
def ordI (a b : Int) : Int := if a < b then -1 else if b < a then 1 else 0

set_option maxHeartbeats 400000 in
theorem isDigit_any (n : Int) (w : World) :
    Calls Try.prog 55 #[.int .i64 n] w fun e w' => e = .returned (.bool (inB n 0 200)) ∧ w' = w := by
  by_cases h1 : 0 ≤ n <;> by_cases h2 : n ≤ 200
  all_goals
    go_enter Try.func55, Try.ntmps55
    go_wp2
    go_ret
    exact ⟨by simp [inB, h1, h2], rfl⟩

set_option maxHeartbeats 400000 in
theorem isSite_any (n : Int) (w : World) :
    Calls Try.prog 56 #[.int .i64 n] w fun e w' => e = .returned (.bool (inB n 0 4)) ∧ w' = w := by
  by_cases h1 : 0 ≤ n <;> by_cases h2 : n < 5
  all_goals
    go_enter Try.func56, Try.ntmps56
    go_wp2
    go_ret
    exact ⟨by simp [inB, h1]; omega, rfl⟩

set_option maxHeartbeats 400000 in
theorem isClock_any (n : Int) (w : World) :
    Calls Try.prog 58 #[.int .i64 n] w fun e w' => e = .returned (.bool (inB n 1 10000)) ∧ w' = w := by
  by_cases h1 : 1 ≤ n <;> by_cases h2 : n ≤ 10000
  all_goals
    go_enter Try.func58, Try.ntmps58
    go_wp2
    go_ret
    exact ⟨by simp [inB, h1, h2], rfl⟩

set_option maxHeartbeats 400000 in
theorem between_any (n lo hi : Int) (w : World) :
    Calls Try.prog 17 #[.int .i64 n, .int .i64 lo, .int .i64 hi] w fun e w' => e = .returned (.bool (inB n lo hi)) ∧ w' = w := by
  by_cases h1 : lo ≤ n <;> by_cases h2 : n ≤ hi
  all_goals
    go_enter Try.func17, Try.ntmps17
    go_wp2
    go_ret
    exact ⟨by simp [inB, h1, h2], rfl⟩

set_option maxHeartbeats 400000 in
theorem numberOrder_any (a b : Int) (w : World) :
    Calls Try.prog 62 #[.int .i64 a, .int .i64 b] w fun e w' => e = .returned (.int .i64 (ordI a b)) ∧ w' = w := by
  by_cases h1 : a < b <;> by_cases h2 : b < a
  all_goals
    go_enter Try.func62, Try.ntmps62
    go_wp2
    go_ret
    exact ⟨congrArg (fun z => Ending.returned (.int .i64 z)) (by unfold ordI; repeat (first | omega | split)), rfl⟩

end Go.Proofs.Ytnhjebdlcbhkcaf

namespace Go.Proofs.Ytnhjebdlcbhkcaf
open Go.RowKit

theorem ret_bool {a b : Bool} (h : a = b) : Ending.returned (.bool a) = .returned (.bool b) := by rw [h]
theorem ret_int {k : IntKind} {a b : Int} (h : a = b) : Ending.returned (.int k a) = .returned (.int k b) := by rw [h]

def okStep (s : Int × Int) : Bool := inB s.1 0 200 && inB s.2 0 4

/-- the cells behind a slice's address hold these steps -/
def StepsAt (w : World) (a : Option Addr) (l : List (Int × Int)) : Prop :=
  l = [] ∨ ∃ b off, a = some ⟨b, off, none⟩ ∧ b < w.heap.size ∧ ∀ i (h : i < l.length), w.cell? ⟨b, off + i * 2, none⟩ = some (.int .i64 l[i].1) ∧ w.cell? ⟨b, off + i * 2 + 1, none⟩ = some (.int .i64 l[i].2)

theorem StepsAt.below {w w' : World} {a : Option Addr} {l : List (Int × Int)} {B : Nat} (h : StepsAt w a l) (hb : Below B w w') (hB : w.heap.size ≤ B) : StepsAt w' a l := by
  rcases h with h | ⟨b, off, rfl, hlt, hc⟩
  · exact Or.inl h
  · refine Or.inr ⟨b, off, rfl, Nat.lt_of_lt_of_le hlt hb.size, fun i hi => ?_⟩
    rw [hb.cell (show (⟨b, off + i * 2, none⟩ : Addr).block < B from by show b < B; omega), hb.cell (show (⟨b, off + i * 2 + 1, none⟩ : Addr).block < B from by show b < B; omega)]
    exact hc i hi

set_option maxHeartbeats 400000 in
theorem wrong_any (d s : Int) (w : World) :
    Calls Try.prog 54 #[.agg #[.int .i64 d, .int .i64 s]] w fun e w' => e = .returned (.bool (!okStep (d, s))) ∧ Below w.heap.size w w' := by
  go_enter Try.func54, Try.ntmps54
  go_wp2_with (first | (go_at_call 55; refine (isDigit_any _ _).mono ?_; rintro e w' ⟨rfl, rfl⟩) | (go_at_call 56; refine (isSite_any _ _).mono ?_; rintro e w' ⟨rfl, rfl⟩))
  all_goals
    go_ret
    exact ⟨by simp_all [okStep], (Below.refl _ _).alloc (Nat.le_refl _) _⟩

set_option maxHeartbeats 400000 in
theorem indexFunc_any (a : Option Addr) (cap : Nat) (l : List (Int × Int)) (w : World) (hl : l.length ≤ maxLen) (h : StepsAt w a l) :
    Calls Try.prog 61 #[.slice a l.length cap, .func (.func 54) #[] #[]] w fun e w' => (∃ r : Int, e = .returned (.int .i64 r) ∧ (0 ≤ r ↔ l.any (fun s => !okStep s) = true)) ∧ Below w.heap.size w w' := by
  unfold maxLen at hl
  go_enter Try.func61, Try.ntmps61
  go_wp2
  go_loopw [8] (fun i wr => ∃ k : Nat, k ≤ l.length ∧ i = .int .i64 k ∧ (∀ j (hj : j < l.length), j < k → okStep l[j] = true) ∧ Below w.heap.size w wr) (fun i _ => l.length - (intOf i).toNat)
  case atStart => exact ⟨0, Nat.zero_le _, rfl, fun j _ hj => absurd hj (Nat.not_lt_zero _), Below.refl _ _⟩
  case round =>
    obtain ⟨k, hk, rfl, hall, hb⟩ := hrel
    by_cases hlt : k < l.length
    · have hs := h.below hb (Nat.le_refl _)
      rcases hs with hs | ⟨b, off, rfl, hbl, hc⟩
      · simp [hs] at hlt
      have hc0 := (hc k hlt).1
      have hc1 := (hc k hlt).2
      clear hc h
      generalize hd : l[k].1 = d at hc0
      generalize hs : l[k].2 = s at hc1
      have HK : Hid (okStep l[k] = okStep (d, s)) := by show okStep l[k] = okStep (d, s); rw [← hd, ← hs]
      clear hd hs
      go_wp2_with (go_at_call 54; refine (wrong_any _ _ _).mono ?_; rintro e w' ⟨rfl, hb'⟩)
      · have hno : okStep (d, s) = false := by simp_all
        go_ret
        refine ⟨⟨_, rfl, ?_⟩, hb.trans (hb'.mono hb.size)⟩
        have : l.any (fun s => !okStep s) = true := List.any_eq_true.2 ⟨l[k], List.getElem_mem hlt, by rw [HK.out, hno]; rfl⟩
        simp [this]
      · have hyes : okStep (d, s) = true := by simp_all
        go_roundw
        case rel =>
          refine ⟨k + 1, by omega, by go_num, fun j hj hjk => ?_, hb.trans (hb'.mono hb.size)⟩
          by_cases e : j = k
          · subst e; rw [HK.out, hyes]
          · exact hall j hj (by omega)
        case measure => simp [intOf]; omega
    · go_wp2
      go_ret
      refine ⟨⟨_, rfl, ?_⟩, hb⟩
      have : l.any (fun s => !okStep s) = false := by
        rw [List.any_eq_false]
        intro x hx
        obtain ⟨i, hi, rfl⟩ := List.getElem_of_mem hx
        simp [hall i hi (by omega)]
      simp [this]

def okSteps (l : List (Int × Int)) : Bool := l.all okStep

set_option maxHeartbeats 400000 in
theorem containsFunc_any (a : Option Addr) (cap : Nat) (l : List (Int × Int)) (w : World) (hl : l.length ≤ maxLen) (h : StepsAt w a l) :
    Calls Try.prog 57 #[.slice a l.length cap, .func (.func 54) #[] #[]] w fun e w' => e = .returned (.bool (!okSteps l)) ∧ Below w.heap.size w w' := by
  go_enter Try.func57, Try.ntmps57
  go_wp2_with (go_at_call 61; refine (indexFunc_any _ _ _ _ hl h).mono ?_; rintro e w' ⟨⟨r, rfl, hr⟩, hb⟩)
  go_ret
  refine ⟨ret_bool ?_, hb⟩
  rw [Bool.eq_iff_iff]
  simp only [decide_eq_true_eq, ge_iff_le]
  rw [hr]
  simp [okSteps]
end Go.Proofs.Ytnhjebdlcbhkcaf

namespace Go.Proofs.Ytnhjebdlcbhkcaf
open Go.RowKit

def lastS (l : List (Int × Int)) : Int × Int := l.getD (l.length - 1) (0, 0)
/-- what Check of a mark answers -/
def chk (l : List (Int × Int)) (c : Int) : Int :=
  if 10 < l.length then 2 else if l.length = 0 then 1 else if okSteps l && (lastS l).1 != 0 && inB c 1 10000 then 0 else 3

theorem _root_.Go.RowKit.Below.thru {B : Nat} {a w w' : World} (h : Below B a w) (hb : Below w.heap.size w w') (hB : B ≤ w.heap.size) : Below B a w' := h.trans (hb.mono hB)

theorem bcell {W w1 : World} (hb : Below W.heap.size W w1) : (∀ b o, b < W.heap.size → w1.cell? ⟨b, o, none⟩ = W.cell? ⟨b, o, none⟩) ∧ (∀ b o, b < W.heap.size → w1.frozen? ⟨b, o, none⟩ = W.frozen? ⟨b, o, none⟩) :=
  ⟨fun b o h => hb.cell (p := ⟨b, o, none⟩) h, fun b o h => hb.frozen (p := ⟨b, o, none⟩) h⟩

set_option maxHeartbeats 400000 in
theorem check_any (a : Option Addr) (cap : Nat) (l : List (Int × Int)) (c : Int) (w : World) (hl : l.length ≤ maxLen) (h : StepsAt w a l) :
    Calls Try.prog 47 #[.agg #[.slice a l.length cap, .int .i64 c]] w fun e w' => e = .returned (.int .i64 (chk l c)) ∧ Below w.heap.size w w' := by
  unfold maxLen at hl
  by_cases h10 : 10 < l.length
  · have hd : ((l.length : Int) > 10) := by omega
    go_enter Try.func47, Try.ntmps47
    go_wp2
    go_ret
    exact ⟨ret_int (by simp [chk, h10]), (Below.refl _ _).alloc (Nat.le_refl _) _⟩
  by_cases h0 : l.length = 0
  · go_enter Try.func47, Try.ntmps47
    go_wp2
    go_ret
    exact ⟨ret_int (by simp [chk, h0]), (Below.refl _ _).alloc (Nat.le_refl _) _⟩
  rcases id h with hs | ⟨b, off, rfl, hbl, hc⟩
  · simp [hs] at h0
  have hc0 := (hc (l.length - 1) (by omega)).1
  have HL : Hid (lastS l = l[l.length - 1]) := by show lastS l = l[l.length - 1]; unfold lastS; rw [List.getD_eq_getElem?_getD, List.getElem?_eq_getElem (by omega)]; rfl
  have hbl' : b < w.heap.size + 1 := by omega
  clear hc
  go_enter Try.func47, Try.ntmps47
  go_wp2_with (first | (go_at_call 57; refine (containsFunc_any _ _ _ _ (by unfold maxLen; omega) (by exact h.below ((Below.refl _ _).alloc (Nat.le_refl _) _) (Nat.le_refl _))).mono ?_; rintro e w' ⟨rfl, hb⟩; obtain ⟨hcc, hff⟩ := bcell hb) | (go_at_call 58; refine (isClock_any _ _).mono ?_; rintro e w' ⟨rfl, rfl⟩))
  all_goals
    go_ret
    exact ⟨ret_int (by simp_all [chk, HL.out]), ((Below.refl _ _).alloc (Nat.le_refl _) _).thru hb (by simp)⟩
end Go.Proofs.Ytnhjebdlcbhkcaf

namespace Go.Proofs.Ytnhjebdlcbhkcaf
open Go.RowKit

def orI (x y : Int) : Int := if x = 0 then y else x

def ordS (s t : Int × Int) : Int := orI (ordI s.1 t.1) (ordI s.2 t.2)
/-- the order of two paths -/
def ordP : List (Int × Int) → List (Int × Int) → Int
  | [], [] => 0
  | [], _ :: _ => -1
  | _ :: _, [] => 1
  | s :: l, t :: m => if ordS s t = 0 then ordP l m else ordS s t

/-- the order of two marks -/
def ordM (l : List (Int × Int)) (c : Int) (m : List (Int × Int)) (d : Int) : Int := orI (ordP l m) (ordI c d)

end Go.Proofs.Ytnhjebdlcbhkcaf
