/- Contracts of the small functions on numbers (isDigit, isSite, isClock, between, numberOrder, isNaN, Compare). -/
import Derived.Test.YtnhjebdlcbhkcacGreatRows
import Derived.WalkKit
import Derived.WalkSpells
import Derived.WalkLawsBesides
import Derived.Deep.QuietTactic
import Derived.BigQuiet
import Derived.Deep.RegionHeld3
import Derived.BigRegion
namespace Go.Proofs.YtnhjebdlcbhkcacGreat
open Go.RowKit

def inB (n lo hi : Int) : Bool := decide (lo ≤ n) && decide (n ≤ hi)
def ordI (a b : Int) : Int := if a < b then -1 else if b < a then 1 else 0

set_option maxHeartbeats 400000 in
theorem isDigit_any (n : Int) (w : World) :
    Calls Tryz.prog 83 #[.int .i64 n] w fun e w' => e = .returned (.bool (inB n 0 200)) ∧ w' = w := by
  by_cases h1 : 0 ≤ n <;> by_cases h2 : n ≤ 200
  all_goals
    go_enter Tryz.func83, Tryz.ntmps83
    go_wp2
    go_ret
    exact ⟨by simp [inB, h1, h2], rfl⟩

set_option maxHeartbeats 400000 in
theorem isSite_any (n : Int) (w : World) :
    Calls Tryz.prog 69 #[.int .i64 n] w fun e w' => e = .returned (.bool (inB n 0 4)) ∧ w' = w := by
  by_cases h1 : 0 ≤ n <;> by_cases h2 : n < 5
  all_goals
    go_enter Tryz.func69, Tryz.ntmps69
    go_wp2
    go_ret
    exact ⟨by simp [inB, h1]; omega, rfl⟩

set_option maxHeartbeats 400000 in
theorem isClock_any (n : Int) (w : World) :
    Calls Tryz.prog 70 #[.int .i64 n] w fun e w' => e = .returned (.bool (inB n 1 10000)) ∧ w' = w := by
  by_cases h1 : 1 ≤ n <;> by_cases h2 : n ≤ 10000
  all_goals
    go_enter Tryz.func70, Tryz.ntmps70
    go_wp2
    go_ret
    exact ⟨by simp [inB, h1, h2], rfl⟩

set_option maxHeartbeats 400000 in
theorem between_any (n lo hi : Int) (w : World) :
    Calls Tryz.prog 53 #[.int .i64 n, .int .i64 lo, .int .i64 hi] w fun e w' => e = .returned (.bool (inB n lo hi)) ∧ w' = w := by
  by_cases h1 : lo ≤ n <;> by_cases h2 : n ≤ hi
  all_goals
    go_enter Tryz.func53, Tryz.ntmps53
    go_wp2
    go_ret
    exact ⟨by simp [inB, h1, h2], rfl⟩

set_option maxHeartbeats 400000 in
theorem numberOrder_any (a b : Int) (w : World) :
    Calls Tryz.prog 92 #[.int .i64 a, .int .i64 b] w fun e w' => e = .returned (.int .i64 (ordI a b)) ∧ w' = w := by
  by_cases h1 : a < b <;> by_cases h2 : b < a
  all_goals
    go_enter Tryz.func92, Tryz.ntmps92
    go_wp2
    go_ret
    exact ⟨congrArg (fun z => Ending.returned (.int .i64 z)) (by unfold ordI; repeat (first | omega | split)), rfl⟩

set_option maxHeartbeats 400000 in
theorem isNaN_any (a : Int) (w : World) :
    Calls Tryz.prog 121 #[.int .i64 a] w fun e w' => e = .returned (.bool false) ∧ w' = w := by
  go_enter Tryz.func121, Tryz.ntmps121
  go_wp2
  go_ret
  exact ⟨by simp, rfl⟩

set_option maxHeartbeats 400000 in
theorem compare_any (a b : Int) (w : World) :
    Calls Tryz.prog 86 #[.int .i64 a, .int .i64 b] w fun e w' => e = .returned (.int .i64 (ordI a b)) ∧ w' = w := by
  by_cases h1 : a < b <;> by_cases h2 : b < a
  all_goals
    go_enter Tryz.func86, Tryz.ntmps86
    go_wp2_with (go_at_call 121; refine (isNaN_any _ _).mono ?_; rintro e w' ⟨rfl, rfl⟩)
    go_ret
    exact ⟨congrArg (fun z => Ending.returned (.int .i64 z)) (by unfold ordI; repeat (first | omega | split)), rfl⟩

end Go.Proofs.YtnhjebdlcbhkcacGreat

namespace Go.Proofs.YtnhjebdlcbhkcacGreat
open Go.RowKit

theorem ret_bool {a b : Bool} (h : a = b) : Ending.returned (.bool a) = .returned (.bool b) := by rw [h]
theorem ret_int {k : IntKind} {a b : Int} (h : a = b) : Ending.returned (.int k a) = .returned (.int k b) := by rw [h]

def okStep (s : Int × Int) : Bool := inB s.1 0 200 && inB s.2 0 4

/-- the cells behind a slice's address hold these steps -/
def StepsAt (w : World) (a : Option Addr) (l : List (Int × Int)) : Prop :=
  l = [] ∨ ∃ b off, a = some ⟨b, off, none⟩ ∧ b < w.heap.size ∧ ∀ i (h : i < l.length), w.cell? ⟨b, off + i * 2, none⟩ = some (.int .i64 l[i].1) ∧ w.cell? ⟨b, off + i * 2 + 1, none⟩ = some (.int .i64 l[i].2)

theorem StepsAt.below {w w' : World} {a : Option Addr} {l : List (Int × Int)} {B : Nat} (h : StepsAt w a l) (hb : Below B w w') (hB : w.heap.size ≤ B) : StepsAt w' a l := by
  rcases h with h | ⟨b, off, rfl, hlt, hc⟩
  · exact Or.inl h
  · refine Or.inr ⟨b, off, rfl, Nat.lt_of_lt_of_le hlt hb.size, fun i hi => ?_⟩
    rw [hb.cell (show (⟨b, off + i * 2, none⟩ : Addr).block < B from by show b < B; omega), hb.cell (show (⟨b, off + i * 2 + 1, none⟩ : Addr).block < B from by show b < B; omega)]
    exact hc i hi

set_option maxHeartbeats 400000 in
theorem wrong_any (d s : Int) (w : World) :
    Calls Tryz.prog 82 #[.agg #[.int .i64 d, .int .i64 s]] w fun e w' => e = .returned (.bool (!okStep (d, s))) ∧ Below w.heap.size w w' := by
  go_enter Tryz.func82, Tryz.ntmps82
  go_wp2_with (first | (go_at_call 83; refine (isDigit_any _ _).mono ?_; rintro e w' ⟨rfl, rfl⟩) | (go_at_call 69; refine (isSite_any _ _).mono ?_; rintro e w' ⟨rfl, rfl⟩))
  all_goals
    go_ret
    exact ⟨by simp_all [okStep], (Below.refl _ _).alloc (Nat.le_refl _) _⟩

set_option maxHeartbeats 400000 in
theorem indexFunc_any (a : Option Addr) (cap : Nat) (l : List (Int × Int)) (w : World) (hl : l.length ≤ maxLen) (h : StepsAt w a l) :
    Calls Tryz.prog 120 #[.slice a l.length cap, .func (.func 82) #[] #[]] w fun e w' => (∃ r : Int, e = .returned (.int .i64 r) ∧ (0 ≤ r ↔ l.any (fun s => !okStep s) = true)) ∧ Below w.heap.size w w' := by
  unfold maxLen at hl
  go_enter Tryz.func120, Tryz.ntmps120
  go_wp2
  go_loopw [8] (fun i wr => ∃ k : Nat, k ≤ l.length ∧ i = .int .i64 k ∧ (∀ j (hj : j < l.length), j < k → okStep l[j] = true) ∧ Below w.heap.size w wr) (fun i _ => l.length - (intOf i).toNat)
  case atStart => exact ⟨0, Nat.zero_le _, rfl, fun j _ hj => absurd hj (Nat.not_lt_zero _), Below.refl _ _⟩
  case round =>
    obtain ⟨k, hk, rfl, hall, hb⟩ := hrel
    by_cases hlt : k < l.length
    · have hs := h.below hb (Nat.le_refl _)
      rcases hs with hs | ⟨b, off, rfl, hbl, hc⟩
      · simp [hs] at hlt
      have hc0 := (hc k hlt).1
      have hc1 := (hc k hlt).2
      clear hc h
      generalize hd : l[k].1 = d at hc0
      generalize hs : l[k].2 = s at hc1
      have HK : Hid (okStep l[k] = okStep (d, s)) := by show okStep l[k] = okStep (d, s); rw [← hd, ← hs]
      clear hd hs
      go_wp2_with (go_at_call 82; refine (wrong_any _ _ _).mono ?_; rintro e w' ⟨rfl, hb'⟩)
      · have hno : okStep (d, s) = false := by simp_all
        go_ret
        refine ⟨⟨_, rfl, ?_⟩, hb.trans (hb'.mono hb.size)⟩
        have : l.any (fun s => !okStep s) = true := List.any_eq_true.2 ⟨l[k], List.getElem_mem hlt, by rw [HK.out, hno]; rfl⟩
        simp [this]
      · have hyes : okStep (d, s) = true := by simp_all
        go_roundw
        case rel =>
          refine ⟨k + 1, by omega, by go_num, fun j hj hjk => ?_, hb.trans (hb'.mono hb.size)⟩
          by_cases e : j = k
          · subst e; rw [HK.out, hyes]
          · exact hall j hj (by omega)
        case measure => simp [intOf]; omega
    · go_wp2
      go_ret
      refine ⟨⟨_, rfl, ?_⟩, hb⟩
      have : l.any (fun s => !okStep s) = false := by
        rw [List.any_eq_false]
        intro x hx
        obtain ⟨i, hi, rfl⟩ := List.getElem_of_mem hx
        simp [hall i hi (by omega)]
      simp [this]

def okSteps (l : List (Int × Int)) : Bool := l.all okStep

set_option maxHeartbeats 400000 in
theorem containsFunc_any (a : Option Addr) (cap : Nat) (l : List (Int × Int)) (w : World) (hl : l.length ≤ maxLen) (h : StepsAt w a l) :
    Calls Tryz.prog 84 #[.slice a l.length cap, .func (.func 82) #[] #[]] w fun e w' => e = .returned (.bool (!okSteps l)) ∧ Below w.heap.size w w' := by
  go_enter Tryz.func84, Tryz.ntmps84
  go_wp2_with (go_at_call 120; refine (indexFunc_any _ _ _ _ hl h).mono ?_; rintro e w' ⟨⟨r, rfl, hr⟩, hb⟩)
  go_ret
  refine ⟨ret_bool ?_, hb⟩
  rw [Bool.eq_iff_iff]
  simp only [decide_eq_true_eq, ge_iff_le]
  rw [hr]
  simp [okSteps]
end Go.Proofs.YtnhjebdlcbhkcacGreat

namespace Go.Proofs.YtnhjebdlcbhkcacGreat
open Go.RowKit

def lastS (l : List (Int × Int)) : Int × Int := l.getD (l.length - 1) (0, 0)
/-- what Check of a mark answers -/
def chk (l : List (Int × Int)) (c : Int) : Int :=
  if 10 < l.length then 2 else if l.length = 0 then 1 else if okSteps l && (lastS l).1 != 0 && inB c 1 10000 then 0 else 3

theorem _root_.Go.RowKit.Below.thru {B : Nat} {a w w' : World} (h : Below B a w) (hb : Below w.heap.size w w') (hB : B ≤ w.heap.size) : Below B a w' := h.trans (hb.mono hB)

theorem bcell {W w1 : World} (hb : Below W.heap.size W w1) : (∀ b o, b < W.heap.size → w1.cell? ⟨b, o, none⟩ = W.cell? ⟨b, o, none⟩) ∧ (∀ b o, b < W.heap.size → w1.frozen? ⟨b, o, none⟩ = W.frozen? ⟨b, o, none⟩) :=
  ⟨fun b o h => hb.cell (p := ⟨b, o, none⟩) h, fun b o h => hb.frozen (p := ⟨b, o, none⟩) h⟩

set_option maxHeartbeats 400000 in
theorem check_any (a : Option Addr) (cap : Nat) (l : List (Int × Int)) (c : Int) (w : World) (hl : l.length ≤ maxLen) (h : StepsAt w a l) :
    Calls Tryz.prog 45 #[.agg #[.slice a l.length cap, .int .i64 c]] w fun e w' => e = .returned (.int .i64 (chk l c)) ∧ Below w.heap.size w w' := by
  unfold maxLen at hl
  by_cases h10 : 10 < l.length
  · have hd : ((l.length : Int) > 10) := by omega
    go_enter Tryz.func45, Tryz.ntmps45
    go_wp2
    go_ret
    exact ⟨ret_int (by simp [chk, h10]), (Below.refl _ _).alloc (Nat.le_refl _) _⟩
  by_cases h0 : l.length = 0
  · go_enter Tryz.func45, Tryz.ntmps45
    go_wp2
    go_ret
    exact ⟨ret_int (by simp [chk, h0]), (Below.refl _ _).alloc (Nat.le_refl _) _⟩
  rcases id h with hs | ⟨b, off, rfl, hbl, hc⟩
  · simp [hs] at h0
  have hc0 := (hc (l.length - 1) (by omega)).1
  have HL : Hid (lastS l = l[l.length - 1]) := by show lastS l = l[l.length - 1]; unfold lastS; rw [List.getD_eq_getElem?_getD, List.getElem?_eq_getElem (by omega)]; rfl
  have hbl' : b < w.heap.size + 1 := by omega
  clear hc
  go_enter Tryz.func45, Tryz.ntmps45
  go_wp2_with (first | (go_at_call 84; refine (containsFunc_any _ _ _ _ (by unfold maxLen; omega) (by exact h.below ((Below.refl _ _).alloc (Nat.le_refl _) _) (Nat.le_refl _))).mono ?_; rintro e w' ⟨rfl, hb⟩; obtain ⟨hcc, hff⟩ := bcell hb) | (go_at_call 70; refine (isClock_any _ _).mono ?_; rintro e w' ⟨rfl, rfl⟩))
  all_goals
    go_ret
    exact ⟨ret_int (by simp_all [chk, HL.out]), ((Below.refl _ _).alloc (Nat.le_refl _) _).thru hb (by simp)⟩
end Go.Proofs.YtnhjebdlcbhkcacGreat

namespace Go.Proofs.YtnhjebdlcbhkcacGreat
open Go.RowKit

def orI (x y : Int) : Int := if x = 0 then y else x

set_option maxHeartbeats 400000 in
theorem or_any (b cap : Nat) (x y : Int) (w : World) (h0 : w.cell? ⟨b, 0, none⟩ = some (.int .i64 x)) (h1 : w.cell? ⟨b, 1, none⟩ = some (.int .i64 y)) :
    Calls Tryz.prog 85 #[.slice (some ⟨b, 0, none⟩) 2 cap] w fun e w' => e = .returned (.int .i64 (orI x y)) ∧ w' = w := by
  go_enter Tryz.func85, Tryz.ntmps85
  go_wp2
  go_loop [8] (fun i => ∃ k : Nat, k ≤ 2 ∧ i = .int .i64 k ∧ (1 ≤ k → x = 0) ∧ (2 ≤ k → y = 0)) (fun i => 2 - (intOf i).toNat)
  case atStart => exact ⟨0, by omega, rfl, by omega, by omega⟩
  case round =>
    obtain ⟨k, hk, rfl, hx, hy⟩ := hrel
    rcases (show k = 0 ∨ k = 1 ∨ k = 2 by omega) with rfl | rfl | rfl
    · clear hx hy
      by_cases hx : x = 0
      · go_wp2
        go_round
        case rel => exact ⟨1, by omega, by go_num, fun _ => hx, by omega⟩
        case measure => simp [intOf]
      · go_wp2
        go_ret
        exact ⟨ret_int (by simp [orI, hx]), rfl⟩
    · have hx0 := hx (by omega)
      subst hx0
      clear hx hy
      by_cases hy : y = 0
      · go_wp2
        go_round
        case rel => exact ⟨2, by omega, by go_num, fun _ => by simp, fun _ => hy⟩
        case measure => simp [intOf]
      · go_wp2
        go_ret
        exact ⟨ret_int (by simp [orI]), rfl⟩
    · have hx0 := hx (by omega)
      have hy0 := hy (by omega)
      subst hx0
      subst hy0
      clear hx hy
      go_wp2
      go_ret
      exact ⟨ret_int (by simp [orI]), rfl⟩

set_option maxHeartbeats 1000000 in
theorem cmpStep_any (d s d' s' : Int) (w : World) :
    Calls Tryz.prog 104 #[.agg #[.int .i64 d, .int .i64 s], .agg #[.int .i64 d', .int .i64 s']] w fun e w' => e = .returned (.int .i64 (orI (ordI d d') (ordI s s'))) ∧ Below w.heap.size w w' := by
  go_enter Tryz.func104, Tryz.ntmps104
  go_wp2
  go_region_held3 (fun w' => w'.cell? ⟨w.heap.size, 0, none⟩ = some (.int .i64 d) ∧ w'.cell? ⟨w.heap.size, 1, none⟩ = some (.int .i64 s) ∧ w'.cell? ⟨w.heap.size + 1, 0, none⟩ = some (.int .i64 d') ∧ w'.cell? ⟨w.heap.size + 1, 1, none⟩ = some (.int .i64 s')) (go_keep)
    (first | (go_at_call 86; refine (compare_any _ _ _).mono ?_; rintro e w' ⟨rfl, rfl⟩) | (go_at_call 85; refine (or_any _ _ (ordI d d') (ordI s s') _ (by go_simp) (by go_simp)).mono ?_; rintro e w' ⟨rfl, rfl⟩))
  go_wp2
  go_ret
  exact ⟨rfl, ((((Below.refl _ _).alloc (Nat.le_refl _) _).alloc (by simp) _).alloc (by simp; omega) _).drew⟩

def ordS (s t : Int × Int) : Int := orI (ordI s.1 t.1) (ordI s.2 t.2)
/-- the order of two paths -/
def ordP : List (Int × Int) → List (Int × Int) → Int
  | [], [] => 0
  | [], _ :: _ => -1
  | _ :: _, [] => 1
  | s :: l, t :: m => if ordS s t = 0 then ordP l m else ordS s t

set_option maxHeartbeats 1000000 in
theorem compareFunc_any (a a' : Option Addr) (cap cap' : Nat) (l m : List (Int × Int)) (w : World) (hl : l.length ≤ maxLen) (hm : m.length ≤ maxLen) (h : StepsAt w a l) (h' : StepsAt w a' m) :
    Calls Tryz.prog 103 #[.slice a l.length cap, .slice a' m.length cap', .func (.func 104) #[] #[]] w fun e w' => e = .returned (.int .i64 (ordP l m)) ∧ Below w.heap.size w w' := by
  unfold maxLen at hl
  have _hm := hm
  go_enter Tryz.func103, Tryz.ntmps103
  go_wp2
  go_loopw [13] (fun i wr => ∃ k : Nat, k ≤ l.length ∧ k ≤ m.length ∧ i = .int .i64 k ∧ ordP (l.drop k) (m.drop k) = ordP l m ∧ Below w.heap.size w wr) (fun i _ => l.length - (intOf i).toNat)
  case atStart => exact ⟨0, Nat.zero_le _, Nat.zero_le _, rfl, rfl, Below.refl _ _⟩
  case round =>
    obtain ⟨k, hk, hk', rfl, hord, hb⟩ := hrel
    have HO : Hid (ordP (l.drop k) (m.drop k) = ordP l m) := hord
    clear hord
    by_cases hlt : k < l.length
    · have hs := h.below hb (Nat.le_refl _)
      rcases hs with hs | ⟨b, off, rfl, hbl, hc⟩
      · simp [hs] at hlt
      have hc0 := (hc k hlt).1
      have hc1 := (hc k hlt).2
      by_cases hlt' : k < m.length
      · have hs' := h'.below hb (Nat.le_refl _)
        rcases hs' with hs' | ⟨b', off', rfl, hbl', hc'⟩
        · simp [hs'] at hlt'
        have hc0' := (hc' k hlt').1
        have hc1' := (hc' k hlt').2
        have HK : Hid (ordP (l.drop k) (m.drop k) = if ordS l[k] m[k] = 0 then ordP (l.drop (k + 1)) (m.drop (k + 1)) else ordS l[k] m[k]) := by
          show _ = _
          rw [List.drop_eq_getElem_cons hlt, List.drop_eq_getElem_cons hlt']; rfl
        have HS : Hid (ordS l[k] m[k] = orI (ordI l[k].1 m[k].1) (ordI l[k].2 m[k].2)) := rfl
        clear hc hc' h h'
        generalize l[k].1 = d at hc0 HS
        generalize l[k].2 = s at hc1 HS
        generalize m[k].1 = d' at hc0' HS
        generalize m[k].2 = s' at hc1' HS
        go_wp2_with (go_at_call 104; refine (cmpStep_any _ _ _ _ _).mono ?_; rintro e w' ⟨rfl, hb'⟩)
        · have hne : ¬ ordS l[k] m[k] = 0 := by rw [HS.out]; simp_all
          go_ret
          exact ⟨ret_int (by rw [← HO.out, HK.out, if_neg hne, HS.out]), ((hb.alloc hb.size _).alloc (by have := hb.size; simp; omega) _).thru hb' (by have := hb.size; simp; omega)⟩
        · have hne : ordS l[k] m[k] = 0 := by rw [HS.out]; simp_all
          go_roundw
          case rel => exact ⟨k + 1, by omega, by omega, by go_num, by rw [← HO.out, HK.out, if_pos hne], ((hb.alloc hb.size _).alloc (by have := hb.size; simp; omega) _).thru hb' (by have := hb.size; simp; omega)⟩
          case measure => simp [intOf]; omega
      · go_wp2
        go_ret
        refine ⟨ret_int ?_, hb.alloc hb.size _⟩
        rw [← HO.out, List.drop_eq_getElem_cons hlt, List.drop_eq_nil_of_le (Nat.le_of_not_lt hlt')]; rfl
    · go_wp2
      · go_ret
        refine ⟨ret_int ?_, hb⟩
        have hlt' : k < m.length := by omega
        rw [← HO.out, List.drop_eq_getElem_cons hlt', List.drop_eq_nil_of_le (Nat.le_of_not_lt hlt)]; rfl
      · go_ret
        refine ⟨ret_int ?_, hb⟩
        have hlt' : m.length ≤ k := by omega
        rw [← HO.out, List.drop_eq_nil_of_le hlt', List.drop_eq_nil_of_le (Nat.le_of_not_lt hlt)]; rfl

set_option maxHeartbeats 400000 in
theorem orderPaths_any (a a' : Option Addr) (cap cap' : Nat) (l m : List (Int × Int)) (w : World) (hl : l.length ≤ maxLen) (hm : m.length ≤ maxLen) (h : StepsAt w a l) (h' : StepsAt w a' m) :
    Calls Tryz.prog 71 #[.slice a l.length cap, .slice a' m.length cap'] w fun e w' => e = .returned (.int .i64 (ordP l m)) ∧ Below w.heap.size w w' := by
  go_enter Tryz.func71, Tryz.ntmps71
  go_wp2_with (go_at_call 103; refine (compareFunc_any _ _ _ _ _ _ _ hl hm h h').mono ?_; rintro e w' ⟨rfl, hb⟩)
  go_ret
  exact ⟨rfl, hb⟩

/-- the order of two marks -/
def ordM (l : List (Int × Int)) (c : Int) (m : List (Int × Int)) (d : Int) : Int := orI (ordP l m) (ordI c d)

set_option maxHeartbeats 1000000 in
theorem order_any (a a' : Option Addr) (cap cap' : Nat) (l m : List (Int × Int)) (c d : Int) (w : World) (hl : l.length ≤ maxLen) (hm : m.length ≤ maxLen) (h : StepsAt w a l) (h' : StepsAt w a' m) :
    Calls Tryz.prog 46 #[.agg #[.slice a l.length cap, .int .i64 c], .agg #[.slice a' m.length cap', .int .i64 d]] w fun e w' => e = .returned (.int .i64 (ordM l c m d)) ∧ Below w.heap.size w w' := by
  go_enter Tryz.func46, Tryz.ntmps46
  go_wp2
  have hb0 : Below w.heap.size w ((w.alloc (Obj.cells #[.slice a l.length cap, .int .i64 c] 46)).alloc (Obj.cells #[.slice a' m.length cap', .int .i64 d] 46)).drew := (((Below.refl _ _).alloc (Nat.le_refl _) _).alloc (by simp) _).drew
  go_region_held3 (fun w' => w'.cell? ⟨w.heap.size, 0, none⟩ = some (.slice a l.length cap) ∧ w'.cell? ⟨w.heap.size, 1, none⟩ = some (.int .i64 c) ∧ w'.cell? ⟨w.heap.size + 1, 0, none⟩ = some (.slice a' m.length cap') ∧ w'.cell? ⟨w.heap.size + 1, 1, none⟩ = some (.int .i64 d)) (go_keep)
    (first | (go_at_call 86; refine (compare_any _ _ _).mono ?_; rintro e w' ⟨rfl, rfl⟩) | (go_at_call 71; refine (orderPaths_any _ _ _ _ _ _ _ hl hm (by exact h.below hb0 (Nat.le_refl _)) (by exact h'.below hb0 (Nat.le_refl _))).mono ?_; rintro e w' ⟨rfl, hb⟩; have q0 : w'.cell? ⟨w.heap.size, 0, none⟩ = some (.slice a l.length cap) := ((bcell hb).1 _ _ (by simp; omega)).trans (by go_simp); have q1 : w'.cell? ⟨w.heap.size, 1, none⟩ = some (.int .i64 c) := ((bcell hb).1 _ _ (by simp; omega)).trans (by go_simp); have q2 : w'.cell? ⟨w.heap.size + 1, 0, none⟩ = some (.slice a' m.length cap') := ((bcell hb).1 _ _ (by simp)).trans (by go_simp); have q3 : w'.cell? ⟨w.heap.size + 1, 1, none⟩ = some (.int .i64 d) := ((bcell hb).1 _ _ (by simp)).trans (by go_simp)) | (go_at_call 85; refine (or_any _ _ (ordP l m) (ordI c d) _ (by go_simp) (by go_simp)).mono ?_; rintro e w' ⟨rfl, rfl⟩))
  go_wp2
  go_ret
  have hb1 : Below w.heap.size w w' := hb0.thru hb (by simp; omega)
  exact ⟨rfl, hb1.alloc hb1.size _⟩

end Go.Proofs.YtnhjebdlcbhkcacGreat
