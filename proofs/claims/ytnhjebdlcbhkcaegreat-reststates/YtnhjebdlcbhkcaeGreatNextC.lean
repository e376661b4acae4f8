/- Contracts of the small functions on numbers (isDigit, isSite, isClock, between, numberOrder, isNaN, Compare). -/
import Derived.Test.YtnhjebdlcbhkcaeGreatRows
import Derived.WalkKit
import Derived.WalkSpells
import Derived.WalkLawsBesides
import Derived.Deep.QuietTactic
import Derived.BigQuiet
import Derived.Deep.RegionHeld3
import Derived.BigRegion
import Derived.Deep.DeepCutAuto
namespace Go.Proofs.YtnhjebdlcbhkcaeGreat
open Go.RowKit

def inB (n lo hi : Int) : Bool := decide (lo ≤ n) && decide (n ≤ hi)
def ordI (a b : Int) : Int := if a < b then -1 else if b < a then 1 else 0

set_option maxHeartbeats 400000 in
theorem isDigit_any (n : Int) (w : World) :
    Calls Tryz.prog 152 #[.int .i64 n] w fun e w' => e = .returned (.bool (inB n 0 200)) ∧ w' = w := by
  by_cases h1 : 0 ≤ n <;> by_cases h2 : n ≤ 200
  all_goals
    go_enter Tryz.func152, Tryz.ntmps152
    go_wp2
    go_ret
    exact ⟨by simp [inB, h1, h2], rfl⟩

set_option maxHeartbeats 400000 in
theorem isSite_any (n : Int) (w : World) :
    Calls Tryz.prog 143 #[.int .i64 n] w fun e w' => e = .returned (.bool (inB n 0 4)) ∧ w' = w := by
  by_cases h1 : 0 ≤ n <;> by_cases h2 : n < 5
  all_goals
    go_enter Tryz.func143, Tryz.ntmps143
    go_wp2
    go_ret
    exact ⟨by simp [inB, h1]; omega, rfl⟩

set_option maxHeartbeats 400000 in
theorem isClock_any (n : Int) (w : World) :
    Calls Tryz.prog 144 #[.int .i64 n] w fun e w' => e = .returned (.bool (inB n 1 10000)) ∧ w' = w := by
  by_cases h1 : 1 ≤ n <;> by_cases h2 : n ≤ 10000
  all_goals
    go_enter Tryz.func144, Tryz.ntmps144
    go_wp2
    go_ret
    exact ⟨by simp [inB, h1, h2], rfl⟩

set_option maxHeartbeats 400000 in
theorem between_any (n lo hi : Int) (w : World) :
    Calls Tryz.prog 101 #[.int .i64 n, .int .i64 lo, .int .i64 hi] w fun e w' => e = .returned (.bool (inB n lo hi)) ∧ w' = w := by
  by_cases h1 : lo ≤ n <;> by_cases h2 : n ≤ hi
  all_goals
    go_enter Tryz.func101, Tryz.ntmps101
    go_wp2
    go_ret
    exact ⟨by simp [inB, h1, h2], rfl⟩

set_option maxHeartbeats 400000 in
theorem numberOrder_any (a b : Int) (w : World) :
    Calls Tryz.prog 177 #[.int .i64 a, .int .i64 b] w fun e w' => e = .returned (.int .i64 (ordI a b)) ∧ w' = w := by
  by_cases h1 : a < b <;> by_cases h2 : b < a
  all_goals
    go_enter Tryz.func177, Tryz.ntmps177
    go_wp2
    go_ret
    exact ⟨congrArg (fun z => Ending.returned (.int .i64 z)) (by unfold ordI; repeat (first | omega | split)), rfl⟩

set_option maxHeartbeats 400000 in
theorem isNaN_any (a : Int) (w : World) :
    Calls Tryz.prog 207 #[.int .i64 a] w fun e w' => e = .returned (.bool false) ∧ w' = w := by
  go_enter Tryz.func207, Tryz.ntmps207
  go_wp2
  go_ret
  exact ⟨by simp, rfl⟩

set_option maxHeartbeats 400000 in
theorem compare_any (a b : Int) (w : World) :
    Calls Tryz.prog 155 #[.int .i64 a, .int .i64 b] w fun e w' => e = .returned (.int .i64 (ordI a b)) ∧ w' = w := by
  by_cases h1 : a < b <;> by_cases h2 : b < a
  all_goals
    go_enter Tryz.func155, Tryz.ntmps155
    go_wp2_with (go_at_call 207; refine (isNaN_any _ _).mono ?_; rintro e w' ⟨rfl, rfl⟩)
    go_ret
    exact ⟨congrArg (fun z => Ending.returned (.int .i64 z)) (by unfold ordI; repeat (first | omega | split)), rfl⟩

end Go.Proofs.YtnhjebdlcbhkcaeGreat

namespace Go.Proofs.YtnhjebdlcbhkcaeGreat
open Go.RowKit

theorem ret_bool {a b : Bool} (h : a = b) : Ending.returned (.bool a) = .returned (.bool b) := by rw [h]
theorem ret_int {k : IntKind} {a b : Int} (h : a = b) : Ending.returned (.int k a) = .returned (.int k b) := by rw [h]

def okStep (s : Int × Int) : Bool := inB s.1 0 200 && inB s.2 0 4

def StepsAt (w : World) (a : Option Addr) (l : List (Int × Int)) : Prop :=
  l = [] ∨ ∃ b off, a = some ⟨b, off, none⟩ ∧ b < w.heap.size ∧ ∀ i (h : i < l.length), w.cell? ⟨b, off + i * 2, none⟩ = some (.int .i64 l[i].1) ∧ w.cell? ⟨b, off + i * 2 + 1, none⟩ = some (.int .i64 l[i].2)

theorem StepsAt.below {w w' : World} {a : Option Addr} {l : List (Int × Int)} {B : Nat} (h : StepsAt w a l) (hb : Below B w w') (hB : w.heap.size ≤ B) : StepsAt w' a l := by
  rcases h with h | ⟨b, off, rfl, hlt, hc⟩
  · exact Or.inl h
  · refine Or.inr ⟨b, off, rfl, Nat.lt_of_lt_of_le hlt hb.size, fun i hi => ?_⟩
    rw [hb.cell (show (⟨b, off + i * 2, none⟩ : Addr).block < B from by show b < B; omega), hb.cell (show (⟨b, off + i * 2 + 1, none⟩ : Addr).block < B from by show b < B; omega)]
    exact hc i hi

set_option maxHeartbeats 400000 in
theorem wrong_any (d s : Int) (w : World) :
    Calls Tryz.prog 151 #[.agg #[.int .i64 d, .int .i64 s]] w fun e w' => e = .returned (.bool (!okStep (d, s))) ∧ Below w.heap.size w w' := by
  go_enter Tryz.func151, Tryz.ntmps151
  go_wp2_with (first | (go_at_call 152; refine (isDigit_any _ _).mono ?_; rintro e w' ⟨rfl, rfl⟩) | (go_at_call 143; refine (isSite_any _ _).mono ?_; rintro e w' ⟨rfl, rfl⟩))
  all_goals
    go_ret
    exact ⟨by simp_all [okStep], (Below.refl _ _).alloc (Nat.le_refl _) _⟩

set_option maxHeartbeats 400000 in
theorem indexFunc_any (a : Option Addr) (cap : Nat) (l : List (Int × Int)) (w : World) (hl : l.length ≤ maxLen) (h : StepsAt w a l) :
    Calls Tryz.prog 206 #[.slice a l.length cap, .func (.func 151) #[] #[]] w fun e w' => (∃ r : Int, e = .returned (.int .i64 r) ∧ (0 ≤ r ↔ l.any (fun s => !okStep s) = true)) ∧ Below w.heap.size w w' := by
  unfold maxLen at hl
  go_enter Tryz.func206, Tryz.ntmps206
  go_wp2
  go_loopw [8] (fun i wr => ∃ k : Nat, k ≤ l.length ∧ i = .int .i64 k ∧ (∀ j (hj : j < l.length), j < k → okStep l[j] = true) ∧ Below w.heap.size w wr) (fun i _ => l.length - (intOf i).toNat)
  case atStart => exact ⟨0, Nat.zero_le _, rfl, fun j _ hj => absurd hj (Nat.not_lt_zero _), Below.refl _ _⟩
  case round =>
    obtain ⟨k, hk, rfl, hall, hb⟩ := hrel
    by_cases hlt : k < l.length
    · have hs := h.below hb (Nat.le_refl _)
      rcases hs with hs | ⟨b, off, rfl, hbl, hc⟩
      · simp [hs] at hlt
      have hc0 := (hc k hlt).1
      have hc1 := (hc k hlt).2
      clear hc h
      generalize hd : l[k].1 = d at hc0
      generalize hs : l[k].2 = s at hc1
      have HK : Hid (okStep l[k] = okStep (d, s)) := by show okStep l[k] = okStep (d, s); rw [← hd, ← hs]
      clear hd hs
      go_wp2_with (go_at_call 151; refine (wrong_any _ _ _).mono ?_; rintro e w' ⟨rfl, hb'⟩)
      · have hno : okStep (d, s) = false := by simp_all
        go_ret
        refine ⟨⟨_, rfl, ?_⟩, hb.trans (hb'.mono hb.size)⟩
        have : l.any (fun s => !okStep s) = true := List.any_eq_true.2 ⟨l[k], List.getElem_mem hlt, by rw [HK.out, hno]; rfl⟩
        simp [this]
      · have hyes : okStep (d, s) = true := by simp_all
        go_roundw
        case rel =>
          refine ⟨k + 1, by omega, by go_num, fun j hj hjk => ?_, hb.trans (hb'.mono hb.size)⟩
          by_cases e : j = k
          · subst e; rw [HK.out, hyes]
          · exact hall j hj (by omega)
        case measure => simp [intOf]; omega
    · go_wp2
      go_ret
      refine ⟨⟨_, rfl, ?_⟩, hb⟩
      have : l.any (fun s => !okStep s) = false := by
        rw [List.any_eq_false]
        intro x hx
        obtain ⟨i, hi, rfl⟩ := List.getElem_of_mem hx
        simp [hall i hi (by omega)]
      simp [this]

def okSteps (l : List (Int × Int)) : Bool := l.all okStep

set_option maxHeartbeats 400000 in
theorem containsFunc_any (a : Option Addr) (cap : Nat) (l : List (Int × Int)) (w : World) (hl : l.length ≤ maxLen) (h : StepsAt w a l) :
    Calls Tryz.prog 153 #[.slice a l.length cap, .func (.func 151) #[] #[]] w fun e w' => e = .returned (.bool (!okSteps l)) ∧ Below w.heap.size w w' := by
  go_enter Tryz.func153, Tryz.ntmps153
  go_wp2_with (go_at_call 206; refine (indexFunc_any _ _ _ _ hl h).mono ?_; rintro e w' ⟨⟨r, rfl, hr⟩, hb⟩)
  go_ret
  refine ⟨ret_bool ?_, hb⟩
  rw [Bool.eq_iff_iff]
  simp only [decide_eq_true_eq, ge_iff_le]
  rw [hr]
  simp [okSteps]
end Go.Proofs.YtnhjebdlcbhkcaeGreat

namespace Go.Proofs.YtnhjebdlcbhkcaeGreat
open Go.RowKit

def lastS (l : List (Int × Int)) : Int × Int := l.getD (l.length - 1) (0, 0)
def chk (l : List (Int × Int)) (c : Int) : Int :=
  if 10 < l.length then 2 else if l.length = 0 then 1 else if okSteps l && (lastS l).1 != 0 && inB c 1 10000 then 0 else 3

theorem _root_.Go.RowKit.Below.thru {B : Nat} {a w w' : World} (h : Below B a w) (hb : Below w.heap.size w w') (hB : B ≤ w.heap.size) : Below B a w' := h.trans (hb.mono hB)

theorem bcell {W w1 : World} (hb : Below W.heap.size W w1) : (∀ b o, b < W.heap.size → w1.cell? ⟨b, o, none⟩ = W.cell? ⟨b, o, none⟩) ∧ (∀ b o, b < W.heap.size → w1.frozen? ⟨b, o, none⟩ = W.frozen? ⟨b, o, none⟩) :=
  ⟨fun b o h => hb.cell (p := ⟨b, o, none⟩) h, fun b o h => hb.frozen (p := ⟨b, o, none⟩) h⟩

set_option maxHeartbeats 400000 in
theorem check_any (a : Option Addr) (cap : Nat) (l : List (Int × Int)) (c : Int) (w : World) (hl : l.length ≤ maxLen) (h : StepsAt w a l) :
    Calls Tryz.prog 60 #[.agg #[.slice a l.length cap, .int .i64 c]] w fun e w' => e = .returned (.int .i64 (chk l c)) ∧ Below w.heap.size w w' := by
  unfold maxLen at hl
  by_cases h10 : 10 < l.length
  · have hd : ((l.length : Int) > 10) := by omega
    go_enter Tryz.func60, Tryz.ntmps60
    go_wp2
    go_ret
    exact ⟨ret_int (by simp [chk, h10]), (Below.refl _ _).alloc (Nat.le_refl _) _⟩
  by_cases h0 : l.length = 0
  · go_enter Tryz.func60, Tryz.ntmps60
    go_wp2
    go_ret
    exact ⟨ret_int (by simp [chk, h0]), (Below.refl _ _).alloc (Nat.le_refl _) _⟩
  rcases id h with hs | ⟨b, off, rfl, hbl, hc⟩
  · simp [hs] at h0
  have hc0 := (hc (l.length - 1) (by omega)).1
  have HL : Hid (lastS l = l[l.length - 1]) := by show lastS l = l[l.length - 1]; unfold lastS; rw [List.getD_eq_getElem?_getD, List.getElem?_eq_getElem (by omega)]; rfl
  have hbl' : b < w.heap.size + 1 := by omega
  clear hc
  go_enter Tryz.func60, Tryz.ntmps60
  go_wp2_with (first | (go_at_call 153; refine (containsFunc_any _ _ _ _ (by unfold maxLen; omega) (by exact h.below ((Below.refl _ _).alloc (Nat.le_refl _) _) (Nat.le_refl _))).mono ?_; rintro e w' ⟨rfl, hb⟩; obtain ⟨hcc, hff⟩ := bcell hb) | (go_at_call 144; refine (isClock_any _ _).mono ?_; rintro e w' ⟨rfl, rfl⟩))
  all_goals
    go_ret
    exact ⟨ret_int (by simp_all [chk, HL.out]), ((Below.refl _ _).alloc (Nat.le_refl _) _).thru hb (by simp)⟩
end Go.Proofs.YtnhjebdlcbhkcaeGreat

namespace Go.Proofs.YtnhjebdlcbhkcaeGreat
open Go.RowKit

def orI (x y : Int) : Int := if x = 0 then y else x

set_option maxHeartbeats 400000 in
theorem or_any (b cap : Nat) (x y : Int) (w : World) (h0 : w.cell? ⟨b, 0, none⟩ = some (.int .i64 x)) (h1 : w.cell? ⟨b, 1, none⟩ = some (.int .i64 y)) :
    Calls Tryz.prog 154 #[.slice (some ⟨b, 0, none⟩) 2 cap] w fun e w' => e = .returned (.int .i64 (orI x y)) ∧ w' = w := by
  go_enter Tryz.func154, Tryz.ntmps154
  go_wp2
  go_loop [8] (fun i => ∃ k : Nat, k ≤ 2 ∧ i = .int .i64 k ∧ (1 ≤ k → x = 0) ∧ (2 ≤ k → y = 0)) (fun i => 2 - (intOf i).toNat)
  case atStart => exact ⟨0, by omega, rfl, by omega, by omega⟩
  case round =>
    obtain ⟨k, hk, rfl, hx, hy⟩ := hrel
    rcases (show k = 0 ∨ k = 1 ∨ k = 2 by omega) with rfl | rfl | rfl
    · clear hx hy
      by_cases hx : x = 0
      · go_wp2
        go_round
        case rel => exact ⟨1, by omega, by go_num, fun _ => hx, by omega⟩
        case measure => simp [intOf]
      · go_wp2
        go_ret
        exact ⟨ret_int (by simp [orI, hx]), rfl⟩
    · have hx0 := hx (by omega)
      subst hx0
      clear hx hy
      by_cases hy : y = 0
      · go_wp2
        go_round
        case rel => exact ⟨2, by omega, by go_num, fun _ => by simp, fun _ => hy⟩
        case measure => simp [intOf]
      · go_wp2
        go_ret
        exact ⟨ret_int (by simp [orI]), rfl⟩
    · have hx0 := hx (by omega)
      have hy0 := hy (by omega)
      subst hx0
      subst hy0
      clear hx hy
      go_wp2
      go_ret
      exact ⟨ret_int (by simp [orI]), rfl⟩

set_option maxHeartbeats 1000000 in
theorem cmpStep_any (d s d' s' : Int) (w : World) :
    Calls Tryz.prog 202 #[.agg #[.int .i64 d, .int .i64 s], .agg #[.int .i64 d', .int .i64 s']] w fun e w' => e = .returned (.int .i64 (orI (ordI d d') (ordI s s'))) ∧ Below w.heap.size w w' := by
  go_enter Tryz.func202, Tryz.ntmps202
  go_wp2
  go_region_held3 (fun w' => w'.cell? ⟨w.heap.size, 0, none⟩ = some (.int .i64 d) ∧ w'.cell? ⟨w.heap.size, 1, none⟩ = some (.int .i64 s) ∧ w'.cell? ⟨w.heap.size + 1, 0, none⟩ = some (.int .i64 d') ∧ w'.cell? ⟨w.heap.size + 1, 1, none⟩ = some (.int .i64 s')) (go_keep)
    (first | (go_at_call 155; refine (compare_any _ _ _).mono ?_; rintro e w' ⟨rfl, rfl⟩) | (go_at_call 154; refine (or_any _ _ (ordI d d') (ordI s s') _ (by go_simp) (by go_simp)).mono ?_; rintro e w' ⟨rfl, rfl⟩))
  go_wp2
  go_ret
  exact ⟨rfl, ((((Below.refl _ _).alloc (Nat.le_refl _) _).alloc (by simp) _).alloc (by simp; omega) _).drew⟩

def ordS (s t : Int × Int) : Int := orI (ordI s.1 t.1) (ordI s.2 t.2)
def ordP : List (Int × Int) → List (Int × Int) → Int
  | [], [] => 0
  | [], _ :: _ => -1
  | _ :: _, [] => 1
  | s :: l, t :: m => if ordS s t = 0 then ordP l m else ordS s t

set_option maxHeartbeats 1000000 in
theorem compareFunc_any (a a' : Option Addr) (cap cap' : Nat) (l m : List (Int × Int)) (w : World) (hl : l.length ≤ maxLen) (hm : m.length ≤ maxLen) (h : StepsAt w a l) (h' : StepsAt w a' m) :
    Calls Tryz.prog 201 #[.slice a l.length cap, .slice a' m.length cap', .func (.func 202) #[] #[]] w fun e w' => e = .returned (.int .i64 (ordP l m)) ∧ Below w.heap.size w w' := by
  unfold maxLen at hl
  have _hm := hm
  go_enter Tryz.func201, Tryz.ntmps201
  go_wp2
  go_loopw [13] (fun i wr => ∃ k : Nat, k ≤ l.length ∧ k ≤ m.length ∧ i = .int .i64 k ∧ ordP (l.drop k) (m.drop k) = ordP l m ∧ Below w.heap.size w wr) (fun i _ => l.length - (intOf i).toNat)
  case atStart => exact ⟨0, Nat.zero_le _, Nat.zero_le _, rfl, rfl, Below.refl _ _⟩
  case round =>
    obtain ⟨k, hk, hk', rfl, hord, hb⟩ := hrel
    have HO : Hid (ordP (l.drop k) (m.drop k) = ordP l m) := hord
    clear hord
    by_cases hlt : k < l.length
    · have hs := h.below hb (Nat.le_refl _)
      rcases hs with hs | ⟨b, off, rfl, hbl, hc⟩
      · simp [hs] at hlt
      have hc0 := (hc k hlt).1
      have hc1 := (hc k hlt).2
      by_cases hlt' : k < m.length
      · have hs' := h'.below hb (Nat.le_refl _)
        rcases hs' with hs' | ⟨b', off', rfl, hbl', hc'⟩
        · simp [hs'] at hlt'
        have hc0' := (hc' k hlt').1
        have hc1' := (hc' k hlt').2
        have HK : Hid (ordP (l.drop k) (m.drop k) = if ordS l[k] m[k] = 0 then ordP (l.drop (k + 1)) (m.drop (k + 1)) else ordS l[k] m[k]) := by
          show _ = _
          rw [List.drop_eq_getElem_cons hlt, List.drop_eq_getElem_cons hlt']; rfl
        have HS : Hid (ordS l[k] m[k] = orI (ordI l[k].1 m[k].1) (ordI l[k].2 m[k].2)) := rfl
        clear hc hc' h h'
        generalize l[k].1 = d at hc0 HS
        generalize l[k].2 = s at hc1 HS
        generalize m[k].1 = d' at hc0' HS
        generalize m[k].2 = s' at hc1' HS
        go_wp2_with (go_at_call 202; refine (cmpStep_any _ _ _ _ _).mono ?_; rintro e w' ⟨rfl, hb'⟩)
        · have hne : ¬ ordS l[k] m[k] = 0 := by rw [HS.out]; simp_all
          go_ret
          exact ⟨ret_int (by rw [← HO.out, HK.out, if_neg hne, HS.out]), ((hb.alloc hb.size _).alloc (by have := hb.size; simp; omega) _).thru hb' (by have := hb.size; simp; omega)⟩
        · have hne : ordS l[k] m[k] = 0 := by rw [HS.out]; simp_all
          go_roundw
          case rel => exact ⟨k + 1, by omega, by omega, by go_num, by rw [← HO.out, HK.out, if_pos hne], ((hb.alloc hb.size _).alloc (by have := hb.size; simp; omega) _).thru hb' (by have := hb.size; simp; omega)⟩
          case measure => simp [intOf]; omega
      · go_wp2
        go_ret
        refine ⟨ret_int ?_, hb.alloc hb.size _⟩
        rw [← HO.out, List.drop_eq_getElem_cons hlt, List.drop_eq_nil_of_le (Nat.le_of_not_lt hlt')]; rfl
    · go_wp2
      · go_ret
        refine ⟨ret_int ?_, hb⟩
        have hlt' : k < m.length := by omega
        rw [← HO.out, List.drop_eq_getElem_cons hlt', List.drop_eq_nil_of_le (Nat.le_of_not_lt hlt)]; rfl
      · go_ret
        refine ⟨ret_int ?_, hb⟩
        have hlt' : m.length ≤ k := by omega
        rw [← HO.out, List.drop_eq_nil_of_le hlt', List.drop_eq_nil_of_le (Nat.le_of_not_lt hlt)]; rfl

set_option maxHeartbeats 400000 in
theorem orderPaths_any (a a' : Option Addr) (cap cap' : Nat) (l m : List (Int × Int)) (w : World) (hl : l.length ≤ maxLen) (hm : m.length ≤ maxLen) (h : StepsAt w a l) (h' : StepsAt w a' m) :
    Calls Tryz.prog 145 #[.slice a l.length cap, .slice a' m.length cap'] w fun e w' => e = .returned (.int .i64 (ordP l m)) ∧ Below w.heap.size w w' := by
  go_enter Tryz.func145, Tryz.ntmps145
  go_wp2_with (go_at_call 201; refine (compareFunc_any _ _ _ _ _ _ _ hl hm h h').mono ?_; rintro e w' ⟨rfl, hb⟩)
  go_ret
  exact ⟨rfl, hb⟩

def ordM (l : List (Int × Int)) (c : Int) (m : List (Int × Int)) (d : Int) : Int := orI (ordP l m) (ordI c d)

set_option maxHeartbeats 1000000 in
theorem order_any (a a' : Option Addr) (cap cap' : Nat) (l m : List (Int × Int)) (c d : Int) (w : World) (hl : l.length ≤ maxLen) (hm : m.length ≤ maxLen) (h : StepsAt w a l) (h' : StepsAt w a' m) :
    Calls Tryz.prog 61 #[.agg #[.slice a l.length cap, .int .i64 c], .agg #[.slice a' m.length cap', .int .i64 d]] w fun e w' => e = .returned (.int .i64 (ordM l c m d)) ∧ Below w.heap.size w w' := by
  go_enter Tryz.func61, Tryz.ntmps61
  go_wp2
  have hb0 : Below w.heap.size w ((w.alloc (Obj.cells #[.slice a l.length cap, .int .i64 c] 42)).alloc (Obj.cells #[.slice a' m.length cap', .int .i64 d] 42)).drew := (((Below.refl _ _).alloc (Nat.le_refl _) _).alloc (by simp) _).drew
  go_region_held3 (fun w' => w'.cell? ⟨w.heap.size, 0, none⟩ = some (.slice a l.length cap) ∧ w'.cell? ⟨w.heap.size, 1, none⟩ = some (.int .i64 c) ∧ w'.cell? ⟨w.heap.size + 1, 0, none⟩ = some (.slice a' m.length cap') ∧ w'.cell? ⟨w.heap.size + 1, 1, none⟩ = some (.int .i64 d)) (go_keep)
    (first | (go_at_call 155; refine (compare_any _ _ _).mono ?_; rintro e w' ⟨rfl, rfl⟩) | (go_at_call 145; refine (orderPaths_any _ _ _ _ _ _ _ hl hm (by exact h.below hb0 (Nat.le_refl _)) (by exact h'.below hb0 (Nat.le_refl _))).mono ?_; rintro e w' ⟨rfl, hb⟩; have q0 : w'.cell? ⟨w.heap.size, 0, none⟩ = some (.slice a l.length cap) := ((bcell hb).1 _ _ (by simp; omega)).trans (by go_simp); have q1 : w'.cell? ⟨w.heap.size, 1, none⟩ = some (.int .i64 c) := ((bcell hb).1 _ _ (by simp; omega)).trans (by go_simp); have q2 : w'.cell? ⟨w.heap.size + 1, 0, none⟩ = some (.slice a' m.length cap') := ((bcell hb).1 _ _ (by simp)).trans (by go_simp); have q3 : w'.cell? ⟨w.heap.size + 1, 1, none⟩ = some (.int .i64 d) := ((bcell hb).1 _ _ (by simp)).trans (by go_simp)) | (go_at_call 154; refine (or_any _ _ (ordP l m) (ordI c d) _ (by go_simp) (by go_simp)).mono ?_; rintro e w' ⟨rfl, rfl⟩))
  go_wp2
  go_ret
  have hb1 : Below w.heap.size w w' := hb0.thru hb (by simp; omega)
  exact ⟨rfl, hb1.alloc hb1.size _⟩

end Go.Proofs.YtnhjebdlcbhkcaeGreat

namespace Go.Proofs.YtnhjebdlcbhkcaeGreat
open Go.RowKit

def flatS (l : List (Int × Int)) : List Value := l.flatMap fun s => [.int .i64 s.1, .int .i64 s.2]
theorem flatS_length (l : List (Int × Int)) : (flatS l).length = l.length * 2 := by
  unfold flatS; induction l with
  | nil => rfl
  | cons s l ih => simp only [List.flatMap_cons, List.length_append, ih, List.length_cons, List.length_nil]; omega
theorem flatS_get (l : List (Int × Int)) : ∀ i (h : i < l.length), (flatS l)[i * 2]? = some (.int .i64 l[i].1) ∧ (flatS l)[i * 2 + 1]? = some (.int .i64 l[i].2) := by
  induction l with
  | nil => intro i h; simp at h
  | cons s l ih =>
    intro i h
    match i with
    | 0 => exact ⟨rfl, rfl⟩
    | i + 1 =>
      have := ih i (by simpa using h)
      have e : (i + 1) * 2 = i * 2 + 2 := by omega
      rw [e]
      exact this
theorem flatS_one (l : List (Int × Int)) : ∀ u ∈ flatS l, u.oneCell' = true := by
  intro u hu
  unfold flatS at hu
  rw [List.mem_flatMap] at hu
  obtain ⟨s, _, hs⟩ := hu
  simp at hs
  rcases hs with rfl | rfl <;> rfl

theorem flatS_set (l : List (Int × Int)) : ∀ i (h : i < l.length) (d : Int), (flatS l).set (i * 2) (.int .i64 d) = flatS (l.set i (d, l[i].2)) := by
  induction l with
  | nil => intro i h; simp at h
  | cons s l ih =>
    intro i h d
    match i with
    | 0 => rfl
    | i + 1 =>
      have := ih i (by simpa using h) d
      have e : (i + 1) * 2 = i * 2 + 2 := by omega
      rw [e]
      show (Value.int .i64 s.1 :: .int .i64 s.2 :: flatS l).set (i * 2 + 2) (.int .i64 d) = _
      simp only [List.set_cons_succ, this, List.getElem_cons_succ]
      rfl

theorem owns_base {w : World} {base base' : Nat} {e : TypeId} {size : Nat} {v : Value} {n : Nat} {xs : List Value} (h : w.ownsRow base e size v n xs) (hb : base' ≤ base) : w.ownsRow base' e size v n xs := by
  obtain ⟨h1, h2⟩ := h
  refine ⟨h1, ?_⟩
  rcases h2 with h2 | ⟨g, cap, cur, hv, hg, r⟩
  · exact Or.inl h2
  · exact Or.inr ⟨g, cap, cur, hv, Nat.le_trans hb hg, r⟩

theorem StepsAt.cells {w : World} {b off : Nat} {l : List (Int × Int)} (h : StepsAt w (some ⟨b, off, none⟩) l) : ∀ j u, (flatS l)[j]? = some u → w.cell? ⟨b, off + j, none⟩ = some u := by
  intro j u hj
  rcases h with rfl | ⟨b', off', he, hlt, hc⟩
  · simp [flatS] at hj
  · simp only [Option.some.injEq, Addr.mk.injEq] at he
    obtain ⟨rfl, rfl, _⟩ := he
    have hjl : j < (flatS l).length := by
      rcases Nat.lt_or_ge j (flatS l).length with h | h
      · exact h
      · rw [List.getElem?_eq_none h] at hj; simp at hj
    rw [flatS_length] at hjl
    have g := flatS_get l (j / 2) (by omega)
    have c := hc (j / 2) (by omega)
    rcases Nat.mod_two_eq_zero_or_one j with h2 | h2
    · have e : j / 2 * 2 = j := by omega
      rw [e] at g c
      rw [g.1] at hj
      rw [← hj]; exact c.1
    · have e : j / 2 * 2 + 1 = j := by omega
      rw [show off + j / 2 * 2 + 1 = off + j from by omega] at c
      rw [e] at g
      rw [g.2] at hj
      rw [← hj]; exact c.2

theorem stepsAt_owns {w : World} {base g n cap : Nat} {l : List (Int × Int)} (h : w.ownsRow base 124 2 (.slice (some ⟨g, 0, none⟩) n cap) n (flatS l)) (hn : n = l.length) : StepsAt w (some ⟨g, 0, none⟩) l := by
  subst hn
  by_cases e : l = []
  · exact Or.inl e
  refine Or.inr ⟨g, 0, rfl, (h.lt g rfl).2, fun i hi => ?_⟩
  have c := flatS_get l i hi
  rw [Nat.zero_add]
  exact ⟨(h.cellAt _ (by omega)).trans c.1, (h.cellAt _ (by omega)).trans c.2⟩

theorem Tryz.info124 : ∃ i, Tryz.prog.info? 124 = some i ∧ i.zero = some (.agg #[.int .i64 0, .int .i64 0]) ∧ i.size = 2 ∧ i.bytes = 16 := by
  have h : (Tryz.prog.info? 124).map (fun i => (i.zero, i.size, i.bytes)) = some (some (.agg #[.int .i64 0, .int .i64 0]), 2, 16) := by kernel_rfl
  rw [Option.map_eq_some_iff] at h
  obtain ⟨i, hi, he⟩ := h
  simp only [Prod.mk.injEq] at he
  exact ⟨i, hi, he⟩

set_option maxHeartbeats 400000 in
theorem clone_any (b off n c : Nat) (l : List (Int × Int)) (w : World) (hn : n = l.length) (hl : l.length ≤ maxLen) (hbig : l.length * 16 ≤ 140737488355328) (h : StepsAt w (some ⟨b, off, none⟩) l) :
    Calls Tryz.prog 97 #[.slice (some ⟨b, off, none⟩) n c] w fun e w' => ∃ g cap, e = .returned (.slice (some ⟨g, 0, none⟩) n cap) ∧ w'.ownsRow w.heap.size 124 2 (.slice (some ⟨g, 0, none⟩) n cap) n (flatS l) ∧ Below w.heap.size w w' := by
  subst hn
  obtain ⟨i0, hi, hz0, hz1, hz2⟩ := Tryz.info124
  have A : Hid (∀ j u, (flatS l)[j]? = some u → w.cell? ⟨b, off + j, none⟩ = some u) := h.cells
  have q22 : ∀ (w : World) (a : Option Addr) (n c n' c' : Nat), (binOp .eql 40 (.slice a n c) (.slice none n' c')).run Tryz.prog w = .ok (.bool a.isNone) w := fun w a n c n' c' => Lib.run_eql_slice_nil w _ _ a n c n' c' Tryz.underlying40
  clear h
  go_enter Tryz.func97, Tryz.ntmps97
  go_wp2_with (at_builtin; refine wpList_append_own _ rfl _ _ 40 rfl w.heap.size 124 i0 (.agg #[.int .i64 0, .int .i64 0]) 2 16 Tryz.underlying40 hi hz0 hz1 hz2 rfl (by decide) _ _ _ rfl (World.ownsRow_made w #[] 0 (Nat.le_refl _) (Nat.zero_le _) (by simp)) ⟨b, off, none⟩ l.length c (flatS l) rfl ?qc1 ?qc2 ?qc3 ?qc4 ?qc5 ?qc6 ?_)
  case qc1 => exact flatS_length l
  case qc2 =>
    intro j u hj
    rw [Addr.add_lit]
    exact Lib.cell?_alloc_some _ (A.out j u hj)
  case qc3 => exact flatS_one l
  case qc4 => rw [Nat.zero_add]; exact hl
  case qc5 => rw [Nat.zero_add]; exact hbig
  case qc6 => simp
  intro v' w1 hown hgrow hnil
  go_wp2
  go_ret
  have hb : Below w.heap.size w w1 := ((Below.refl _ w).alloc (Nat.le_refl _) _).grown hgrow (by simp) (by intro k hk; simp [Value.ownBlock] at hk; omega)
  have hown' := hown
  obtain ⟨_, h2⟩ := hown'
  rcases h2 with ⟨h2, _⟩ | ⟨g, cap, cur, hv, _⟩
  · exact absurd h2 hnil
  · subst hv
    exact ⟨g, cap, rfl, hown, hb⟩

def setL (l : List (Int × Int)) (s : Int × Int) : List (Int × Int) := l.set (l.length - 1) s
def bump (l : List (Int × Int)) (n : Int) : List (Int × Int) := setL l ((lastS l).1 + n, (lastS l).2)
def nxt (l : List (Int × Int)) (c n : Int) : List (Int × Int) × Int × Int :=
  if chk l c ≠ 0 then ([], 0, chk l c) else if n < 0 ∨ 60 < n then ([], 0, 3) else if chk (bump l n) (c + n) ≠ 0 then ([], 0, 3) else (bump l n, c + n, 0)

theorem chk_ok {l : List (Int × Int)} {c : Int} (h : chk l c = 0) : 0 < l.length ∧ l.length ≤ 10 ∧ okSteps l = true ∧ (lastS l).1 ≠ 0 ∧ 1 ≤ c ∧ c ≤ 10000 := by
  unfold chk at h
  split at h
  · omega
  · split at h
    · omega
    · split at h
      · rename_i h1 h2 h3
        simp [inB] at h3
        exact ⟨by omega, by omega, h3.1.1, h3.1.2, h3.2.1, h3.2.2⟩
      · omega
theorem lastS_eq {l : List (Int × Int)} (h : 0 < l.length) : lastS l = l[l.length - 1] := by
  unfold lastS; rw [List.getD_eq_getElem?_getD, List.getElem?_eq_getElem (by omega)]; rfl
theorem okSteps_get {l : List (Int × Int)} (h : okSteps l = true) {i : Nat} (hi : i < l.length) : okStep l[i] = true := by
  unfold okSteps at h; rw [List.all_eq_true] at h; exact h _ (List.getElem_mem hi)
theorem okStep_iff {s : Int × Int} : okStep s = true ↔ 0 ≤ s.1 ∧ s.1 ≤ 200 ∧ 0 ≤ s.2 ∧ s.2 ≤ 4 := by
  simp [okStep, inB, and_assoc]

theorem bcellN {B : Nat} {W w1 : World} (hb : Below B W w1) (n : Nat) (hn : n ≤ B) : (∀ b o, b < n → w1.cell? ⟨b, o, none⟩ = W.cell? ⟨b, o, none⟩) ∧ (∀ b o, b < n → w1.frozen? ⟨b, o, none⟩ = W.frozen? ⟨b, o, none⟩) :=
  ⟨fun b o h => hb.cell (p := ⟨b, o, none⟩) (Nat.lt_of_lt_of_le h hn), fun b o h => hb.frozen (p := ⟨b, o, none⟩) (Nat.lt_of_lt_of_le h hn)⟩

def NextGives (w : World) (l : List (Int × Int)) (c n : Int) (e : Ending) (w' : World) : Prop :=
  ∃ a cap, e = .returned (.tuple #[.agg #[.slice a (nxt l c n).1.length cap, .int .i64 (nxt l c n).2.1], .int .i64 (nxt l c n).2.2]) ∧ StepsAt w' a (nxt l c n).1 ∧ Below w.heap.size w w'

def NextGivesO (w : World) (l : List (Int × Int)) (c n : Int) (e : Ending) (w' : World) : Prop :=
  ∃ a cap, e = .returned (.tuple #[.agg #[.slice a (nxt l c n).1.length cap, .int .i64 (nxt l c n).2.1], .int .i64 (nxt l c n).2.2]) ∧ StepsAt w' a (nxt l c n).1 ∧ Below w.heap.size w w' ∧ ((nxt l c n).2.2 = 0 → w'.ownsRow w.heap.size 124 2 (.slice a (nxt l c n).1.length cap) (nxt l c n).1.length (flatS (nxt l c n).1))

theorem owns_below {w w' : World} {base : Nat} {e : TypeId} {size : Nat} {v : Value} {n : Nat} {xs : List Value} (h : w.ownsRow base e size v n xs) (hb : Below w.heap.size w w') : w'.ownsRow base e size v n xs := by
  have hg : w.grownBy w' none := ⟨hb.os, hb.tape, hb.output, hb.size, fun k hk _ => hb.block k hk⟩
  refine h.kept hg ?_
  cases v.ownBlock with
  | none => exact Or.inl rfl
  | some k => exact Or.inr (by simp)

theorem StepsAt.setOld {w : World} {g off : Nat} {l : List (Int × Int)} {p : Addr} {u : Value} (h : StepsAt w (some ⟨g, off, none⟩) l) (hp : g ≠ p.block) : StepsAt (w.setCell p u) (some ⟨g, off, none⟩) l := by
  rcases h with h | ⟨b, o, he, hlt, hc⟩
  · exact Or.inl h
  · simp only [Option.some.injEq, Addr.mk.injEq] at he
    obtain ⟨rfl, rfl, _⟩ := he
    refine Or.inr ⟨g, off, rfl, by simpa [World.setCell] using hlt, fun i hi => ?_⟩
    rw [World.cell?_setCell_other _ _ _ _ (fun e => hp (congrArg Addr.block e).symm), World.cell?_setCell_other _ _ _ _ (fun e => hp (congrArg Addr.block e).symm)]
    exact hc i hi

theorem cell_other {w : World} {b o b' o' : Nat} {u v : Value} (hb : b ≠ b') (h : w.cell? ⟨b, o, none⟩ = some v) : (w.setCell ⟨b', o', none⟩ u).cell? ⟨b, o, none⟩ = some v := by
  rw [World.cell?_setCell_other _ _ _ _ (fun e => hb (congrArg Addr.block e).symm)]; exact h

theorem check_n (a : Option Addr) (cap n : Nat) (l : List (Int × Int)) (c : Int) (w : World) (hn : n = l.length) (hl : l.length ≤ maxLen) (h : StepsAt w a l) :
    Calls Tryz.prog 60 #[.agg #[.slice a n cap, .int .i64 c]] w fun e w' => e = .returned (.int .i64 (chk l c)) ∧ Below w.heap.size w w' := by
  subst hn; exact check_any a cap l c w hl h

set_option maxHeartbeats 1000000 in
theorem next_bad (a : Option Addr) (cap : Nat) (l : List (Int × Int)) (c n : Int) (w : World) (hl : l.length ≤ maxLen) (h : StepsAt w a l) (hbad : chk l c ≠ 0) :
    Calls Tryz.prog 34 #[.agg #[.slice a l.length cap, .int .i64 c], .int .i64 n] w (NextGives w l c n) := by
  have hn : Hid (nxt l c n = ([], 0, chk l c)) := by show _ = _; unfold nxt; rw [if_pos hbad]
  have hx : (chk l c != 0) = true := by rw [bne_iff_ne]; exact hbad
  clear hbad
  go_enter Tryz.func34, Tryz.ntmps34
  go_wp2_with (go_at_call 60; refine (check_any _ _ _ _ _ hl (by exact h.below (((Below.refl _ _).alloc (Nat.le_refl _) _).alloc (by simp) _) (Nat.le_refl _))).mono ?_; rintro e w' ⟨rfl, hb⟩; obtain ⟨hcc, hff⟩ := bcellN hb (w.heap.size + 2) (by simp))
  refine bodyPost_ret (v := .tuple #[.agg #[.slice none 0 0, .int .i64 0], .int .i64 (chk l c)]) (by simp [results, Tryz.results34, go_sem, hcc]) rfl ?_
  refine ⟨none, 0, by rw [hn.out]; rfl, Or.inl (by rw [hn.out]), ?_⟩
  exact ((((Below.refl _ _).alloc (Nat.le_refl _) _).alloc (by simp) _).thru hb (by simp; omega)).setCell (by simp) _ |>.setCell (by simp) _

set_option maxHeartbeats 1000000 in
theorem next_range (a : Option Addr) (cap : Nat) (l : List (Int × Int)) (c n : Int) (w : World) (hl : l.length ≤ maxLen) (h : StepsAt w a l) (hok : chk l c = 0) (hr : n < 0 ∨ 60 < n) :
    Calls Tryz.prog 34 #[.agg #[.slice a l.length cap, .int .i64 c], .int .i64 n] w (NextGives w l c n) := by
  have hn : Hid (nxt l c n = ([], 0, 3)) := by show _ = _; unfold nxt; rw [if_neg (by omega), if_pos hr]
  have H0 : Hid (chk l c = 0) := hok
  clear hok
  have hneg : decide (n < 0) = true ∨ decide (n < 0) = false := by cases decide (n < 0) <;> simp
  have h60 : n < 0 ∨ ¬ n < 0 ∧ 60 < n := by omega
  clear hneg hr
  rcases h60 with h60 | ⟨h61, h60⟩
  all_goals
    go_enter Tryz.func34, Tryz.ntmps34
    go_wp2_with (go_at_call 60; refine (check_any _ _ _ _ _ hl (by exact h.below (((Below.refl _ _).alloc (Nat.le_refl _) _).alloc (by simp) _) (Nat.le_refl _))).mono ?_; rintro e w' ⟨rfl, hb⟩; rw [H0.out]; obtain ⟨hcc, hff⟩ := bcellN hb (w.heap.size + 2) (by simp))
    refine bodyPost_ret (v := .tuple #[.agg #[.slice none 0 0, .int .i64 0], .int .i64 3]) (by simp [results, Tryz.results34, go_sem, hcc]) rfl ?_
    refine ⟨none, 0, by rw [hn.out]; rfl, Or.inl (by rw [hn.out]), ?_⟩
    exact ((((Below.refl _ _).alloc (Nat.le_refl _) _).alloc (by simp) _).thru hb (by simp; omega)).setCell (by simp) _ |>.setCell (by simp) _

set_option maxHeartbeats 1000000 in
theorem next_in (b off : Nat) (cap : Nat) (l : List (Int × Int)) (c n : Int) (w : World) (h : StepsAt w (some ⟨b, off, none⟩) l) (hok : chk l c = 0) (h0 : 0 ≤ n) (h60 : n ≤ 60) :
    Calls Tryz.prog 34 #[.agg #[.slice (some ⟨b, off, none⟩) l.length cap, .int .i64 c], .int .i64 n] w (NextGivesO w l c n) := by
  have hn : Hid (nxt l c n = if chk (bump l n) (c + n) ≠ 0 then ([], 0, 3) else (bump l n, c + n, 0)) := by show _ = _; unfold nxt; rw [if_neg (by omega), if_neg (by omega)]
  obtain ⟨hl0, hl10, hoks, _, hc1, hc2⟩ := chk_ok hok
  have hd := okStep_iff.1 (okSteps_get hoks (i := l.length - 1) (by omega))
  have H0 : Hid (chk l c = 0) := hok
  clear hok
  have hml : l.length ≤ maxLen := by unfold maxLen; omega
  go_enter Tryz.func34, Tryz.ntmps34
  go_wp2_with (go_at_call 60; refine (check_any _ _ _ _ _ hml (by exact h.below (((Below.refl _ _).alloc (Nat.le_refl _) _).alloc (by simp) _) (Nat.le_refl _))).mono ?_; rintro e w1 ⟨rfl, hb⟩; rw [H0.out]; obtain ⟨hcc, hff⟩ := bcellN hb (w.heap.size + 2) (by simp))
  have hb1 : Below w.heap.size w w1 := (((Below.refl _ _).alloc (Nat.le_refl _) _).alloc (by simp) _).thru hb (by simp; omega)
  have hz1 : w.heap.size + 2 ≤ w1.heap.size := by have := hb.size; simp at this; omega
  have z1 : w.heap.size < w1.heap.size := by omega
  have z2 : w.heap.size + 1 < w1.heap.size := by omega
  have zn : w.heap.size ≠ w1.heap.size := by omega
  have zn' : w1.heap.size ≠ w.heap.size := by omega
  have q0 : w1.cell? ⟨w.heap.size, 0, none⟩ = some (.slice (some ⟨b, off, none⟩) l.length cap) := by simp [hcc]
  have q1 : w1.cell? ⟨w.heap.size, 1, none⟩ = some (.int .i64 c) := by simp [hcc]
  have q2 : ∀ o, w1.frozen? ⟨w.heap.size + 1, o, none⟩ = false := by intro o; simp [hff]
  have q3 : w1.cell? ⟨w.heap.size + 1, 0, none⟩ = some (.slice none 0 0) := by simp [hcc]
  have q4 : w1.cell? ⟨w.heap.size + 1, 1, none⟩ = some (.int .i64 0) := by simp [hcc]
  clear hcc hff hb
  have hwr : IntKind.i64.wrap (c + n) = c + n := by rw [IntKind.wrap_i64]; omega
  go_cut [7] (fun t wc => ∃ N g cap2, t = .pointer (some ⟨N, 0, none⟩) ∧ w1.heap.size ≤ N ∧ N < wc.heap.size ∧ w1.heap.size ≤ g ∧ g ≠ N ∧ wc.cell? ⟨N, 0, none⟩ = some (.slice (some ⟨g, 0, none⟩) l.length cap2) ∧ wc.cell? ⟨N, 1, none⟩ = some (.int .i64 (c + n)) ∧ wc.ownsRow w1.heap.size 124 2 (.slice (some ⟨g, 0, none⟩) l.length cap2) l.length (flatS l) ∧ Below w1.heap.size w1 wc)
  case first =>
    go_region_held3 (fun w' => w'.cell? ⟨w.heap.size, 0, none⟩ = some (.slice (some ⟨b, off, none⟩) l.length cap) ∧ w'.cell? ⟨w.heap.size, 1, none⟩ = some (.int .i64 c)) (go_keep)
      (first | (go_at_call 97; refine (clone_any _ _ _ _ l _ rfl hml (by omega) (by first | exact h.below hb1.drew (Nat.le_refl _) | exact h.below (hb1.alloc hb1.size _).drew (Nat.le_refl _))).mono ?_; rintro e w2 ⟨g, cap2, rfl, hown, hb2⟩; obtain ⟨hcc, hff⟩ := bcellN hb2 w1.heap.size (by simp); have hcn := (bcell hb2).1 w1.heap.size; have hfn := (bcell hb2).2 w1.heap.size; simp at hcn hfn; have zm : w.heap.size ≠ w2.heap.size := (by have := hb2.size; simp at this; omega); have zm' : w2.heap.size ≠ w.heap.size := zm.symm))
    · go_wp2_with fail
      go_meet
      have hz2 : w1.heap.size ≤ w2.heap.size := by have := hb2.size; simpa using this
      have hg := hown.lt g rfl
      simp at hg
      refine ⟨w2.heap.size, g, cap2, rfl, hz2, by simp, hg.1, by omega, by simp, by simp, (owns_base hown (Nat.le_refl _)).alloc _, ?_⟩
      exact ((Below.refl _ _).drew.thru hb2 (Nat.le_refl _)).alloc hz2 _
    · go_wp2_with fail
      go_meet
      have hz2 : w1.heap.size + 1 ≤ w2.heap.size := by have := hb2.size; simpa using this
      have hg := hown.lt g rfl
      simp at hg
      refine ⟨w1.heap.size, g, cap2, rfl, Nat.le_refl _, by simp [World.setCell]; omega, by omega, by omega, by go_simp, by go_simp, ownsRow_setCell_other (ownsRow_setCell_other (owns_base hown (by simp)) (by simp [Value.ownBlock]; omega) _) (by simp [Value.ownBlock]; omega) _, ?_⟩
      exact ((((Below.refl _ _).alloc (Nat.le_refl _) _).drew.thru hb2 (by simp)).setCell (by simp) _).setCell (by simp) _
  case rest =>
    obtain ⟨N, g, cap2, rfl, hN1, hN2, hg1, hgN, e0, e1, hown, hb2⟩ := hcut
    have hgl := (hown.lt g rfl).2
    have fc := (hown.cellAt ((l.length - 1) * 2) (by omega)).trans (flatS_get l (l.length - 1) (by omega)).1
    have ff := hown.frozenAt ((l.length - 1) * 2)
    have hst := hown.stored ((l.length - 1) * 2) (.int .i64 (l[l.length - 1].1 + n))
    rw [flatS_set l _ (by omega)] at hst
    have hbump : l.set (l.length - 1) (l[l.length - 1].1 + n, l[l.length - 1].2) = bump l n := by unfold bump setL; rw [lastS_eq hl0]
    rw [hbump] at hst
    have hlb : (bump l n).length = l.length := by unfold bump setL; simp
    have HLB : Hid ((bump l n).length = l.length) := hlb
    have hsa := stepsAt_owns hst.1 hlb.symm
    clear hbump hlb
    obtain ⟨hcc, hff⟩ := bcellN hb2 w1.heap.size (Nat.le_refl _)
    have p3 : wc.cell? ⟨w.heap.size + 1, 0, none⟩ = some (.slice none 0 0) := (hcc _ _ z2).trans q3
    have p4 : wc.cell? ⟨w.heap.size + 1, 1, none⟩ = some (.int .i64 0) := (hcc _ _ z2).trans q4
    have p2 : ∀ o, wc.frozen? ⟨w.heap.size + 1, o, none⟩ = false := fun o => (hff _ _ z2).trans (q2 o)
    clear hcc hff q0 q1 q2 q3 q4
    have hgn' : N ≠ g := fun e => hgN e.symm
    have hg2 : w.heap.size + 1 ≠ g := by omega
    have hg3 : g ≠ w.heap.size + 1 := by omega
    have hN3 : N ≠ w.heap.size + 1 := by omega
    have hN4 : w.heap.size + 1 ≠ N := by omega
    obtain ⟨d1, d2, d3, d4⟩ := hd
    generalize l[l.length - 1].1 = dl at fc hst d1 d2 hsa
    have hmlb : (bump l n).length ≤ maxLen := by rw [HLB.out]; exact hml
    by_cases hk : chk (bump l n) (c + n) = 0
    · have hn' : Hid (nxt l c n = (bump l n, c + n, 0)) := by show _ = _; rw [hn.out, if_neg (by omega)]
      have HK : Hid (chk (bump l n) (c + n) = 0) := hk
      clear hk
      go_wp2_with fail
      refine (check_n _ _ _ (bump l n) _ _ HLB.out.symm hmlb hsa).mono ?_
      rintro e w3 ⟨rfl, hb3⟩
      rw [HK.out]
      obtain ⟨hcc, hff⟩ := bcellN hb3 wc.heap.size (by simp [World.setCell])
      have y0 : w3.cell? ⟨N, 0, none⟩ = some (.slice (some ⟨g, 0, none⟩) l.length cap2) := (hcc _ _ hN2).trans (cell_other hgn' e0)
      have y1 : w3.cell? ⟨N, 1, none⟩ = some (.int .i64 (c + n)) := (hcc _ _ hN2).trans (cell_other hgn' e1)
      have y2 : w3.cell? ⟨w.heap.size + 1, 0, none⟩ = some (.slice none 0 0) := (hcc _ _ (by omega)).trans (cell_other hg2 p3)
      have y3 : w3.cell? ⟨w.heap.size + 1, 1, none⟩ = some (.int .i64 0) := (hcc _ _ (by omega)).trans (cell_other hg2 p4)
      have y4 : ∀ o, w3.frozen? ⟨w.heap.size + 1, o, none⟩ = false := fun o => (hff _ _ (by omega)).trans (by simp [p2])
      clear hcc hff
      go_wp2_with fail
      refine bodyPost_ret (v := .tuple #[.agg #[.slice (some ⟨g, 0, none⟩) l.length cap2, .int .i64 (c + n)], .int .i64 0]) (by simp [results, Tryz.results34, go_sem, y2, y3]) rfl ?_
      refine ⟨some ⟨g, 0, none⟩, cap2, by rw [hn'.out]; show _ = Ending.returned (.tuple #[.agg #[.slice _ (bump l n).length _, _], _]); rw [HLB.out], ?_, ?_, ?_⟩
      · rw [hn'.out]
        exact ((hsa.below hb3 (Nat.le_refl _)).setOld (by simp; omega)).setOld (by simp; omega)
      · exact (((((hb1.thru (hb2.mono (Nat.le_refl _)) (by omega)).setCell (by show _ ≤ g; omega) _).thru hb3 (by simp [World.setCell]; omega)).setCell (by simp) _).setCell (by simp) _)
      · intro _
        rw [hn'.out]
        show World.ownsRow _ _ _ _ (.slice _ (bump l n).length _) (bump l n).length (flatS (bump l n))
        rw [HLB.out]
        exact ownsRow_setCell_other (ownsRow_setCell_other (owns_base (owns_below hst.1 hb3) (by omega)) (by simp [Value.ownBlock]; omega) _) (by simp [Value.ownBlock]; omega) _
    · have hn' : Hid (nxt l c n = ([], 0, 3)) := by show _ = _; rw [hn.out, if_pos hk]
      have hk' : (chk (bump l n) (c + n) != 0) = true := by rw [bne_iff_ne]; exact hk
      clear hk
      go_wp2_with fail
      refine (check_n _ _ _ (bump l n) _ _ HLB.out.symm hmlb hsa).mono ?_
      rintro e w3 ⟨rfl, hb3⟩
      obtain ⟨hcc, hff⟩ := bcellN hb3 wc.heap.size (by simp [World.setCell])
      have y2 : w3.cell? ⟨w.heap.size + 1, 0, none⟩ = some (.slice none 0 0) := (hcc _ _ (by omega)).trans (cell_other hg2 p3)
      have y3 : w3.cell? ⟨w.heap.size + 1, 1, none⟩ = some (.int .i64 0) := (hcc _ _ (by omega)).trans (cell_other hg2 p4)
      have y4 : ∀ o, w3.frozen? ⟨w.heap.size + 1, o, none⟩ = false := fun o => (hff _ _ (by omega)).trans (by simp [p2])
      clear hcc hff
      go_wp2_with fail
      refine bodyPost_ret (v := .tuple #[.agg #[.slice none 0 0, .int .i64 0], .int .i64 3]) (by simp [results, Tryz.results34, go_sem, y2, y3]) rfl ?_
      refine ⟨none, 0, by rw [hn'.out]; rfl, Or.inl (by rw [hn'.out]), ?_, fun h => by rw [hn'.out] at h; cases h⟩
      exact (((((hb1.thru (hb2.mono (Nat.le_refl _)) (by omega)).setCell (by show _ ≤ g; omega) _).thru hb3 (by simp [World.setCell]; omega)).setCell (by simp) _).setCell (by simp) _)

theorem next_any (a : Option Addr) (cap : Nat) (l : List (Int × Int)) (c n : Int) (w : World) (hl : l.length ≤ maxLen) (h : StepsAt w a l) :
    Calls Tryz.prog 34 #[.agg #[.slice a l.length cap, .int .i64 c], .int .i64 n] w (NextGives w l c n) := by
  by_cases hok : chk l c = 0
  · by_cases hr : n < 0 ∨ 60 < n
    · exact next_range a cap l c n w hl h hok hr
    · rcases id h with hs | ⟨b, off, rfl, _⟩
      · have := (chk_ok hok).1
        simp [hs] at this
      · refine (next_in b off cap l c n w h hok (by omega) (by omega)).mono ?_
        rintro e w' ⟨a, cap, he, hs, hb, _⟩
        exact ⟨a, cap, he, hs, hb⟩
  · exact next_bad a cap l c n w hl h hok

theorem next_own (b off cap : Nat) (l : List (Int × Int)) (c n : Int) (w : World) (h : StepsAt w (some ⟨b, off, none⟩) l) (hok : chk l c = 0) (h0 : 0 ≤ n) (h60 : n ≤ 60) (hk : chk (bump l n) (c + n) = 0) :
    Calls Tryz.prog 34 #[.agg #[.slice (some ⟨b, off, none⟩) l.length cap, .int .i64 c], .int .i64 n] w fun e w' => ∃ g cap', e = .returned (.tuple #[.agg #[.slice (some ⟨g, 0, none⟩) l.length cap', .int .i64 (c + n)], .int .i64 0]) ∧ w'.ownsRow w.heap.size 124 2 (.slice (some ⟨g, 0, none⟩) l.length cap') l.length (flatS (bump l n)) ∧ Below w.heap.size w w' := by
  have hn : nxt l c n = (bump l n, c + n, 0) := by unfold nxt; rw [if_neg (by omega), if_neg (by omega), if_neg (by omega)]
  have hlb : (bump l n).length = l.length := by unfold bump setL; simp
  refine (next_in b off cap l c n w h hok h0 h60).mono ?_
  rintro e w' ⟨a, cap', he, _, hb, ho⟩
  rw [hn] at he ho
  replace ho := ho rfl
  simp only at he ho
  rw [hlb] at he ho
  have hl := (chk_ok hok).1
  rcases ho.2 with ⟨hc, _⟩ | ⟨g, c2, cur, hv, _⟩
  · simp at hc; omega
  · simp only [Value.slice.injEq, true_and] at hv
    obtain ⟨rfl, rfl⟩ := hv
    exact ⟨g, cap', he, ho, hb⟩

end Go.Proofs.YtnhjebdlcbhkcaeGreat
