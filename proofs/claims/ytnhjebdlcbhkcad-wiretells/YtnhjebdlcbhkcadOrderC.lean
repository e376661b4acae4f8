/- Contract of mark.Order and of what it calls. -/
import Derived.Test.YtnhjebdlcbhkcadCheckM
import Derived.Deep.RegionHeld3
import Derived.BigRegion
namespace Go.Proofs.Ytnhjebdlcbhkcad
open Go.RowKit

def orI (x y : Int) : Int := if x = 0 then y else x

set_option maxHeartbeats 400000 in
theorem or_any (b cap : Nat) (x y : Int) (w : World) (h0 : w.cell? ⟨b, 0, none⟩ = some (.int .i64 x)) (h1 : w.cell? ⟨b, 1, none⟩ = some (.int .i64 y)) :
    Calls Try.prog 40 #[.slice (some ⟨b, 0, none⟩) 2 cap] w fun e w' => e = .returned (.int .i64 (orI x y)) ∧ w' = w := by
  go_enter Try.func40, Try.ntmps40
  go_wp2
  go_loop [8] (fun i => ∃ k : Nat, k ≤ 2 ∧ i = .int .i64 k ∧ (1 ≤ k → x = 0) ∧ (2 ≤ k → y = 0)) (fun i => 2 - (intOf i).toNat)
  case atStart => exact ⟨0, by omega, rfl, by omega, by omega⟩
  case round =>
    obtain ⟨k, hk, rfl, hx, hy⟩ := hrel
    rcases (show k = 0 ∨ k = 1 ∨ k = 2 by omega) with rfl | rfl | rfl
    · clear hx hy
      by_cases hx : x = 0
      · go_wp2
        go_round
        case rel => exact ⟨1, by omega, by go_num, fun _ => hx, by omega⟩
        case measure => simp [intOf]
      · go_wp2
        go_ret
        exact ⟨ret_int (by simp [orI, hx]), rfl⟩
    · have hx0 := hx (by omega)
      subst hx0
      clear hx hy
      by_cases hy : y = 0
      · go_wp2
        go_round
        case rel => exact ⟨2, by omega, by go_num, fun _ => by simp, fun _ => hy⟩
        case measure => simp [intOf]
      · go_wp2
        go_ret
        exact ⟨ret_int (by simp [orI]), rfl⟩
    · have hx0 := hx (by omega)
      have hy0 := hy (by omega)
      subst hx0
      subst hy0
      clear hx hy
      go_wp2
      go_ret
      exact ⟨ret_int (by simp [orI]), rfl⟩

set_option maxHeartbeats 1000000 in
theorem cmpStep_any (d s d' s' : Int) (w : World) :
    Calls Try.prog 88 #[.agg #[.int .i64 d, .int .i64 s], .agg #[.int .i64 d', .int .i64 s']] w fun e w' => e = .returned (.int .i64 (orI (ordI d d') (ordI s s'))) ∧ Below w.heap.size w w' := by
  go_enter Try.func88, Try.ntmps88
  go_wp2
  go_region_held3 (fun w' => w'.cell? ⟨w.heap.size, 0, none⟩ = some (.int .i64 d) ∧ w'.cell? ⟨w.heap.size, 1, none⟩ = some (.int .i64 s) ∧ w'.cell? ⟨w.heap.size + 1, 0, none⟩ = some (.int .i64 d') ∧ w'.cell? ⟨w.heap.size + 1, 1, none⟩ = some (.int .i64 s')) (go_keep)
    (first | (go_at_call 42; refine (compare_any _ _ _).mono ?_; rintro e w' ⟨rfl, rfl⟩) | (go_at_call 40; refine (or_any _ _ (ordI d d') (ordI s s') _ (by go_simp) (by go_simp)).mono ?_; rintro e w' ⟨rfl, rfl⟩))
  go_wp2
  go_ret
  exact ⟨rfl, ((((Below.refl _ _).alloc (Nat.le_refl _) _).alloc (by simp) _).alloc (by simp; omega) _).drew⟩

def ordS (s t : Int × Int) : Int := orI (ordI s.1 t.1) (ordI s.2 t.2)
/-- the order of two paths -/
def ordP : List (Int × Int) → List (Int × Int) → Int
  | [], [] => 0
  | [], _ :: _ => -1
  | _ :: _, [] => 1
  | s :: l, t :: m => if ordS s t = 0 then ordP l m else ordS s t

set_option maxHeartbeats 1000000 in
theorem compareFunc_any (a a' : Option Addr) (cap cap' : Nat) (l m : List (Int × Int)) (w : World) (hl : l.length ≤ maxLen) (hm : m.length ≤ maxLen) (h : StepsAt w a l) (h' : StepsAt w a' m) :
    Calls Try.prog 87 #[.slice a l.length cap, .slice a' m.length cap', .func (.func 88) #[] #[]] w fun e w' => e = .returned (.int .i64 (ordP l m)) ∧ Below w.heap.size w w' := by
  unfold maxLen at hl
  have _hm := hm
  go_enter Try.func87, Try.ntmps87
  go_wp2
  go_loopw [13] (fun i wr => ∃ k : Nat, k ≤ l.length ∧ k ≤ m.length ∧ i = .int .i64 k ∧ ordP (l.drop k) (m.drop k) = ordP l m ∧ Below w.heap.size w wr) (fun i _ => l.length - (intOf i).toNat)
  case atStart => exact ⟨0, Nat.zero_le _, Nat.zero_le _, rfl, rfl, Below.refl _ _⟩
  case round =>
    obtain ⟨k, hk, hk', rfl, hord, hb⟩ := hrel
    have HO : Hid (ordP (l.drop k) (m.drop k) = ordP l m) := hord
    clear hord
    by_cases hlt : k < l.length
    · have hs := h.below hb (Nat.le_refl _)
      rcases hs with hs | ⟨b, off, rfl, hbl, hc⟩
      · simp [hs] at hlt
      have hc0 := (hc k hlt).1
      have hc1 := (hc k hlt).2
      by_cases hlt' : k < m.length
      · have hs' := h'.below hb (Nat.le_refl _)
        rcases hs' with hs' | ⟨b', off', rfl, hbl', hc'⟩
        · simp [hs'] at hlt'
        have hc0' := (hc' k hlt').1
        have hc1' := (hc' k hlt').2
        have HK : Hid (ordP (l.drop k) (m.drop k) = if ordS l[k] m[k] = 0 then ordP (l.drop (k + 1)) (m.drop (k + 1)) else ordS l[k] m[k]) := by
          show _ = _
          rw [List.drop_eq_getElem_cons hlt, List.drop_eq_getElem_cons hlt']; rfl
        have HS : Hid (ordS l[k] m[k] = orI (ordI l[k].1 m[k].1) (ordI l[k].2 m[k].2)) := rfl
        clear hc hc' h h'
        generalize l[k].1 = d at hc0 HS
        generalize l[k].2 = s at hc1 HS
        generalize m[k].1 = d' at hc0' HS
        generalize m[k].2 = s' at hc1' HS
        go_wp2_with (go_at_call 88; refine (cmpStep_any _ _ _ _ _).mono ?_; rintro e w' ⟨rfl, hb'⟩)
        · have hne : ¬ ordS l[k] m[k] = 0 := by rw [HS.out]; simp_all
          go_ret
          exact ⟨ret_int (by rw [← HO.out, HK.out, if_neg hne, HS.out]), ((hb.alloc hb.size _).alloc (by have := hb.size; simp; omega) _).thru hb' (by have := hb.size; simp; omega)⟩
        · have hne : ordS l[k] m[k] = 0 := by rw [HS.out]; simp_all
          go_roundw
          case rel => exact ⟨k + 1, by omega, by omega, by go_num, by rw [← HO.out, HK.out, if_pos hne], ((hb.alloc hb.size _).alloc (by have := hb.size; simp; omega) _).thru hb' (by have := hb.size; simp; omega)⟩
          case measure => simp [intOf]; omega
      · go_wp2
        go_ret
        refine ⟨ret_int ?_, hb.alloc hb.size _⟩
        rw [← HO.out, List.drop_eq_getElem_cons hlt, List.drop_eq_nil_of_le (Nat.le_of_not_lt hlt')]; rfl
    · go_wp2
      · go_ret
        refine ⟨ret_int ?_, hb⟩
        have hlt' : k < m.length := by omega
        rw [← HO.out, List.drop_eq_getElem_cons hlt', List.drop_eq_nil_of_le (Nat.le_of_not_lt hlt)]; rfl
      · go_ret
        refine ⟨ret_int ?_, hb⟩
        have hlt' : m.length ≤ k := by omega
        rw [← HO.out, List.drop_eq_nil_of_le hlt', List.drop_eq_nil_of_le (Nat.le_of_not_lt hlt)]; rfl

set_option maxHeartbeats 400000 in
theorem orderPaths_any (a a' : Option Addr) (cap cap' : Nat) (l m : List (Int × Int)) (w : World) (hl : l.length ≤ maxLen) (hm : m.length ≤ maxLen) (h : StepsAt w a l) (h' : StepsAt w a' m) :
    Calls Try.prog 41 #[.slice a l.length cap, .slice a' m.length cap'] w fun e w' => e = .returned (.int .i64 (ordP l m)) ∧ Below w.heap.size w w' := by
  go_enter Try.func41, Try.ntmps41
  go_wp2_with (go_at_call 87; refine (compareFunc_any _ _ _ _ _ _ _ hl hm h h').mono ?_; rintro e w' ⟨rfl, hb⟩)
  go_ret
  exact ⟨rfl, hb⟩

/-- the order of two marks -/
def ordM (l : List (Int × Int)) (c : Int) (m : List (Int × Int)) (d : Int) : Int := orI (ordP l m) (ordI c d)

set_option maxHeartbeats 1000000 in
theorem order_any (a a' : Option Addr) (cap cap' : Nat) (l m : List (Int × Int)) (c d : Int) (w : World) (hl : l.length ≤ maxLen) (hm : m.length ≤ maxLen) (h : StepsAt w a l) (h' : StepsAt w a' m) :
    Calls Try.prog 13 #[.agg #[.slice a l.length cap, .int .i64 c], .agg #[.slice a' m.length cap', .int .i64 d]] w fun e w' => e = .returned (.int .i64 (ordM l c m d)) ∧ Below w.heap.size w w' := by
  go_enter Try.func13, Try.ntmps13
  go_wp2
  have hb0 : Below w.heap.size w ((w.alloc (Obj.cells #[.slice a l.length cap, .int .i64 c] 29)).alloc (Obj.cells #[.slice a' m.length cap', .int .i64 d] 29)).drew := (((Below.refl _ _).alloc (Nat.le_refl _) _).alloc (by simp) _).drew
  go_region_held3 (fun w' => w'.cell? ⟨w.heap.size, 0, none⟩ = some (.slice a l.length cap) ∧ w'.cell? ⟨w.heap.size, 1, none⟩ = some (.int .i64 c) ∧ w'.cell? ⟨w.heap.size + 1, 0, none⟩ = some (.slice a' m.length cap') ∧ w'.cell? ⟨w.heap.size + 1, 1, none⟩ = some (.int .i64 d)) (go_keep)
    (first | (go_at_call 42; refine (compare_any _ _ _).mono ?_; rintro e w' ⟨rfl, rfl⟩) | (go_at_call 41; refine (orderPaths_any _ _ _ _ _ _ _ hl hm (by exact h.below hb0 (Nat.le_refl _)) (by exact h'.below hb0 (Nat.le_refl _))).mono ?_; rintro e w' ⟨rfl, hb⟩; have q0 : w'.cell? ⟨w.heap.size, 0, none⟩ = some (.slice a l.length cap) := ((bcell hb).1 _ _ (by simp; omega)).trans (by go_simp); have q1 : w'.cell? ⟨w.heap.size, 1, none⟩ = some (.int .i64 c) := ((bcell hb).1 _ _ (by simp; omega)).trans (by go_simp); have q2 : w'.cell? ⟨w.heap.size + 1, 0, none⟩ = some (.slice a' m.length cap') := ((bcell hb).1 _ _ (by simp)).trans (by go_simp); have q3 : w'.cell? ⟨w.heap.size + 1, 1, none⟩ = some (.int .i64 d) := ((bcell hb).1 _ _ (by simp)).trans (by go_simp)) | (go_at_call 40; refine (or_any _ _ (ordP l m) (ordI c d) _ (by go_simp) (by go_simp)).mono ?_; rintro e w' ⟨rfl, rfl⟩))
  go_wp2
  go_ret
  have hb1 : Below w.heap.size w w' := hb0.thru hb (by simp; omega)
  exact ⟨rfl, hb1.alloc hb1.size _⟩

end Go.Proofs.Ytnhjebdlcbhkcad
