/- Contract of mark.Check. -/
import Derived.Test.YtnhjebdlcbhkcagCheckC
import Derived.Deep.RegionHeld3
import Derived.BigRegion
namespace Go.Proofs.Ytnhjebdlcbhkcag
open Go.RowKit

def lastS (l : List (Int × Int)) : Int × Int := l.getD (l.length - 1) (0, 0)
/-- what Check of a mark answers -/
def chk (l : List (Int × Int)) (c : Int) : Int :=
  if 10 < l.length then 2 else if l.length = 0 then 1 else if okSteps l && (lastS l).1 != 0 && inB c 1 10000 then 0 else 3

theorem _root_.Go.RowKit.Below.thru {B : Nat} {a w w' : World} (h : Below B a w) (hb : Below w.heap.size w w') (hB : B ≤ w.heap.size) : Below B a w' := h.trans (hb.mono hB)

theorem bcell {W w1 : World} (hb : Below W.heap.size W w1) : (∀ b o, b < W.heap.size → w1.cell? ⟨b, o, none⟩ = W.cell? ⟨b, o, none⟩) ∧ (∀ b o, b < W.heap.size → w1.frozen? ⟨b, o, none⟩ = W.frozen? ⟨b, o, none⟩) :=
  ⟨fun b o h => hb.cell (p := ⟨b, o, none⟩) h, fun b o h => hb.frozen (p := ⟨b, o, none⟩) h⟩

set_option maxHeartbeats 400000 in
theorem check_any (a : Option Addr) (cap : Nat) (l : List (Int × Int)) (c : Int) (w : World) (hl : l.length ≤ maxLen) (h : StepsAt w a l) :
    Calls Try.prog 37 #[.agg #[.slice a l.length cap, .int .i64 c]] w fun e w' => e = .returned (.int .i64 (chk l c)) ∧ Below w.heap.size w w' := by
  unfold maxLen at hl
  by_cases h10 : 10 < l.length
  · have hd : ((l.length : Int) > 10) := by omega
    go_enter Try.func37, Try.ntmps37
    go_wp2
    go_ret
    exact ⟨ret_int (by simp [chk, h10]), (Below.refl _ _).alloc (Nat.le_refl _) _⟩
  by_cases h0 : l.length = 0
  · go_enter Try.func37, Try.ntmps37
    go_wp2
    go_ret
    exact ⟨ret_int (by simp [chk, h0]), (Below.refl _ _).alloc (Nat.le_refl _) _⟩
  rcases id h with hs | ⟨b, off, rfl, hbl, hc⟩
  · simp [hs] at h0
  have hc0 := (hc (l.length - 1) (by omega)).1
  have HL : Hid (lastS l = l[l.length - 1]) := by show lastS l = l[l.length - 1]; unfold lastS; rw [List.getD_eq_getElem?_getD, List.getElem?_eq_getElem (by omega)]; rfl
  have hbl' : b < w.heap.size + 1 := by omega
  clear hc
  go_enter Try.func37, Try.ntmps37
  go_wp2_with (first | (go_at_call 46; refine (containsFunc_any _ _ _ _ (by unfold maxLen; omega) (by exact h.below ((Below.refl _ _).alloc (Nat.le_refl _) _) (Nat.le_refl _))).mono ?_; rintro e w' ⟨rfl, hb⟩; obtain ⟨hcc, hff⟩ := bcell hb) | (go_at_call 47; refine (isClock_any _ _).mono ?_; rintro e w' ⟨rfl, rfl⟩))
  all_goals
    go_ret
    exact ⟨ret_int (by simp_all [chk, HL.out]), ((Below.refl _ _).alloc (Nat.le_refl _) _).thru hb (by simp)⟩
end Go.Proofs.Ytnhjebdlcbhkcag

namespace Go.Proofs.Ytnhjebdlcbhkcag
open Go.RowKit

def orI (x y : Int) : Int := if x = 0 then y else x

def ordS (s t : Int × Int) : Int := orI (ordI s.1 t.1) (ordI s.2 t.2)
/-- the order of two paths -/
def ordP : List (Int × Int) → List (Int × Int) → Int
  | [], [] => 0
  | [], _ :: _ => -1
  | _ :: _, [] => 1
  | s :: l, t :: m => if ordS s t = 0 then ordP l m else ordS s t

/-- the order of two marks -/
def ordM (l : List (Int × Int)) (c : Int) (m : List (Int × Int)) (d : Int) : Int := orI (ordP l m) (ordI c d)

end Go.Proofs.Ytnhjebdlcbhkcag
