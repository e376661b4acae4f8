/- The contract of CaretBack. -/
import Derived.Test.YtcggeeejkgndmadCaretBkP
import Derived.Test.YtcggeeejkgndmadCaretB
import Derived.Test.YtcggeeejkgndmadBegun
namespace Go.Proofs.Ytcggeeejkgndmad
open Go.RowKit

set_option maxRecDepth 100000 in
set_option maxHeartbeats 8000000 in
theorem caretBack_true (a b : Option Addr) (cap cap' : Nat) (l : List At) (g : List (List (Int × Int) × Int)) (x y : Int) (w : World) (hl : l.length ≤ maxLen) (h : AtomsAt w a l) (hG : MarksAt w b g) :
    Calls Try.prog 3 #[.agg #[.slice a l.length cap, .slice b g.length cap'], .int .i64 x, .int .i64 y] w fun e w' => e = .returned (.bool true) ∧ Below w.heap.size w w' := by
  have hB := (Below.refl w.heap.size w).alloc (Nat.le_refl _) (Obj.cells #[.slice a l.length cap, .slice b g.length cap'] 25)
  have q0 : (w.alloc (Obj.cells #[.slice a l.length cap, .slice b g.length cap'] 25)).cell? ⟨w.heap.size, 0, none⟩ = some (.slice a l.length cap) := by simp
  have q1 : (w.alloc (Obj.cells #[.slice a l.length cap, .slice b g.length cap'] 25)).cell? ⟨w.heap.size, 1, none⟩ = some (.slice b g.length cap') := by simp
  have z : w.heap.size < (w.alloc (Obj.cells #[.slice a l.length cap, .slice b g.length cap'] 25)).heap.size := by simp
  replace h := h.below hB (Nat.le_refl _)
  replace hG := hG.below hB (Nat.le_refl _)
  go_enter Try.func3, Try.ntmps3
  go_upto_region 1 with fail
  generalize w.alloc (Obj.cells #[.slice a l.length cap, .slice b g.length cap'] 25) = W at hB q0 q1 z h hG ⊢
  generalize w.heap.size = Z at q0 q1 z
  go_wp2_with fail
  refine (caretBegun_true _).mono ?_
  rintro e w1 ⟨rfl, hb⟩
  replace q0 := (hb.cell (p := ⟨Z, 0, none⟩) z).trans q0
  replace q1 := (hb.cell (p := ⟨Z, 1, none⟩) z).trans q1
  replace z := Nat.lt_of_lt_of_le z hb.size
  replace h := h.below hb (Nat.le_refl _)
  replace hG := hG.below hb (Nat.le_refl _)
  replace hB := hB.thru hb hB.size
  clear hb
  go_wp2_with fail
  refine (markBegun_true _).mono ?_
  rintro e w2 ⟨rfl, hb⟩
  replace q0 := (hb.cell (p := ⟨Z, 0, none⟩) z).trans q0
  replace q1 := (hb.cell (p := ⟨Z, 1, none⟩) z).trans q1
  replace z := Nat.lt_of_lt_of_le z hb.size
  replace h := h.below hb (Nat.le_refl _)
  replace hG := hG.below hb (Nat.le_refl _)
  replace hB := hB.thru hb hB.size
  clear hb
  go_wp2_with fail
  have hox := fun (W : World) hh hg => caretOf_any a b cap cap' l g x W hl hh hg
  have hoy := fun (W : World) hh hg => caretOf_any a b cap cap' l g y W hl hh hg
  have HX1 := hidE (fun e => of_err (l := l) (g := g) (n := x) e)
  have HX2 := hidE (fun e => at_of (l := l) (g := g) (n := x) e)
  have HXY := hidE (fun e f => ord_of (l := l) (g := g) (a := x) (b := y) e f)
  have HY2 := hidE (fun e => at_of (l := l) (g := g) (n := y) e)
  have hlx := of_len (l := l) (g := g) x
  have hly := of_len (l := l) (g := g) y
  have hmx : 10 ≤ maxLen := by unfold maxLen; omega
  generalize ofL l g x = X at hox HX1 HX2 HXY hlx
  generalize ofL l g y = Y at hoy HY2 HXY hly
  obtain ⟨x1, x2, x3⟩ := X
  obtain ⟨y1, y2, y3⟩ := Y
  simp only at hox hoy HX1 HX2 HXY HY2 hlx hly
  have HOX := hidE hox
  have HOY := hidE hoy
  clear hox hoy
  refine (HOX.out _ h hG).mono ?_
  rintro e w3 ⟨px, cx, rfl, hx, hb⟩
  replace q0 := (hb.cell (p := ⟨Z, 0, none⟩) z).trans q0
  replace q1 := (hb.cell (p := ⟨Z, 1, none⟩) z).trans q1
  replace z := Nat.lt_of_lt_of_le z hb.size
  replace h := h.below hb (Nat.le_refl _)
  replace hG := hG.below hb (Nat.le_refl _)
  replace hB := hB.thru hb hB.size
  clear hb HOX
  go_wp2_with fail
  have hb := (Below.refl w3.heap.size w3).alloc (Nat.le_refl _) (Obj.cells #[.slice px x1.length cx, .int .i64 x2] 29)
  have u0 : (w3.alloc (Obj.cells #[.slice px x1.length cx, .int .i64 x2] 29)).cell? ⟨w3.heap.size, 0, none⟩ = some (.slice px x1.length cx) := by simp
  have u1 : (w3.alloc (Obj.cells #[.slice px x1.length cx, .int .i64 x2] 29)).cell? ⟨w3.heap.size, 1, none⟩ = some (.int .i64 x2) := by simp
  have zu : w3.heap.size < (w3.alloc (Obj.cells #[.slice px x1.length cx, .int .i64 x2] 29)).heap.size := by simp
  replace q0 := (hb.cell (p := ⟨Z, 0, none⟩) z).trans q0
  replace q1 := (hb.cell (p := ⟨Z, 1, none⟩) z).trans q1
  replace z := Nat.lt_of_lt_of_le z hb.size
  replace h := h.below hb (Nat.le_refl _)
  replace hG := hG.below hb (Nat.le_refl _)
  replace hB := hB.thru hb hB.size
  replace hx := hx.below hb (Nat.le_refl _)
  generalize w3.alloc (Obj.cells #[.slice px x1.length cx, .int .i64 x2] 29) = w4 at hb u0 u1 zu q0 q1 z h hG hB hx ⊢
  generalize w3.heap.size = U at u0 u1 zu ⊢
  clear hb
  refine (HOY.out _ h hG).mono ?_
  rintro e w5 ⟨py, cy, rfl, hy, hb⟩
  replace q0 := (hb.cell (p := ⟨Z, 0, none⟩) z).trans q0
  replace q1 := (hb.cell (p := ⟨Z, 1, none⟩) z).trans q1
  replace z := Nat.lt_of_lt_of_le z hb.size
  replace h := h.below hb (Nat.le_refl _)
  replace hG := hG.below hb (Nat.le_refl _)
  replace hB := hB.thru hb hB.size
  replace u0 := (hb.cell (p := ⟨U, 0, none⟩) zu).trans u0
  replace u1 := (hb.cell (p := ⟨U, 1, none⟩) zu).trans u1
  replace zu := Nat.lt_of_lt_of_le zu hb.size
  replace hx := hx.below hb (Nat.le_refl _)
  clear hb HOY
  have hb5 := (Below.refl w5.heap.size w5).alloc (Nat.le_refl _) (Obj.cells #[.slice py y1.length cy, .int .i64 y2] 29)
  have hB5 := hB.thru hb5 hB.size
  by_cases hx3 : x3 = 0
  case neg =>
    have hxb : (x3 != 0) = true := by rw [bne_iff_ne]; exact hx3
    have hxe : (x3 == 0) = false := by rw [beq_eq_false_iff_ne]; exact hx3
    have e1 := HX1.out hx3
    subst e1
    clear hx3
    go_wp2_with fail
    go_ret
    exact ⟨rfl, hB5⟩
  subst hx3
  by_cases hy3 : y3 = 0
  case neg =>
    have hyb : (y3 != 0) = true := by rw [bne_iff_ne]; exact hy3
    clear hy3
    go_wp2_with fail
    go_ret
    exact ⟨rfl, hB5⟩
  subst hy3
  obtain ⟨ex1, ex2⟩ := HX2.out rfl
  obtain ⟨ey1, ey2⟩ := HY2.out rfl
  obtain ⟨o1, o2⟩ := HXY.out rfl rfl
  have EX := hidE (And.intro ex1 ex2)
  have EY := hidE (And.intro ey1 ey2)
  have EO := hidE (And.intro o1 o2)
  clear HX1 HX2 HY2 HXY ex1 ex2 ey1 ey2 o1 o2 hb5 hB5
  go_wp2_with fail
  have hb := (Below.refl w5.heap.size w5).alloc (Nat.le_refl _) (Obj.cells #[.slice py y1.length cy, .int .i64 y2] 29)
  have v0 : (w5.alloc (Obj.cells #[.slice py y1.length cy, .int .i64 y2] 29)).cell? ⟨w5.heap.size, 0, none⟩ = some (.slice py y1.length cy) := by simp
  have v1 : (w5.alloc (Obj.cells #[.slice py y1.length cy, .int .i64 y2] 29)).cell? ⟨w5.heap.size, 1, none⟩ = some (.int .i64 y2) := by simp
  have zv : w5.heap.size < (w5.alloc (Obj.cells #[.slice py y1.length cy, .int .i64 y2] 29)).heap.size := by simp
  replace q0 := (hb.cell (p := ⟨Z, 0, none⟩) z).trans q0
  replace q1 := (hb.cell (p := ⟨Z, 1, none⟩) z).trans q1
  replace z := Nat.lt_of_lt_of_le z hb.size
  replace h := h.below hb (Nat.le_refl _)
  replace hG := hG.below hb (Nat.le_refl _)
  replace hB := hB.thru hb hB.size
  replace u0 := (hb.cell (p := ⟨U, 0, none⟩) zu).trans u0
  replace u1 := (hb.cell (p := ⟨U, 1, none⟩) zu).trans u1
  replace zu := Nat.lt_of_lt_of_le zu hb.size
  replace hx := hx.below hb (Nat.le_refl _)
  replace hy := hy.below hb (Nat.le_refl _)
  generalize w5.alloc (Obj.cells #[.slice py y1.length cy, .int .i64 y2] 29) = w6 at hb u0 u1 zu v0 v1 zv q0 q1 z h hG hB hx hy ⊢
  generalize w5.heap.size = V at v0 v1 zv ⊢
  clear hb
  refine (caretAt_any _ _ _ _ _ _ l g x1 x2 _ hl (by omega) h hG hx).mono ?_
  rintro e w7 ⟨rfl, hb⟩
  rw [EX.out.2, EX.out.1]
  replace q0 := (hb.cell (p := ⟨Z, 0, none⟩) z).trans q0
  replace q1 := (hb.cell (p := ⟨Z, 1, none⟩) z).trans q1
  replace z := Nat.lt_of_lt_of_le z hb.size
  replace h := h.below hb (Nat.le_refl _)
  replace hG := hG.below hb (Nat.le_refl _)
  replace hB := hB.thru hb hB.size
  replace u0 := (hb.cell (p := ⟨U, 0, none⟩) zu).trans u0
  replace u1 := (hb.cell (p := ⟨U, 1, none⟩) zu).trans u1
  replace zu := Nat.lt_of_lt_of_le zu hb.size
  replace v0 := (hb.cell (p := ⟨V, 0, none⟩) zv).trans v0
  replace v1 := (hb.cell (p := ⟨V, 1, none⟩) zv).trans v1
  replace zv := Nat.lt_of_lt_of_le zv hb.size
  replace hx := hx.below hb (Nat.le_refl _)
  replace hy := hy.below hb (Nat.le_refl _)
  clear hb
  go_wp2_with fail
  refine (caretAt_any _ _ _ _ _ _ l g y1 y2 _ hl (by omega) h hG hy).mono ?_
  rintro e w8 ⟨rfl, hb⟩
  rw [EY.out.2, EY.out.1]
  replace q0 := (hb.cell (p := ⟨Z, 0, none⟩) z).trans q0
  replace q1 := (hb.cell (p := ⟨Z, 1, none⟩) z).trans q1
  replace z := Nat.lt_of_lt_of_le z hb.size
  replace h := h.below hb (Nat.le_refl _)
  replace hG := hG.below hb (Nat.le_refl _)
  replace hB := hB.thru hb hB.size
  replace u0 := (hb.cell (p := ⟨U, 0, none⟩) zu).trans u0
  replace u1 := (hb.cell (p := ⟨U, 1, none⟩) zu).trans u1
  replace zu := Nat.lt_of_lt_of_le zu hb.size
  replace v0 := (hb.cell (p := ⟨V, 0, none⟩) zv).trans v0
  replace v1 := (hb.cell (p := ⟨V, 1, none⟩) zv).trans v1
  replace zv := Nat.lt_of_lt_of_le zv hb.size
  replace hx := hx.below hb (Nat.le_refl _)
  replace hy := hy.below hb (Nat.le_refl _)
  clear hb
  go_wp2_with fail
  refine (order_any _ _ _ _ x1 y1 _ _ _ (by omega) (by omega) hx hy).mono ?_
  rintro e w9 ⟨rfl, hb⟩
  replace hB := hB.thru hb hB.size
  generalize ordM x1 x2 y1 y2 = o at EO ⊢
  have E1 : (decide (x < y) == decide (o < 0)) = true := by rw [EO.out.1]; simp
  have E2 : ((x == y) == (o == 0)) = true := by rw [EO.out.2]; simp
  go_wp2_with fail
  go_ret
  exact ⟨rfl, hB⟩
end Go.Proofs.Ytcggeeejkgndmad
