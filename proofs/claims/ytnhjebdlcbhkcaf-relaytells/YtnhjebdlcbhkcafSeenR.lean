/- Contracts of package seen: Check, Join, Covers. -/
import Derived.Test.YtnhjebdlcbhkcafIntsC
import Derived.Test.YtnhjebdlcbhkcafOwnsF
import Derived.Laws.AppendOwn
import Derived.Deep.RegionWith
import Derived.Deep.AppendLies
namespace Go.Proofs.Ytnhjebdlcbhkcaf
open Go.RowKit

def orE (x y : Int) : Int := if x ≠ 0 then x else y

set_option maxHeartbeats 400000 in
theorem orE_any (b cap : Nat) (x y : Int) (w : World) (h0 : w.cell? ⟨b, 0, none⟩ = some (.int .i64 x)) (h1 : w.cell? ⟨b, 1, none⟩ = some (.int .i64 y)) :
    Calls Try.prog 13 #[.slice (some ⟨b, 0, none⟩) 2 cap] w fun e w' => e = .returned (.int .i64 (orE x y)) ∧ w' = w := by
  go_enter Try.func13, Try.ntmps13
  go_wp2
  go_loop [8] (fun i => ∃ k : Nat, k ≤ 2 ∧ i = .int .i64 k ∧ (1 ≤ k → x = 0) ∧ (2 ≤ k → y = 0)) (fun i => 2 - (intOf i).toNat)
  case atStart => exact ⟨0, by omega, rfl, by omega, by omega⟩
  case round =>
    obtain ⟨k, hk, rfl, hx, hy⟩ := hrel
    rcases (show k = 0 ∨ k = 1 ∨ k = 2 by omega) with rfl | rfl | rfl
    · clear hx hy
      by_cases hx : x = 0
      · go_wp2
        go_round
        case rel => exact ⟨1, by omega, by go_num, fun _ => hx, by omega⟩
        case measure => simp [intOf]
      · go_wp2
        go_ret
        exact ⟨ret_int (by simp [orE, hx]), rfl⟩
    · have hx0 := hx (by omega)
      subst hx0
      clear hx hy
      by_cases hy : y = 0
      · go_wp2
        go_round
        case rel => exact ⟨2, by omega, by go_num, fun _ => by simp, fun _ => hy⟩
        case measure => simp [intOf]
      · go_wp2
        go_ret
        exact ⟨ret_int (by simp [orE]), rfl⟩
    · have hx0 := hx (by omega)
      have hy0 := hy (by omega)
      subst hx0
      subst hy0
      clear hx hy
      go_wp2
      go_ret
      exact ⟨ret_int (by simp [orE]), rfl⟩

/-- what Check of what was seen answers -/
def chkSeen (l : List Int) : Int := if l.length ≠ 5 then 1 else if okNums l = false then 3 else 0

theorem Try.info3 : ∃ i, Try.prog.info? 3 = some i ∧ i.zero = some (.int .i64 0) ∧ i.size = 1 ∧ i.bytes = 8 := by
  have h : (Try.prog.info? 3).map (fun i => (i.zero, i.size, i.bytes)) = some (some (.int .i64 0), 1, 8) := by kernel_rfl
  rw [Option.map_eq_some_iff] at h
  obtain ⟨i, hi, he⟩ := h
  simp only [Prod.mk.injEq] at he
  exact ⟨i, hi, he⟩

theorem owns_slice {w : World} {base : Nat} {e : TypeId} {size : Nat} {v : Value} {n : Nat} {xs : List Value} (h : w.ownsRow base e size v n xs) : ∃ p cap, v = .slice p n cap := by
  rcases h.2 with ⟨rfl, h0⟩ | ⟨g, cap, cur, rfl, _⟩
  · exact ⟨none, 0, by rw [h0]⟩
  · exact ⟨some ⟨g, 0, none⟩, cap, rfl⟩

/-- a box that holds a row of numbers, which is the call's own -/
structure BoxI (w : World) (B : Nat) (xs : List Int) : Prop where
  at0 : ∃ p c, w.cell? ⟨B, 0, none⟩ = some (.slice p xs.length c) ∧ w.ownsRow (B + 1) 3 1 (.slice p xs.length c) xs.length (xs.map (Value.int .i64))
  froz : w.frozen? ⟨B, 0, none⟩ = false
  lt : B < w.heap.size

theorem BoxI.end {w w' : World} {B n : Nat} {v : Value} {xs : List Int} {p : Option Addr} {c : Nat} {x : Int} (hlt : B < w.heap.size) (hf : w.frozen? ⟨B, 0, none⟩ = false) (hown : w.ownsRow (B + 1) 3 1 (.slice p n c) n (xs.map (Value.int .i64)))
    (hg : (w.alloc (Obj.cells #[.int .i64 x] 3)).grownBy w' (Value.slice p n c).ownBlock) (hn : n = xs.length) (h5 : w'.ownsRow (B + 1) 3 1 v (n + 1) (xs.map (Value.int .i64) ++ [.int .i64 x])) (hc : w.cell? ⟨B, 0, none⟩ = some (.slice p n c)) :
    BoxI (w'.setCell ⟨B, 0, none⟩ v) B (xs ++ [x]) ∧ Below B w (w'.setCell ⟨B, 0, none⟩ v) ∧ w'.cell? ⟨B, 0, none⟩ = some (.slice p n c) ∧ w'.frozen? ⟨B, 0, none⟩ = false := by
  subst hn
  have hne : some B ≠ (Value.slice p xs.length c).ownBlock := fun e => by have := (hown.lt _ e.symm).1; omega
  have hl1 : B < (w.alloc (Obj.cells #[.int .i64 x] 3)).heap.size := by simp; omega
  have hb1 : Below B w (w.alloc (Obj.cells #[.int .i64 x] 3)) := (Below.refl _ _).alloc (Nat.le_of_lt hlt) _
  have hb2 : Below B w w' := hb1.grown hg (Nat.le_of_lt hl1) (fun j hj => by have := (hown.lt j hj).1; omega)
  have hba : Below w.heap.size w (w.alloc (Obj.cells #[.int .i64 x] 3)) := (Below.refl _ _).alloc (Nat.le_refl _) _
  have c' : w'.cell? ⟨B, 0, none⟩ = some (.slice p xs.length c) := (hg.cell_far ⟨B, 0, none⟩ hl1 hne).trans ((hba.cell (p := ⟨B, 0, none⟩) hlt).trans hc)
  have f' : w'.frozen? ⟨B, 0, none⟩ = false := (hg.frozen_far ⟨B, 0, none⟩ hl1 hne).trans ((hba.frozen (p := ⟨B, 0, none⟩) hlt).trans hf)
  have hlt' : B < w'.heap.size := Nat.lt_of_lt_of_le hl1 hg.size
  obtain ⟨p', c1, rfl⟩ := owns_slice h5
  have hm : (xs ++ [x]).map (Value.int .i64) = xs.map (Value.int .i64) ++ [.int .i64 x] := by simp
  have hlen : (xs ++ [x]).length = xs.length + 1 := by simp
  refine ⟨⟨⟨p', c1, ?_, ?_⟩, ?_, ?_⟩, hb2.setCell (p := ⟨B, 0, none⟩) (Nat.le_refl _) _, c', f'⟩
  · rw [hlen]; exact World.cell?_setCell_same _ _ _ c'
  · rw [hm, hlen]
    exact ownsRow_setCell_other h5 (fun e => absurd (h5.lt B e).1 (by omega)) _
  · rw [World.frozen?_setCell]; exact f'
  · simpa [World.setCell] using hlt'

end Go.Proofs.Ytnhjebdlcbhkcaf

namespace Go.Proofs.Ytnhjebdlcbhkcaf
open Go.RowKit

/-- the error of two that were seen -/
def err2 (l m : List Int) : Int := orE (chkSeen l) (chkSeen m)
def joinOf (l m : List Int) : List Int := if err2 l m = 0 then List.zipWith max l m else []

theorem chkSeen_zero {l : List Int} (h : chkSeen l = 0) : l.length = 5 ∧ okNums l = true := by
  unfold chkSeen at h
  by_cases h5 : l.length = 5
  · rw [if_neg (by simpa using h5)] at h
    cases ho : okNums l
    · rw [if_pos ho] at h; cases h
    · exact ⟨h5, rfl⟩
  · rw [if_pos h5] at h; cases h
theorem err2_zero {l m : List Int} (h : err2 l m = 0) : chkSeen l = 0 ∧ chkSeen m = 0 := by
  unfold err2 orE at h
  by_cases e : chkSeen l = 0
  · rw [if_neg (by simpa using e)] at h; exact ⟨e, h⟩
  · rw [if_pos e] at h; exact absurd h e
theorem err2_mk {l m : List Int} (h : chkSeen l = 0) : err2 l m = chkSeen m := by
  unfold err2 orE; rw [if_neg (by simpa using h)]

theorem BoxI.ints {w : World} {B : Nat} {xs : List Int} (h : BoxI w B xs) : ∃ p c, w.cell? ⟨B, 0, none⟩ = some (.slice p xs.length c) ∧ IntsAt w p xs := by
  obtain ⟨⟨p, c, hc, hown⟩, _, _⟩ := h
  refine ⟨p, c, hc, ?_⟩
  by_cases he : xs = []
  · exact Or.inl he
  have hpos : 0 < xs.length := List.length_pos_iff.2 he
  obtain ⟨g, cap, e⟩ := owns_form hown hpos
  cases e
  refine Or.inr ⟨g, 0, rfl, (hown.lt g rfl).2, fun i hi => ?_⟩
  have := hown.cellAt i (by omega)
  rw [Nat.zero_add, this]
  simp

/-- a box that holds a bool -/
structure BoxB (w : World) (B : Nat) (b : Bool) : Prop where
  at0 : w.cell? ⟨B, 0, none⟩ = some (.bool b)
  froz : w.frozen? ⟨B, 0, none⟩ = false
  lt : B < w.heap.size

theorem BoxB.end {w : World} {B : Nat} {b : Bool} (h : BoxB w B b) (c : Bool) : BoxB (w.setCell ⟨B, 0, none⟩ (.bool c)) B c ∧ Below B w (w.setCell ⟨B, 0, none⟩ (.bool c)) :=
  ⟨⟨World.cell?_setCell_same _ _ _ h.at0, by rw [World.frozen?_setCell]; exact h.froz, by simpa [World.setCell] using h.lt⟩, (Below.refl _ _).setCell (p := ⟨B, 0, none⟩) (Nat.le_refl _) _⟩

/-- has one as many of each as another one? -/
def covL (l m : List Int) : Bool := (List.zipWith (fun x y => decide (y ≤ x)) l m).all id

def covOf (l m : List Int) : Bool := decide (err2 l m = 0) && covL l m

end Go.Proofs.Ytnhjebdlcbhkcaf

namespace Go.Proofs.Ytnhjebdlcbhkcaf
open Go.RowKit

theorem okNums_drop {l : List Int} {k : Nat} (h : k < l.length) : okNums (l.drop k) = (okNum l[k] && okNums (l.drop (k + 1))) := by
  unfold okNums
  rw [List.drop_eq_getElem_cons h]; rfl

theorem covL_drop {l m : List Int} {k : Nat} (h : k < l.length) (h' : k < m.length) : covL (l.drop k) (m.drop k) = (decide (m[k] ≤ l[k]) && covL (l.drop (k + 1)) (m.drop (k + 1))) := by
  unfold covL
  rw [List.drop_eq_getElem_cons h, List.drop_eq_getElem_cons h', List.zipWith_cons_cons, List.all_cons]
  rfl

end Go.Proofs.Ytnhjebdlcbhkcaf
