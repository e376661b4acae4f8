/- stateBegun: what must be in any case. -/
import Derived.Test.YtnhjebdlcbhkcaeGreatDoC
import Derived.Test.YtnhjebdlcbhkcaeGreatCopD
import Derived.Test.YtnhjebdlcbhkcaeGreatDPut
import Derived.Test.YtnhjebdlcbhkcaeGreatPutLe
import Derived.Deep.RegionHeld3
namespace Go.Proofs.YtnhjebdlcbhkcaeGreat
open Go.RowKit

def dTake : Dd := ⟨2, [], 0, ⟨#[]⟩, [(4, 0)], 2, 1⟩
theorem all_hi : doAll [] [] [dPut hiS] = some (hiL, []) := by rfl
theorem all_two : doAll [] [] [dTake, dPut hiS] = some (hiL.take 1, [([(4, 0)], 2)]) := by rfl
theorem err_hi : errAll [] [] [dPut hiS] = 0 := by decide
theorem err_two : errAll [] [] [dTake, dPut hiS] = 0 := by decide
theorem chk_take1 : chkD dTake = 0 := by decide
theorem chk_two : chkS (hiL.take 1) [([(4, 0)], 2)] = 0 := by decide

theorem atomsAt_first {w : World} {g : Nat} (h : AtomsAt w (some ⟨g, 0, none⟩) hiL) : AtomsAt w (some ⟨g, 0, none⟩) (hiL.take 1) := by
  rcases h with h | ⟨b, off, e, hlt, hc⟩
  · simp [hiL] at h
  · cases e
    refine Or.inr ⟨g, 0, rfl, hlt, fun i hi => ?_⟩
    have h0 : i = 0 := by simp [hiL] at hi; omega
    subst h0
    exact hc 0 (by simp [hiL])

theorem doHi_ok (g : Nat) (w : World) (h : DdAt w (dPut hiS) (some ⟨g, 0, none⟩) none) : Calls Tryz.prog 47 #[.agg #[.slice none 0 0, .slice none 0 0], ddV (dPut hiS) (some ⟨g, 0, none⟩) none 1 0] w fun e w' => ∃ p c q d, e = .returned (.tuple #[.agg #[.slice p 2 c, .slice q 0 d], .int .i64 0]) ∧ AtomsAt w' p hiL ∧ Below w.heap.size w w' := by
  refine (stateDo_ok none none 0 0 [] [] (dPut hiS) _ _ 1 0 w (Nat.zero_le _) (Or.inl rfl) (Or.inl rfl) h (by decide) (by decide)).mono ?_
  rintro e w' ⟨hb, hp⟩
  rcases hp with ⟨hne, _⟩ | ⟨_, l', g', p, c, q, d, _, hda, _, rfl, hP, _⟩
  · exact absurd err_hi hne
  · rw [all_hi] at hda
    cases hda
    obtain ⟨p1, c1, e1, hat, _⟩ := hP.owns.atoms (Below.refl _ _)
    cases e1
    exact ⟨p, c, q, d, rfl, hat, hb⟩

theorem allTwo_ok (r : Addr) (w : World) (h : DeedsAt w (some r) [dTake, dPut hiS]) : Calls Tryz.prog 16 #[.agg #[.slice none 0 0, .slice none 0 0], .slice (some r) 2 2] w fun e w' => ∃ p c q d, e = .returned (.tuple #[.agg #[.slice p 1 c, .slice q 1 d], .int .i64 0]) ∧ PickRow w' w.heap.size (.slice p 1 c) (hiL.take 1) ∧ MkRow w' w.heap.size (.slice q 1 d) [([(4, 0)], 2)] ∧ Below w.heap.size w w' := by
  refine (stateAll_ok none none _ 0 0 2 [] [] [dTake, dPut hiS] w (Nat.zero_le _) (by simp [maxLen]) (Or.inl rfl) (Or.inl rfl) h).mono ?_
  rintro e w' ⟨hb, hp⟩
  rcases hp with ⟨hne, _⟩ | ⟨_, l', g', p, c, q, d, _, hda, _, rfl, hP, hM⟩
  · exact absurd err_two hne
  · rw [all_two] at hda
    cases hda
    exact ⟨p, c, q, d, rfl, hP, hM, hb⟩

structure TwoAt (w5 wc : World) (T : Nat) (pt : Option Addr) (ct : Nat) (qt : Option Addr) (dt : Nat) : Prop where
  c0 : wc.cell? ⟨T, 0, none⟩ = some (.slice pt 1 ct)
  c1 : wc.cell? ⟨T, 1, none⟩ = some (.slice qt 1 dt)
  lt : T < wc.heap.size
  at0 : AtomsAt wc pt (hiL.take 1)
  at1 : MarksAt wc qt [([(4, 0)], 2)]
  below : Below w5.heap.size w5 wc

theorem rows_two {w : World} {B : Nat} {pt qt : Option Addr} {ct dt : Nat} (hP : PickRow w B (.slice pt 1 ct) (hiL.take 1)) (hM : MkRow w B (.slice qt 1 dt) [([(4, 0)], 2)]) : AtomsAt w pt (hiL.take 1) ∧ MarksAt w qt [([(4, 0)], 2)] := by
  obtain ⟨p1, c1, e1, hat, _⟩ := hP.owns.atoms (Below.refl _ _)
  cases e1
  obtain ⟨p2, c2, e2, hmt, _⟩ := hM.marks
  cases e2
  exact ⟨hat, hmt⟩

theorem two_new {w5 w7 : World} {B : Nat} {pt qt : Option Addr} {ct dt : Nat} (hb : Below w5.heap.size w5 w7) (hP : PickRow w7 B (.slice pt 1 ct) (hiL.take 1)) (hM : MkRow w7 B (.slice qt 1 dt) [([(4, 0)], 2)]) : TwoAt w5 (w7.alloc (Obj.cells #[.slice pt 1 ct, .slice qt 1 dt] 25)) w7.heap.size pt ct qt dt := by
  have hbn := (Below.refl w7.heap.size w7).alloc (Nat.le_refl _) (Obj.cells #[.slice pt 1 ct, .slice qt 1 dt] 25)
  have h := rows_two hP hM
  exact ⟨by simp, by simp, by simp, h.1.below hbn (Nat.le_refl _), h.2.below hbn (Nat.le_refl _), hb.thru hbn hb.size⟩

theorem two_old {w5 w7 : World} {T B : Nat} {u0 u1 : Value} {pt qt : Option Addr} {ct dt : Nat} (hb : Below w5.heap.size w5 w7) (hT : w5.heap.size ≤ T) (hTB : T < B) (hT7 : T < w7.heap.size) (t0 : w7.cell? ⟨T, 0, none⟩ = some u0) (t1 : w7.cell? ⟨T, 1, none⟩ = some u1) (hP : PickRow w7 B (.slice pt 1 ct) (hiL.take 1)) (hM : MkRow w7 B (.slice qt 1 dt) [([(4, 0)], 2)]) : TwoAt w5 ((w7.setCell ⟨T, 0, none⟩ (.slice pt 1 ct)).setCell ⟨T, 1, none⟩ (.slice qt 1 dt)) T pt ct qt dt := by
  have h := rows_two ((hP.setLow hTB 0 (.slice pt 1 ct)).setLow hTB 1 (.slice qt 1 dt)) ((hM.setLow hTB 0 (.slice pt 1 ct)).setLow hTB 1 (.slice qt 1 dt))
  refine ⟨?_, ?_, by simpa [World.setCell] using hT7, h.1, h.2, (hb.setCell hT _).setCell hT _⟩
  · rw [World.cell?_setCell_other _ _ _ _ (by simp)]
    exact World.cell?_setCell_same _ _ _ t0
  · exact World.cell?_setCell_same _ _ _ ((World.cell?_setCell_other _ _ _ _ (by simp)).trans t1)

theorem lawPut_hi (w : World) : Calls Tryz.prog 48 #[.string ⟨#[104, 105]⟩] w fun e w' => ∃ g, e = .returned (.agg #[.int .i64 1, .slice (some ⟨g, 0, none⟩) 1 1, .int .i64 1, .string ⟨#[104, 105]⟩, .slice none 0 0, .int .i64 0, .int .i64 0]) ∧ DdAt w' (dPut hiS) (some ⟨g, 0, none⟩) none ∧ Below w.heap.size w w' := lawPut_any hiS w (by decide)

theorem deedsAt_two {w : World} {g k : Nat} (h : DdAt w (dPut hiS) (some ⟨g, 0, none⟩) none) (hs : StepsAt w (some ⟨k, 0, none⟩) [(4, 0)]) : DeedsAt (w.alloc (Obj.cells #[.int .i64 2, .slice none 0 0, .int .i64 0, .string ⟨#[]⟩, .slice (some ⟨k, 0, none⟩) 1 1, .int .i64 2, .int .i64 1, .int .i64 1, .slice (some ⟨g, 0, none⟩) 1 1, .int .i64 1, .string ⟨#[104, 105]⟩, .slice none 0 0, .int .i64 0, .int .i64 0] 64)) (some ⟨w.heap.size, 0, none⟩) [dTake, dPut hiS] := by
  have hb := (Below.refl w.heap.size w).alloc (Nat.le_refl _) (Obj.cells #[.int .i64 2, .slice none 0 0, .int .i64 0, .string ⟨#[]⟩, .slice (some ⟨k, 0, none⟩) 1 1, .int .i64 2, .int .i64 1, .int .i64 1, .slice (some ⟨g, 0, none⟩) 1 1, .int .i64 1, .string ⟨#[104, 105]⟩, .slice none 0 0, .int .i64 0, .int .i64 0] 64)
  refine Or.inr ⟨w.heap.size, 0, rfl, by simp, fun i hi => ?_⟩
  have h2 : i < 2 := hi
  rcases (show i = 0 ∨ i = 1 by omega) with rfl | rfl
  · exact ⟨none, 0, some ⟨k, 0, none⟩, 1, by simp [dTake], by simp [dTake], by simp [dTake], by simp [dTake], by simp [dTake], by simp [dTake], by simp [dTake], ⟨Or.inl rfl, hs.below hb (Nat.le_refl _), by simp [dTake, maxLen], by simp [dTake, maxLen], by show 0 ≤ _; exact Nat.zero_le _⟩, by simp [dTake], by simp [dTake]⟩
  · exact ⟨some ⟨g, 0, none⟩, 1, none, 0, by simp [dPut], by simp [dPut], by simp [dPut], by simp [dPut, hiS], by simp [dPut], by simp [dPut], by simp [dPut], h.below hb, by simp [dPut], by simp [dPut]⟩

theorem deed_take (N : Nat) (w : World) (hs : StepsAt w (some ⟨N, 0, none⟩) [(4, 0)]) : Calls Tryz.prog 49 #[.agg #[.int .i64 2, .slice none 0 0, .int .i64 0, .string ⟨#[]⟩, .slice (some ⟨N, 0, none⟩) 1 1, .int .i64 2, .int .i64 1]] w fun e w' => e = .returned (.int .i64 0) ∧ Below w.heap.size w w' := by
  have h := deed_any dTake none (some ⟨N, 0, none⟩) 0 1 w ⟨Or.inl rfl, hs, Nat.zero_le _, by simp [dTake, maxLen], Nat.zero_le _⟩ (by decide) (by decide)
  rw [chk_take1] at h
  exact h
theorem check_two (pt qt : Option Addr) (ct dt : Nat) (w : World) (h : AtomsAt w pt (hiL.take 1)) (h' : MarksAt w qt [([(4, 0)], 2)]) : Calls Tryz.prog 50 #[.agg #[.slice pt 1 ct, .slice qt 1 dt]] w fun e w' => e = .returned (.int .i64 0) ∧ Below w.heap.size w w' := by
  have h := stateCheck_any pt qt ct dt (hiL.take 1) [([(4, 0)], 2)] w (by simp [hiL, maxLen]) h h'
  rw [chk_two] at h
  exact h
theorem same_hi (p p' : Option Addr) (c c' : Nat) (w : World) (h : AtomsAt w p hiL) (h' : AtomsAt w p' hiL) : Calls Tryz.prog 51 #[.slice p 2 c, .slice p' 2 c'] w fun e w' => e = .returned (.bool true) ∧ Below w.heap.size w w' := by
  have h := sameAtoms_any p p' c c' hiL hiL w (by simp [hiL, maxLen]) (by simp [hiL, maxLen]) h h'
  rw [sameL_refl] at h
  exact h
theorem same_hi1 (p p' : Option Addr) (c c' : Nat) (w : World) (h : AtomsAt w p (hiL.take 1)) (h' : AtomsAt w p' (hiL.take 1)) : Calls Tryz.prog 51 #[.slice p 1 c, .slice p' 1 c'] w fun e w' => e = .returned (.bool true) ∧ Below w.heap.size w w' := by
  have h := sameAtoms_any p p' c c' (hiL.take 1) (hiL.take 1) w (by simp [hiL, maxLen]) (by simp [hiL, maxLen]) h h'
  rw [sameL_refl] at h
  exact h

def PostT (w5 : World) (T : Nat) (e : Ending) (w7 : World) : Prop :=
  ∃ pt ct qt dt, e = .returned (.tuple #[.agg #[.slice pt 1 ct, .slice qt 1 dt], .int .i64 0]) ∧ w7.cell? ⟨T, 0, none⟩ = some (.slice none 0 0) ∧ w7.cell? ⟨T, 1, none⟩ = some (.slice none 0 0) ∧ (∀ o, w7.frozen? ⟨T, o, none⟩ = false) ∧ Below w5.heap.size w5 w7 ∧ TwoAt w5 ((w7.setCell ⟨T, 0, none⟩ (.slice pt 1 ct)).setCell ⟨T, 1, none⟩ (.slice qt 1 dt)) T pt ct qt dt
theorem allTwo_T {w5 W : World} {r : Addr} {T : Nat} (h : DeedsAt W (some r) [dTake, dPut hiS]) (hb : Below w5.heap.size w5 W) (hT : w5.heap.size ≤ T) (hTW : T < W.heap.size) (c0 : W.cell? ⟨T, 0, none⟩ = some (.slice none 0 0)) (c1 : W.cell? ⟨T, 1, none⟩ = some (.slice none 0 0)) (cf : ∀ o, W.frozen? ⟨T, o, none⟩ = false) :
    Calls Tryz.prog 16 #[.agg #[.slice none 0 0, .slice none 0 0], .slice (some r) 2 2] W (PostT w5 T) := by
  refine (allTwo_ok r W h).mono ?_
  rintro e w7 ⟨pt, ct, qt, dt, rfl, hP, hM, hb7⟩
  have t0 := (hb7.cell (p := ⟨T, 0, none⟩) hTW).trans c0
  have t1 := (hb7.cell (p := ⟨T, 1, none⟩) hTW).trans c1
  have hB := hb.thru hb7 hb.size
  exact ⟨pt, ct, qt, dt, rfl, t0, t1, fun o => (hb7.frozen (p := ⟨T, o, none⟩) hTW).trans (cf o), hB, two_old hB hT hTW (Nat.lt_of_lt_of_le hTW hb7.size) t0 t1 hP hM⟩
theorem allTwo_A1 {w5 w6 : World} {g k : Nat} (hb : Below w5.heap.size w5 w6) (h : DdAt w6 (dPut hiS) (some ⟨g, 0, none⟩) none) (hs : StepsAt w6 (some ⟨k, 0, none⟩) [(4, 0)]) (c0 : w6.cell? ⟨w5.heap.size, 0, none⟩ = some (.slice none 0 0)) (c1 : w6.cell? ⟨w5.heap.size, 1, none⟩ = some (.slice none 0 0)) (cf : ∀ o, w6.frozen? ⟨w5.heap.size, o, none⟩ = false) (hT : w5.heap.size < w6.heap.size) :
    Calls Tryz.prog 16 #[.agg #[.slice none 0 0, .slice none 0 0], .slice (some ⟨w6.heap.size, 0, none⟩) 2 2] (w6.alloc (Obj.cells #[.int .i64 2, .slice none 0 0, .int .i64 0, .string ⟨#[]⟩, .slice (some ⟨k, 0, none⟩) 1 1, .int .i64 2, .int .i64 1, .int .i64 1, .slice (some ⟨g, 0, none⟩) 1 1, .int .i64 1, .string ⟨#[104, 105]⟩, .slice none 0 0, .int .i64 0, .int .i64 0] 64)) (PostT w5 w5.heap.size) := by
  have hbn := (Below.refl w6.heap.size w6).alloc (Nat.le_refl _) (Obj.cells #[.int .i64 2, .slice none 0 0, .int .i64 0, .string ⟨#[]⟩, .slice (some ⟨k, 0, none⟩) 1 1, .int .i64 2, .int .i64 1, .int .i64 1, .slice (some ⟨g, 0, none⟩) 1 1, .int .i64 1, .string ⟨#[104, 105]⟩, .slice none 0 0, .int .i64 0, .int .i64 0] 64)
  exact allTwo_T (deedsAt_two h hs) (hb.thru hbn hb.size) (Nat.le_refl _) (Nat.lt_of_lt_of_le hT hbn.size) ((hbn.cell (p := ⟨w5.heap.size, 0, none⟩) hT).trans c0) ((hbn.cell (p := ⟨w5.heap.size, 1, none⟩) hT).trans c1) (fun o => (hbn.frozen (p := ⟨w5.heap.size, o, none⟩) hT).trans (cf o))
theorem allTwo_A2 {w5 w6 : World} {g k : Nat} (hb : Below w5.heap.size w5 w6) (h : DdAt w6 (dPut hiS) (some ⟨g, 0, none⟩) none) (hs : StepsAt w6 (some ⟨k, 0, none⟩) [(4, 0)]) :
    Calls Tryz.prog 16 #[.agg #[.slice none 0 0, .slice none 0 0], .slice (some ⟨w6.heap.size, 0, none⟩) 2 2] (w6.alloc (Obj.cells #[.int .i64 2, .slice none 0 0, .int .i64 0, .string ⟨#[]⟩, .slice (some ⟨k, 0, none⟩) 1 1, .int .i64 2, .int .i64 1, .int .i64 1, .slice (some ⟨g, 0, none⟩) 1 1, .int .i64 1, .string ⟨#[104, 105]⟩, .slice none 0 0, .int .i64 0, .int .i64 0] 64)) fun e w7 => ∃ pt ct qt dt, e = .returned (.tuple #[.agg #[.slice pt 1 ct, .slice qt 1 dt], .int .i64 0]) ∧ Below w5.heap.size w5 w7 ∧ TwoAt w5 (w7.alloc (Obj.cells #[.slice pt 1 ct, .slice qt 1 dt] 25)) w7.heap.size pt ct qt dt := by
  have hbn := (Below.refl w6.heap.size w6).alloc (Nat.le_refl _) (Obj.cells #[.int .i64 2, .slice none 0 0, .int .i64 0, .string ⟨#[]⟩, .slice (some ⟨k, 0, none⟩) 1 1, .int .i64 2, .int .i64 1, .int .i64 1, .slice (some ⟨g, 0, none⟩) 1 1, .int .i64 1, .string ⟨#[104, 105]⟩, .slice none 0 0, .int .i64 0, .int .i64 0] 64)
  refine (allTwo_ok _ _ (deedsAt_two h hs)).mono ?_
  rintro e w7 ⟨pt, ct, qt, dt, rfl, hP, hM, hb7⟩
  have hB := (hb.thru hbn hb.size).thru hb7 (hb.thru hbn hb.size).size
  exact ⟨pt, ct, qt, dt, rfl, hB, two_new hB hP hM⟩
theorem allTwo_A3 {w5 w6 : World} {g k : Nat} (hb : Below w5.heap.size w5 w6) (h : DdAt w6 (dPut hiS) (some ⟨g, 0, none⟩) none) (hs : StepsAt w6 (some ⟨k, 0, none⟩) [(4, 0)]) :
    Calls Tryz.prog 16 #[.agg #[.slice none 0 0, .slice none 0 0], .slice (some ⟨w6.heap.size, 0, none⟩) 2 2] ((w6.alloc (Obj.cells #[.int .i64 2, .slice none 0 0, .int .i64 0, .string ⟨#[]⟩, .slice (some ⟨k, 0, none⟩) 1 1, .int .i64 2, .int .i64 1, .int .i64 1, .slice (some ⟨g, 0, none⟩) 1 1, .int .i64 1, .string ⟨#[104, 105]⟩, .slice none 0 0, .int .i64 0, .int .i64 0] 64)).alloc (Obj.cells #[.slice none 0 0, .slice none 0 0] 25)) (PostT w5 (w6.heap.size + 1)) := by
  have hbn := ((Below.refl w6.heap.size w6).alloc (Nat.le_refl _) (Obj.cells #[.int .i64 2, .slice none 0 0, .int .i64 0, .string ⟨#[]⟩, .slice (some ⟨k, 0, none⟩) 1 1, .int .i64 2, .int .i64 1, .int .i64 1, .slice (some ⟨g, 0, none⟩) 1 1, .int .i64 1, .string ⟨#[104, 105]⟩, .slice none 0 0, .int .i64 0, .int .i64 0] 64)).alloc (by simp) (Obj.cells #[.slice none 0 0, .slice none 0 0] 25)
  have hb2 := (Below.refl (w6.alloc (Obj.cells #[.int .i64 2, .slice none 0 0, .int .i64 0, .string ⟨#[]⟩, .slice (some ⟨k, 0, none⟩) 1 1, .int .i64 2, .int .i64 1, .int .i64 1, .slice (some ⟨g, 0, none⟩) 1 1, .int .i64 1, .string ⟨#[104, 105]⟩, .slice none 0 0, .int .i64 0, .int .i64 0] 64)).heap.size (w6.alloc (Obj.cells #[.int .i64 2, .slice none 0 0, .int .i64 0, .string ⟨#[]⟩, .slice (some ⟨k, 0, none⟩) 1 1, .int .i64 2, .int .i64 1, .int .i64 1, .slice (some ⟨g, 0, none⟩) 1 1, .int .i64 1, .string ⟨#[104, 105]⟩, .slice none 0 0, .int .i64 0, .int .i64 0] 64))).alloc (Nat.le_refl _) (Obj.cells #[.slice none 0 0, .slice none 0 0] 25)
  exact allTwo_T ((deedsAt_two h hs).below hb2) (hb.thru hbn hb.size) (by have := hb.size; omega) (by simp) (by simp) (by simp) (fun o => by go_simp)
theorem allTwo_A4 {w5 w6 : World} {g k : Nat} (hb : Below w5.heap.size w5 w6) (h : DdAt w6 (dPut hiS) (some ⟨g, 0, none⟩) none) (hs : StepsAt w6 (some ⟨k, 0, none⟩) [(4, 0)]) :
    Calls Tryz.prog 16 #[.agg #[.slice none 0 0, .slice none 0 0], .slice (some ⟨w6.heap.size + 1, 0, none⟩) 2 2] ((w6.alloc (Obj.cells #[.slice none 0 0, .slice none 0 0] 25)).alloc (Obj.cells #[.int .i64 2, .slice none 0 0, .int .i64 0, .string ⟨#[]⟩, .slice (some ⟨k, 0, none⟩) 1 1, .int .i64 2, .int .i64 1, .int .i64 1, .slice (some ⟨g, 0, none⟩) 1 1, .int .i64 1, .string ⟨#[104, 105]⟩, .slice none 0 0, .int .i64 0, .int .i64 0] 64)) (PostT w5 w6.heap.size) := by
  have hb1 := (Below.refl w6.heap.size w6).alloc (Nat.le_refl _) (Obj.cells #[.slice none 0 0, .slice none 0 0] 25)
  have hbn := hb1.alloc (by simp) (Obj.cells #[.int .i64 2, .slice none 0 0, .int .i64 0, .string ⟨#[]⟩, .slice (some ⟨k, 0, none⟩) 1 1, .int .i64 2, .int .i64 1, .int .i64 1, .slice (some ⟨g, 0, none⟩) 1 1, .int .i64 1, .string ⟨#[104, 105]⟩, .slice none 0 0, .int .i64 0, .int .i64 0] 64)
  have hd := deedsAt_two (h.below hb1) (hs.below hb1 (Nat.le_refl _))
  have e : (w6.alloc (Obj.cells #[.slice none 0 0, .slice none 0 0] 25)).heap.size = w6.heap.size + 1 := by simp
  rw [e] at hd
  exact allTwo_T hd (hb.thru hbn hb.size) hb.size (by simp; omega) (by simp) (by simp) (fun o => by go_simp)

set_option maxRecDepth 100000 in
set_option maxHeartbeats 2000000 in
theorem stateBegun_true (w : World) : Calls Tryz.prog 6 #[] w fun e w' => e = .returned (.bool true) ∧ Below w.heap.size w w' := by
  go_enter Tryz.func6, Tryz.ntmps6
  go_wp2_with fail
  refine (lawPut_any hiS w (by decide)).mono ?_
  rintro e w1 ⟨g1, rfl, hd1, hb1⟩
  go_wp2_with fail
  refine (doHi_ok g1 w1 hd1).mono ?_
  rintro e w2 ⟨p, c, q, d, rfl, hat, hb2⟩
  have hB2 := hb1.thru hb2 hb1.size
  clear hb1 hb2 hd1
  have hbs := (Below.refl w2.heap.size w2).alloc (Nat.le_refl _) (Obj.cells #[.slice p 2 c, .slice q 0 d] 25)
  have s0 : (w2.alloc (Obj.cells #[.slice p 2 c, .slice q 0 d] 25)).cell? ⟨w2.heap.size, 0, none⟩ = some (.slice p 2 c) := by simp
  have zs : w2.heap.size < (w2.alloc (Obj.cells #[.slice p 2 c, .slice q 0 d] 25)).heap.size := by simp
  replace hat := hat.below hbs (Nat.le_refl _)
  have hB3 := hB2.thru hbs hB2.size
  go_wp2_with fail
  generalize w2.alloc (Obj.cells #[.slice p 2 c, .slice q 0 d] 25) = w3 at hbs s0 zs hat hB3 ⊢
  generalize w2.heap.size = Z at s0 zs ⊢
  clear hbs hB2
  refine (at_any 4 0 2 w3).mono ?_
  rintro e w4 ⟨rfl, hst, hb4⟩
  replace s0 := (hb4.cell (p := ⟨Z, 0, none⟩) zs).trans s0
  replace zs := Nat.lt_of_lt_of_le zs hb4.size
  replace hat := hat.below hb4 (Nat.le_refl _)
  replace hB3 := hB3.thru hb4 hB3.size
  clear hb4
  go_upto_region 3 with fail
  have hbd := (Below.refl w4.heap.size w4).alloc (Nat.le_refl _) (Obj.cells #[.int .i64 2, .slice none 0 0, .int .i64 0, .string ⟨#[]⟩, .slice (some ⟨w3.heap.size + 1, 0, none⟩) 1 1, .int .i64 2, .int .i64 1] 64)
  have m0 : (w4.alloc (Obj.cells #[.int .i64 2, .slice none 0 0, .int .i64 0, .string ⟨#[]⟩, .slice (some ⟨w3.heap.size + 1, 0, none⟩) 1 1, .int .i64 2, .int .i64 1] 64)).cell? ⟨w4.heap.size, 0, none⟩ = some (.int .i64 2) := by simp
  have m1 : (w4.alloc (Obj.cells #[.int .i64 2, .slice none 0 0, .int .i64 0, .string ⟨#[]⟩, .slice (some ⟨w3.heap.size + 1, 0, none⟩) 1 1, .int .i64 2, .int .i64 1] 64)).cell? ⟨w4.heap.size, 1, none⟩ = some (.slice none 0 0) := by simp
  have m2 : (w4.alloc (Obj.cells #[.int .i64 2, .slice none 0 0, .int .i64 0, .string ⟨#[]⟩, .slice (some ⟨w3.heap.size + 1, 0, none⟩) 1 1, .int .i64 2, .int .i64 1] 64)).cell? ⟨w4.heap.size, 2, none⟩ = some (.int .i64 0) := by simp
  have m3 : (w4.alloc (Obj.cells #[.int .i64 2, .slice none 0 0, .int .i64 0, .string ⟨#[]⟩, .slice (some ⟨w3.heap.size + 1, 0, none⟩) 1 1, .int .i64 2, .int .i64 1] 64)).cell? ⟨w4.heap.size, 3, none⟩ = some (.string ⟨#[]⟩) := by simp
  have m4 : (w4.alloc (Obj.cells #[.int .i64 2, .slice none 0 0, .int .i64 0, .string ⟨#[]⟩, .slice (some ⟨w3.heap.size + 1, 0, none⟩) 1 1, .int .i64 2, .int .i64 1] 64)).cell? ⟨w4.heap.size, 4, none⟩ = some (.slice (some ⟨w3.heap.size + 1, 0, none⟩) 1 1) := by simp
  have m5 : (w4.alloc (Obj.cells #[.int .i64 2, .slice none 0 0, .int .i64 0, .string ⟨#[]⟩, .slice (some ⟨w3.heap.size + 1, 0, none⟩) 1 1, .int .i64 2, .int .i64 1] 64)).cell? ⟨w4.heap.size, 5, none⟩ = some (.int .i64 2) := by simp
  have m6 : (w4.alloc (Obj.cells #[.int .i64 2, .slice none 0 0, .int .i64 0, .string ⟨#[]⟩, .slice (some ⟨w3.heap.size + 1, 0, none⟩) 1 1, .int .i64 2, .int .i64 1] 64)).cell? ⟨w4.heap.size, 6, none⟩ = some (.int .i64 1) := by simp
  have zy : w4.heap.size < (w4.alloc (Obj.cells #[.int .i64 2, .slice none 0 0, .int .i64 0, .string ⟨#[]⟩, .slice (some ⟨w3.heap.size + 1, 0, none⟩) 1 1, .int .i64 2, .int .i64 1] 64)).heap.size := by simp
  replace s0 := (hbd.cell (p := ⟨Z, 0, none⟩) zs).trans s0
  replace zs := Nat.lt_of_lt_of_le zs hbd.size
  replace hat := hat.below hbd (Nat.le_refl _)
  replace hst := hst.below hbd (Nat.le_refl _)
  replace hB3 := hB3.thru hbd hB3.size
  generalize w4.alloc (Obj.cells #[.int .i64 2, .slice none 0 0, .int .i64 0, .string ⟨#[]⟩, .slice (some ⟨w3.heap.size + 1, 0, none⟩) 1 1, .int .i64 2, .int .i64 1] 64) = w5 at hbd m0 m1 m2 m3 m4 m5 m6 zy s0 zs hat hst hB3 ⊢
  clear hbd
  generalize w4.heap.size = Y at m0 m1 m2 m3 m4 m5 m6 zy ⊢
  generalize w3.heap.size + 1 = N at m4 hst ⊢
  have hBd : Below w5.heap.size w5 w5.drew := (Below.refl _ _).drew
  have HS := hidE (show ∀ W', Below w5.heap.size w5 W' → W'.cell? ⟨Y, 0, none⟩ = some (.int .i64 2) ∧ W'.cell? ⟨Y, 1, none⟩ = some (.slice none 0 0) ∧ W'.cell? ⟨Y, 2, none⟩ = some (.int .i64 0) ∧ W'.cell? ⟨Y, 3, none⟩ = some (.string ⟨#[]⟩) ∧ W'.cell? ⟨Y, 4, none⟩ = some (.slice (some ⟨N, 0, none⟩) 1 1) ∧ W'.cell? ⟨Y, 5, none⟩ = some (.int .i64 2) ∧ W'.cell? ⟨Y, 6, none⟩ = some (.int .i64 1) from fun W' hb => ⟨(hb.cell (p := ⟨Y, 0, none⟩) zy).trans m0, (hb.cell (p := ⟨Y, 1, none⟩) zy).trans m1, (hb.cell (p := ⟨Y, 2, none⟩) zy).trans m2, (hb.cell (p := ⟨Y, 3, none⟩) zy).trans m3, (hb.cell (p := ⟨Y, 4, none⟩) zy).trans m4, (hb.cell (p := ⟨Y, 5, none⟩) zy).trans m5, (hb.cell (p := ⟨Y, 6, none⟩) zy).trans m6⟩)
  have HS0 := hidE (show ∀ (V : World), (V.alloc (Obj.cells #[.slice none 0 0, .slice none 0 0] 25)).cell? ⟨V.heap.size, 0, none⟩ = some (.slice none 0 0) ∧ (V.alloc (Obj.cells #[.slice none 0 0, .slice none 0 0] 25)).cell? ⟨V.heap.size, 1, none⟩ = some (.slice none 0 0) ∧ (∀ o, (V.alloc (Obj.cells #[.slice none 0 0, .slice none 0 0] 25)).frozen? ⟨V.heap.size, o, none⟩ = false) ∧ V.heap.size < (V.alloc (Obj.cells #[.slice none 0 0, .slice none 0 0] 25)).heap.size from fun V => ⟨by simp, by simp, fun o => by go_simp, by simp⟩)
  have HAL := hidE (fun (V : World) (o : Obj) => (Below.refl V.heap.size V).alloc (Nat.le_refl _) o)
  go_cut [4, 5] (fun t f wc => ∃ T pt ct qt dt, t = .pointer (some ⟨T, 0, none⟩) ∧ f = .int .i64 0 ∧ TwoAt w5 wc T pt ct qt dt)
  case first =>
    clear s0 zs hat hB3 m0 m1 m2 m3 m4 m5 m6
    go_region_held_law (fun W' => W'.cell? ⟨Y, 0, none⟩ = some (.int .i64 2) ∧ W'.cell? ⟨Y, 1, none⟩ = some (.slice none 0 0) ∧ W'.cell? ⟨Y, 2, none⟩ = some (.int .i64 0) ∧ W'.cell? ⟨Y, 3, none⟩ = some (.string ⟨#[]⟩) ∧ W'.cell? ⟨Y, 4, none⟩ = some (.slice (some ⟨N, 0, none⟩) 1 1) ∧ W'.cell? ⟨Y, 5, none⟩ = some (.int .i64 2) ∧ W'.cell? ⟨Y, 6, none⟩ = some (.int .i64 1))
      ((refine HS.out _ ?_; first | exact Below.refl _ _ | exact hBd | exact HAL.out w5 _ | exact (HAL.out w5 _).drew | exact hb6 | exact hb6.alloc hb6.size _ | exact (hb6.alloc hb6.size _).alloc (hb6.alloc hb6.size _).size _ | exact hb7 | exact hb7.alloc hb7.size _ | exact HTW.out.below))
      (first
        | (go_at_call 48; (with_reducible refine (lawPut_hi w5.drew).mono ?_); rintro e w6 ⟨g6, rfl, hd6, hb6'⟩; have hb6 : Below w5.heap.size w5 w6 := hBd.thru hb6' (Nat.le_refl _); have hst6 := hst.below hb6 (Nat.le_refl _))
        | (go_at_call 48; (with_reducible refine (lawPut_hi (w5.alloc (Obj.cells #[.slice none 0 0, .slice none 0 0] 25)).drew).mono ?_); rintro e w6 ⟨g6, rfl, hd6, hb6'⟩; have hb6 : Below w5.heap.size w5 w6 := (HAL.out w5 _).drew.thru hb6' (HAL.out w5 _).drew.size; have hst6 := hst.below hb6 (Nat.le_refl _); have t0 := (hb6'.cell (p := ⟨w5.heap.size, 0, none⟩) (HS0.out w5).2.2.2).trans (HS0.out w5).1; have t1 := (hb6'.cell (p := ⟨w5.heap.size, 1, none⟩) (HS0.out w5).2.2.2).trans (HS0.out w5).2.1; have tf := fun o => (hb6'.frozen (p := ⟨w5.heap.size, o, none⟩) (HS0.out w5).2.2.2).trans ((HS0.out w5).2.2.1 o); have zt : w5.heap.size < w6.heap.size := Nat.lt_of_lt_of_le (HS0.out w5).2.2.2 hb6'.size)
        | (go_at_call 16; (with_reducible refine (allTwo_A1 hb6 hd6 hst6 t0 t1 tf zt).mono ?_); rintro e w7 ⟨pt, ct, qt, dt, rfl, x0, x1, xf, hb7, hTW⟩; have HTW := hidE hTW; clear hTW)
        | (go_at_call 16; (with_reducible refine (allTwo_A2 hb6 hd6 hst6).mono ?_); rintro e w7 ⟨pt, ct, qt, dt, rfl, hb7, hTW⟩; have HTW := hidE hTW; clear hTW)
        | (go_at_call 16; (with_reducible refine (allTwo_A3 hb6 hd6 hst6).mono ?_); rintro e w7 ⟨pt, ct, qt, dt, rfl, x0, x1, xf, hb7, hTW⟩; have HTW := hidE hTW; clear hTW)
        | (go_at_call 16; (with_reducible refine (allTwo_A4 hb6 hd6 hst6).mono ?_); rintro e w7 ⟨pt, ct, qt, dt, rfl, x0, x1, xf, hb7, hTW⟩; have HTW := hidE hTW; clear hTW))
    all_goals
      go_wp2_with fail
      go_meet
      exact ⟨_, pt, ct, qt, dt, rfl, rfl, HTW.out⟩
  case rest =>
    obtain ⟨T, pt, ct, qt, dt, rfl, rfl, hTW⟩ := hcut
    have hbc := hTW.below
    have hBc := hB3.thru hbc hB3.size
    have hatc := hat.below hbc (Nat.le_refl _)
    have hstc := hst.below hbc (Nat.le_refl _)
    have s0c := (hbc.cell (p := ⟨Z, 0, none⟩) zs).trans s0
    have zsc := Nat.lt_of_lt_of_le zs hbc.size
    have zyc := Nat.lt_of_lt_of_le zy hbc.size
    have HSC := hidE (show ∀ W', Below wc.heap.size wc W' → W'.cell? ⟨Z, 0, none⟩ = some (.slice p 2 c) ∧ W'.cell? ⟨T, 0, none⟩ = some (.slice pt 1 ct) ∧ W'.cell? ⟨T, 1, none⟩ = some (.slice qt 1 dt) ∧ W'.cell? ⟨Y, 0, none⟩ = some (.int .i64 2) ∧ W'.cell? ⟨Y, 1, none⟩ = some (.slice none 0 0) ∧ W'.cell? ⟨Y, 2, none⟩ = some (.int .i64 0) ∧ W'.cell? ⟨Y, 3, none⟩ = some (.string ⟨#[]⟩) ∧ W'.cell? ⟨Y, 4, none⟩ = some (.slice (some ⟨N, 0, none⟩) 1 1) ∧ W'.cell? ⟨Y, 5, none⟩ = some (.int .i64 2) ∧ W'.cell? ⟨Y, 6, none⟩ = some (.int .i64 1) from fun W' hb => ⟨(hb.cell (p := ⟨Z, 0, none⟩) zsc).trans s0c, (hb.cell (p := ⟨T, 0, none⟩) hTW.lt).trans hTW.c0, (hb.cell (p := ⟨T, 1, none⟩) hTW.lt).trans hTW.c1, HS.out W' (hbc.thru hb hbc.size)⟩)
    have hA1 := hTW.at0
    have hM1 := hTW.at1
    clear hTW HS HS0 HAL m0 m1 m2 m3 m4 m5 m6 s0 s0c zs zsc zy zyc hat hst hbc hB3 hBd
    have hBd : Below wc.heap.size wc wc.drew := (Below.refl _ _).drew
    go_upto_region 4 with fail
    go_region_held_law (fun W' => W'.cell? ⟨Z, 0, none⟩ = some (.slice p 2 c) ∧ W'.cell? ⟨T, 0, none⟩ = some (.slice pt 1 ct) ∧ W'.cell? ⟨T, 1, none⟩ = some (.slice qt 1 dt) ∧ W'.cell? ⟨Y, 0, none⟩ = some (.int .i64 2) ∧ W'.cell? ⟨Y, 1, none⟩ = some (.slice none 0 0) ∧ W'.cell? ⟨Y, 2, none⟩ = some (.int .i64 0) ∧ W'.cell? ⟨Y, 3, none⟩ = some (.string ⟨#[]⟩) ∧ W'.cell? ⟨Y, 4, none⟩ = some (.slice (some ⟨N, 0, none⟩) 1 1) ∧ W'.cell? ⟨Y, 5, none⟩ = some (.int .i64 2) ∧ W'.cell? ⟨Y, 6, none⟩ = some (.int .i64 1))
      ((refine HSC.out _ ?_; first | exact Below.refl _ _ | exact hBd | exact k6 | exact k7 | exact k8 | exact k9 | exact k10 | exact k11))
      (first
        | (go_at_call 49; (with_reducible refine (deed_take N _ (hstc.below hBd (Nat.le_refl _))).mono ?_); rintro e w6 ⟨rfl, hb6⟩; have k6 : Below wc.heap.size wc w6 := hBd.thru hb6 (Nat.le_refl _))
        | (go_at_call 50; (with_reducible refine (check_two pt qt ct dt w6 (hA1.below k6 (Nat.le_refl _)) (hM1.below k6 (Nat.le_refl _))).mono ?_); rintro e w7 ⟨rfl, hb7⟩; have k7 : Below wc.heap.size wc w7 := k6.thru hb7 k6.size)
        | (go_at_call 51; (with_reducible refine (same_hi1 pt (some ⟨gb, 0, none⟩) ct 2 w10 (hA1.below k10 (Nat.le_refl _)) (atomsAt_first hx2)).mono ?_); rintro e w11 ⟨rfl, hb11⟩; have k11 : Below wc.heap.size wc w11 := k10.thru hb11 k10.size)
        | (go_at_call 51; (with_reducible refine (same_hi p (some ⟨ga, 0, none⟩) c 2 w8 (hatc.below k8 (Nat.le_refl _)) hx1).mono ?_); rintro e w9 ⟨rfl, hb9⟩; have k9 : Below wc.heap.size wc w9 := k8.thru hb9 k8.size)
        | (go_at_call 21; (with_reducible refine (hi_any w9).mono ?_); rintro e w10 ⟨gb, rfl, hx2, hb10⟩; have k10 : Below wc.heap.size wc w10 := k9.thru hb10 k9.size)
        | (go_at_call 21; (with_reducible refine (hi_any w7).mono ?_); rintro e w8 ⟨ga, rfl, hx1, hb8⟩; have k8 : Below wc.heap.size wc w8 := k7.thru hb8 k7.size))
    all_goals
      go_wp2_with fail
      go_ret
      exact ⟨rfl, hBc.thru k11 hBc.size⟩
end Go.Proofs.YtnhjebdlcbhkcaeGreat
