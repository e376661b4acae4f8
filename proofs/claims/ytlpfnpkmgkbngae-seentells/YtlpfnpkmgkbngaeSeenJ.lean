/- Contracts of seen.Join and seen.Covers. -/
import Derived.Test.YtlpfnpkmgkbngaeSeenC
namespace Go.Proofs.Ytlpfnpkmgkbngae
open Go.RowKit

/-- the error of two that were seen -/
def err2 (l m : List Int) : Int := orE (chkSeen l) (chkSeen m)
def joinOf (l m : List Int) : List Int := if err2 l m = 0 then List.zipWith max l m else []

theorem chkSeen_zero {l : List Int} (h : chkSeen l = 0) : l.length = 5 ∧ okNums l = true := by
  unfold chkSeen at h
  by_cases h5 : l.length = 5
  · rw [if_neg (by simpa using h5)] at h
    cases ho : okNums l
    · rw [if_pos ho] at h; cases h
    · exact ⟨h5, rfl⟩
  · rw [if_pos h5] at h; cases h
theorem err2_zero {l m : List Int} (h : err2 l m = 0) : chkSeen l = 0 ∧ chkSeen m = 0 := by
  unfold err2 orE at h
  by_cases e : chkSeen l = 0
  · rw [if_neg (by simpa using e)] at h; exact ⟨e, h⟩
  · rw [if_pos e] at h; exact absurd h e
theorem err2_mk {l m : List Int} (h : chkSeen l = 0) : err2 l m = chkSeen m := by
  unfold err2 orE; rw [if_neg (by simpa using h)]

theorem BoxI.ints {w : World} {B : Nat} {xs : List Int} (h : BoxI w B xs) : ∃ p c, w.cell? ⟨B, 0, none⟩ = some (.slice p xs.length c) ∧ IntsAt w p xs := by
  obtain ⟨⟨p, c, hc, hown⟩, _, _⟩ := h
  refine ⟨p, c, hc, ?_⟩
  by_cases he : xs = []
  · exact Or.inl he
  have hpos : 0 < xs.length := List.length_pos_iff.2 he
  obtain ⟨g, cap, e⟩ := owns_form hown hpos
  cases e
  refine Or.inr ⟨g, 0, rfl, (hown.lt g rfl).2, fun i hi => ?_⟩
  have := hown.cellAt i (by omega)
  rw [Nat.zero_add, this]
  simp

set_option maxRecDepth 100000 in
set_option maxHeartbeats 1000000 in
theorem seenJoin_any (a a' : Option Addr) (cap cap' : Nat) (l m : List Int) (w : World) (hl : l.length ≤ maxLen) (hl' : m.length ≤ maxLen) (h : IntsAt w a l) (h' : IntsAt w a' m) :
    Calls Try.prog 6 #[.slice a l.length cap, .slice a' m.length cap'] w fun e w' => ∃ p c, e = .returned (.tuple #[.slice p (joinOf l m).length c, .int .i64 (err2 l m)]) ∧ IntsAt w' p (joinOf l m) ∧ Below w.heap.size w w' := by
  have H1 := hidE (seenCheck_any a cap l w hl h)
  go_enter Try.func6, Try.ntmps6
  go_wp2_with fail
  refine H1.out.mono ?_
  rintro e w1 ⟨rfl, hb1⟩
  clear H1
  have H2 := hidE (seenCheck_any a' cap' m w1 hl' (h'.below hb1))
  go_wp2_with fail
  refine H2.out.mono ?_
  rintro e w2 ⟨rfl, hb2⟩
  clear H2
  replace hb2 := hb1.thru hb2 hb1.size
  clear hb1
  have HE : Hid (err2 l m = orE (chkSeen l) (chkSeen m)) := rfl
  go_wp2_with fail
  refine (orE_any _ _ (chkSeen l) (chkSeen m) _ (by simp) (by simp)).mono ?_
  rintro e w3 ⟨rfl, rfl⟩
  rw [← HE.out]
  have hb3 := hb2.alloc hb2.size (Obj.cells #[.int .i64 (chkSeen l), .int .i64 (chkSeen m)] 26)
  generalize w2.alloc (Obj.cells #[.int .i64 (chkSeen l), .int .i64 (chkSeen m)] 26) = w3 at hb3 ⊢
  clear hb2 HE
  by_cases he : err2 l m = 0
  · have HJ : Hid (joinOf l m = List.zipWith max l m) := by show _ = _; unfold joinOf; rw [if_pos he]
    obtain ⟨k1, k2⟩ := err2_zero he
    have h5 := (chkSeen_zero k1).1
    have h5' := (chkSeen_zero k2).1
    rw [he, h5, h5']
    have HE0 := hidE he
    clear k1 k2 he hl hl'
    go_upto_region 5 with fail
    have hb4 : Below w3.heap.size w3 (w3.alloc (Obj.cells #[.slice none 0 0] 22)) := (Below.refl _ _).alloc (Nat.le_refl _) _
    have hBx : BoxI (w3.alloc (Obj.cells #[.slice none 0 0] 22)) w3.heap.size [] := ⟨⟨none, 0, by simp, World.ownsRow_nil _ _ _ _⟩, by go_simp, by simp⟩
    have HP := hidE (pairsJ_any a a' cap cap' w3.heap.size l m w3 _ h5 h5' (h.below hb3) (h'.below hb3) rfl hBx hb4)
    generalize w3.alloc (Obj.cells #[.slice none 0 0] 22) = w4 at HP ⊢
    clear hb4 hBx
    go_wp2_with fail
    refine HP.out.mono ?_
    rintro e w5 ⟨rfl, hB5, hb5⟩
    obtain ⟨p, c, hc, hI⟩ := hB5.ints
    rw [← HJ.out] at hc hI
    generalize hn : (joinOf l m).length = n at hc
    have HN := hidE hn
    clear hn HP HJ hB5
    go_wp2_with fail
    go_ret2
    exact ⟨p, c, by rw [HN.out, HE0.out]; rfl, hI, hb3.thru hb5 hb3.size⟩
  · have HJ : Hid (joinOf l m = []) := by show _ = _; unfold joinOf; rw [if_neg he]
    have heb : (err2 l m != 0) = true := by rw [bne_iff_ne]; exact he
    clear he
    go_wp2_with fail
    go_ret2
    exact ⟨none, 0, by rw [HJ.out]; rfl, by rw [HJ.out]; exact Or.inl rfl, hb3⟩

/-- a box that holds a bool -/
structure BoxB (w : World) (B : Nat) (b : Bool) : Prop where
  at0 : w.cell? ⟨B, 0, none⟩ = some (.bool b)
  froz : w.frozen? ⟨B, 0, none⟩ = false
  lt : B < w.heap.size

theorem BoxB.end {w : World} {B : Nat} {b : Bool} (h : BoxB w B b) (c : Bool) : BoxB (w.setCell ⟨B, 0, none⟩ (.bool c)) B c ∧ Below B w (w.setCell ⟨B, 0, none⟩ (.bool c)) :=
  ⟨⟨World.cell?_setCell_same _ _ _ h.at0, by rw [World.frozen?_setCell]; exact h.froz, by simpa [World.setCell] using h.lt⟩, (Below.refl _ _).setCell (p := ⟨B, 0, none⟩) (Nat.le_refl _) _⟩

set_option maxRecDepth 100000 in
set_option maxHeartbeats 1000000 in
theorem covers1_any (B : Nat) (b : Bool) (x y : Int) (w : World) (h : BoxB w B b) :
    Calls Try.prog 27 #[.int .i64 x, .int .i64 y, .pointer (some ⟨B, 0, none⟩)] w fun e w' => e = .returned (.tuple #[]) ∧ BoxB w' B (b && decide (y ≤ x)) ∧ Below B w w' := by
  have hE := h.end (b && decide (y ≤ x))
  obtain ⟨hc, hf, hlt⟩ := h
  cases b
  · go_enter Try.func27, Try.ntmps27
    go_wp2
    go_end0
    exact ⟨rfl, hE⟩
  · by_cases hxy : y ≤ x
    · rw [decide_eq_true hxy] at hE ⊢
      have hd : x ≥ y := hxy
      go_enter Try.func27, Try.ntmps27
      go_wp2
      go_end0
      exact ⟨rfl, hE⟩
    · rw [decide_eq_false hxy] at hE ⊢
      have hd : ¬ x ≥ y := hxy
      go_enter Try.func27, Try.ntmps27
      go_wp2
      go_end0
      exact ⟨rfl, hE⟩

/-- has one as many of each as another one? -/
def covL (l m : List Int) : Bool := (List.zipWith (fun x y => decide (y ≤ x)) l m).all id

set_option maxRecDepth 100000 in
set_option maxHeartbeats 1000000 in
theorem pairsC_any (a a' : Option Addr) (cap cap' B : Nat) (l m : List Int) (w0 w : World) (h5 : l.length = 5) (h5' : m.length = 5) (h : IntsAt w0 a l) (h' : IntsAt w0 a' m) (hB : B = w0.heap.size) (hw : BoxB w B true) (hb0 : Below B w0 w) :
    Calls Try.prog 18 #[.slice a 5 cap, .slice a' 5 cap', .func (.func 27) #[] #[.pointer (some ⟨B, 0, none⟩)]] w fun e w' => e = .returned (.tuple #[]) ∧ BoxB w' B (covL l m) ∧ Below B w0 w' := by
  subst hB
  rcases h with h | ⟨b, o, rfl, hlt, hc⟩
  · rw [h] at h5; simp at h5
  rcases h' with h' | ⟨b', o', rfl, hlt', hc'⟩
  · rw [h'] at h5'; simp at h5'
  go_enter Try.func18, Try.ntmps18
  go_wp2_with fail
  go_loopw [7] (fun i wr => ∃ k : Nat, k ≤ 5 ∧ i = .int .i64 k ∧ BoxB wr w0.heap.size (covL (l.take k) (m.take k)) ∧ Below w0.heap.size w0 wr) (fun i _ => 5 - (intOf i).toNat)
  case atStart => exact ⟨0, Nat.zero_le _, rfl, hw, hb0⟩
  case round =>
    obtain ⟨k, hk, rfl, hBx, hb⟩ := hrel
    by_cases hlt5 : k < 5
    · have e0 := (hb.cell (p := ⟨b, o + k, none⟩) hlt).trans (hc k (by omega))
      have e1 := (hb.cell (p := ⟨b', o' + k, none⟩) hlt').trans (hc' k (by omega))
      have HZ : Hid (covL (l.take (k + 1)) (m.take (k + 1)) = (covL (l.take k) (m.take k) && decide (m[k] ≤ l[k]))) := by
        show _ = _
        unfold covL
        rw [List.take_succ_eq_append_getElem (by omega), List.take_succ_eq_append_getElem (by omega), List.zipWith_append (by simp; omega)]
        simp
      have HC := hidE (fun (d : World) (hd : BoxB d w0.heap.size (covL (l.take k) (m.take k))) => covers1_any w0.heap.size _ l[k] m[k] d hd)
      rw [← HZ.out] at HC
      clear HZ hc hc'
      generalize l[k] = x at e0 HC
      generalize m[k] = y at e1 HC
      have hi1 : (k : Int) < 5 := by omega
      go_upto_region 3 with fail
      have hbd : BoxB wr.drew w0.heap.size (covL (l.take k) (m.take k)) := ⟨hBx.at0, hBx.froz, hBx.lt⟩
      have hb1 := hb.drew
      go_region_with (go_at_call 27; refine (HC.out _ hbd).mono ?_; rintro e w2 ⟨rfl, hB2, hb2⟩)
      all_goals
        go_wp2_with fail
        go_roundw
        case rel => exact ⟨k + 1, by omega, by go_num, hB2, hb1.trans hb2⟩
        case measure => simp [intOf]; omega
    · have hk5 : k = 5 := by omega
      subst hk5
      rw [List.take_of_length_le (by omega), List.take_of_length_le (by omega)] at hBx
      go_wp2_with fail
      go_end0
      exact ⟨rfl, hBx, hb⟩

set_option maxRecDepth 100000 in
set_option maxHeartbeats 1000000 in
theorem covers_any (a a' : Option Addr) (cap cap' : Nat) (l m : List Int) (w : World) (h5 : l.length = 5) (h5' : m.length = 5) (h : IntsAt w a l) (h' : IntsAt w a' m) :
    Calls Try.prog 20 #[.slice a 5 cap, .slice a' 5 cap'] w fun e w' => e = .returned (.bool (covL l m)) ∧ Below w.heap.size w w' := by
  go_enter Try.func20, Try.ntmps20
  go_upto_region 2 with fail
  have hBx : BoxB (w.alloc (Obj.cells #[.bool true] 4)) w.heap.size true := ⟨by simp, by go_simp, by simp⟩
  have hb1 : Below w.heap.size w (w.alloc (Obj.cells #[.bool true] 4)) := (Below.refl _ _).alloc (Nat.le_refl _) _
  have HP := hidE (pairsC_any a a' cap cap' w.heap.size l m w _ h5 h5' h h' rfl hBx hb1)
  generalize w.alloc (Obj.cells #[.bool true] 4) = w1 at HP ⊢
  clear hBx hb1
  go_wp2_with fail
  refine HP.out.mono ?_
  rintro e w2 ⟨rfl, hB2, hb2⟩
  have c0 := hB2.at0
  clear HP hB2
  generalize hcc : covL l m = cc at c0
  have HCC := hidE hcc
  clear hcc
  go_wp2_with fail
  go_ret
  exact ⟨ret_bool HCC.out.symm, hb2⟩

def covOf (l m : List Int) : Bool := decide (err2 l m = 0) && covL l m

set_option maxRecDepth 100000 in
set_option maxHeartbeats 1000000 in
theorem seenCovers_any (a a' : Option Addr) (cap cap' : Nat) (l m : List Int) (w : World) (hl : l.length ≤ maxLen) (hl' : m.length ≤ maxLen) (h : IntsAt w a l) (h' : IntsAt w a' m) :
    Calls Try.prog 7 #[.slice a l.length cap, .slice a' m.length cap'] w fun e w' => e = .returned (.tuple #[.bool (covOf l m), .int .i64 (err2 l m)]) ∧ Below w.heap.size w w' := by
  have H1 := hidE (seenCheck_any a cap l w hl h)
  go_enter Try.func7, Try.ntmps7
  go_wp2_with fail
  refine H1.out.mono ?_
  rintro e w1 ⟨rfl, hb1⟩
  clear H1
  have H2 := hidE (seenCheck_any a' cap' m w1 hl' (h'.below hb1))
  go_wp2_with fail
  refine H2.out.mono ?_
  rintro e w2 ⟨rfl, hb2⟩
  clear H2
  replace hb2 := hb1.thru hb2 hb1.size
  clear hb1
  have HE : Hid (err2 l m = orE (chkSeen l) (chkSeen m)) := rfl
  go_wp2_with fail
  refine (orE_any _ _ (chkSeen l) (chkSeen m) _ (by simp) (by simp)).mono ?_
  rintro e w3 ⟨rfl, rfl⟩
  rw [← HE.out]
  have hb3 := hb2.alloc hb2.size (Obj.cells #[.int .i64 (chkSeen l), .int .i64 (chkSeen m)] 26)
  generalize w2.alloc (Obj.cells #[.int .i64 (chkSeen l), .int .i64 (chkSeen m)] 26) = w3 at hb3 ⊢
  clear hb2 HE
  by_cases he : err2 l m = 0
  · have HJ : Hid (covOf l m = covL l m) := by show _ = _; unfold covOf; rw [decide_eq_true he]; rfl
    obtain ⟨k1, k2⟩ := err2_zero he
    have h5 := (chkSeen_zero k1).1
    have h5' := (chkSeen_zero k2).1
    have HP := hidE (covers_any a a' cap cap' l m w3 h5 h5' (h.below hb3) (h'.below hb3))
    have HE0 := hidE he
    rw [he, h5, h5']
    clear k1 k2 he hl hl'
    go_wp2_with fail
    refine HP.out.mono ?_
    rintro e w5 ⟨rfl, hb5⟩
    clear HP
    generalize hcc : covL l m = cc
    have HCC := hidE hcc
    clear hcc
    go_wp2_with fail
    go_ret2
    exact ⟨by rw [HJ.out, HCC.out, HE0.out]; rfl, hb3.thru hb5 hb3.size⟩
  · have HJ : Hid (covOf l m = false) := by show _ = _; unfold covOf; rw [decide_eq_false he]; rfl
    have heb : (err2 l m != 0) = true := by rw [bne_iff_ne]; exact he
    clear he
    go_wp2_with fail
    go_ret2
    exact ⟨by rw [HJ.out]; rfl, hb3⟩
end Go.Proofs.Ytlpfnpkmgkbngae
