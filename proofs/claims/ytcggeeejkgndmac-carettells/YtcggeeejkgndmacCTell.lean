/- The contract of CaretTells. -/
import Derived.Test.YtcggeeejkgndmacCaretBkP
import Derived.Test.YtcggeeejkgndmacCaretB
import Derived.Test.YtcggeeejkgndmacCaretAtR
import Derived.Test.YtcggeeejkgndmacStateCkR
namespace Go.Proofs.Ytcggeeejkgndmac
open Go.RowKit

theorem notNone {m : List (Int × Int)} {d : Int} (h : ¬ (m = [] ∧ d = 0)) : (m.length == 0 && d == 0) = false := by
  cases m with
  | nil =>
    have : d ≠ 0 := fun e => h ⟨rfl, e⟩
    simp [this]
  | cons x m => simp
theorem ordM_same (m : List (Int × Int)) (d : Int) : (ordM m d m d == 0) = true := by
  have h : ordM m d m d = 0 := cmpM.refl (m, d)
  rw [h]; rfl

set_option maxRecDepth 100000 in
set_option maxHeartbeats 8000000 in
theorem caretTells_true (a b a' : Option Addr) (cap cap' cp : Nat) (l : List At) (g : List (List (Int × Int) × Int)) (x : Int) (m : List (Int × Int)) (d : Int) (w : World) (hl : l.length ≤ maxLen) (hm : m.length ≤ maxLen) (h : AtomsAt w a l) (hG : MarksAt w b g) (h' : StepsAt w a' m) :
    Calls Try.prog 5 #[.agg #[.slice a l.length cap, .slice b g.length cap'], .int .i64 x, .agg #[.slice a' m.length cp, .int .i64 d]] w fun e w' => e = .returned (.bool true) ∧ Below w.heap.size w w' := by
  have hB := ((Below.refl w.heap.size w).alloc (Nat.le_refl _) (Obj.cells #[.slice a l.length cap, .slice b g.length cap'] 32)).alloc (by simp) (Obj.cells #[.slice a' m.length cp, .int .i64 d] 41)
  have q0 : ((w.alloc (Obj.cells #[.slice a l.length cap, .slice b g.length cap'] 32)).alloc (Obj.cells #[.slice a' m.length cp, .int .i64 d] 41)).cell? ⟨w.heap.size, 0, none⟩ = some (.slice a l.length cap) := by simp
  have q1 : ((w.alloc (Obj.cells #[.slice a l.length cap, .slice b g.length cap'] 32)).alloc (Obj.cells #[.slice a' m.length cp, .int .i64 d] 41)).cell? ⟨w.heap.size, 1, none⟩ = some (.slice b g.length cap') := by simp
  have m0 : ((w.alloc (Obj.cells #[.slice a l.length cap, .slice b g.length cap'] 32)).alloc (Obj.cells #[.slice a' m.length cp, .int .i64 d] 41)).cell? ⟨w.heap.size + 1, 0, none⟩ = some (.slice a' m.length cp) := by simp
  have m1 : ((w.alloc (Obj.cells #[.slice a l.length cap, .slice b g.length cap'] 32)).alloc (Obj.cells #[.slice a' m.length cp, .int .i64 d] 41)).cell? ⟨w.heap.size + 1, 1, none⟩ = some (.int .i64 d) := by simp
  have z : w.heap.size + 1 < ((w.alloc (Obj.cells #[.slice a l.length cap, .slice b g.length cap'] 32)).alloc (Obj.cells #[.slice a' m.length cp, .int .i64 d] 41)).heap.size := by simp
  replace h := h.below hB (Nat.le_refl _)
  replace hG := hG.below hB (Nat.le_refl _)
  replace h' := h'.below hB (Nat.le_refl _)
  go_enter Try.func5, Try.ntmps5
  go_upto_region 1 with fail
  generalize (w.alloc (Obj.cells #[.slice a l.length cap, .slice b g.length cap'] 32)).alloc (Obj.cells #[.slice a' m.length cp, .int .i64 d] 41) = W at hB q0 q1 m0 m1 z h hG h' ⊢
  generalize w.heap.size = Z at q0 q1 m0 m1 z
  have z0 : Z < W.heap.size := by omega
  go_wp2_with fail
  refine (caretOf_any _ _ _ _ l g x _ hl h hG).mono ?_
  rintro e w1 ⟨px, cx, rfl, hx, hb⟩
  replace q0 := (hb.cell (p := ⟨Z, 0, none⟩) z0).trans q0
  replace q1 := (hb.cell (p := ⟨Z, 1, none⟩) z0).trans q1
  replace m0 := (hb.cell (p := ⟨Z + 1, 0, none⟩) z).trans m0
  replace m1 := (hb.cell (p := ⟨Z + 1, 1, none⟩) z).trans m1
  replace z0 := Nat.lt_of_lt_of_le z0 hb.size
  replace z := Nat.lt_of_lt_of_le z hb.size
  replace h := h.below hb (Nat.le_refl _)
  replace hG := hG.below hb (Nat.le_refl _)
  replace h' := h'.below hb (Nat.le_refl _)
  replace hB := hB.thru hb hB.size
  clear hb
  go_wp2_with fail
  have hb := (Below.refl w1.heap.size w1).alloc (Nat.le_refl _) (Obj.cells #[.slice px (ofL l g x).1.length cx, .int .i64 (ofL l g x).2.1] 41)
  have u0 : (w1.alloc (Obj.cells #[.slice px (ofL l g x).1.length cx, .int .i64 (ofL l g x).2.1] 41)).cell? ⟨w1.heap.size, 0, none⟩ = some (.slice px (ofL l g x).1.length cx) := by simp
  have u1 : (w1.alloc (Obj.cells #[.slice px (ofL l g x).1.length cx, .int .i64 (ofL l g x).2.1] 41)).cell? ⟨w1.heap.size, 1, none⟩ = some (.int .i64 (ofL l g x).2.1) := by simp
  have zu : w1.heap.size < (w1.alloc (Obj.cells #[.slice px (ofL l g x).1.length cx, .int .i64 (ofL l g x).2.1] 41)).heap.size := by simp
  replace q0 := (hb.cell (p := ⟨Z, 0, none⟩) z0).trans q0
  replace q1 := (hb.cell (p := ⟨Z, 1, none⟩) z0).trans q1
  replace m0 := (hb.cell (p := ⟨Z + 1, 0, none⟩) z).trans m0
  replace m1 := (hb.cell (p := ⟨Z + 1, 1, none⟩) z).trans m1
  replace z0 := Nat.lt_of_lt_of_le z0 hb.size
  replace z := Nat.lt_of_lt_of_le z hb.size
  replace h := h.below hb (Nat.le_refl _)
  replace hG := hG.below hb (Nat.le_refl _)
  replace h' := h'.below hb (Nat.le_refl _)
  replace hx := hx.below hb (Nat.le_refl _)
  replace hB := hB.thru hb hB.size
  generalize w1.alloc (Obj.cells #[.slice px (ofL l g x).1.length cx, .int .i64 (ofL l g x).2.1] 41) = w2 at hb u0 u1 zu q0 q1 m0 m1 z0 z h hG h' hx hB ⊢
  generalize w1.heap.size = U at u0 u1 zu ⊢
  clear hb
  refine (caretAt_any _ _ _ _ _ _ l g m d _ hl hm h hG h').mono ?_
  rintro e w3 ⟨rfl, hb⟩
  replace q0 := (hb.cell (p := ⟨Z, 0, none⟩) z0).trans q0
  replace q1 := (hb.cell (p := ⟨Z, 1, none⟩) z0).trans q1
  replace m0 := (hb.cell (p := ⟨Z + 1, 0, none⟩) z).trans m0
  replace m1 := (hb.cell (p := ⟨Z + 1, 1, none⟩) z).trans m1
  replace u0 := (hb.cell (p := ⟨U, 0, none⟩) zu).trans u0
  replace u1 := (hb.cell (p := ⟨U, 1, none⟩) zu).trans u1
  replace zu := Nat.lt_of_lt_of_le zu hb.size
  replace z0 := Nat.lt_of_lt_of_le z0 hb.size
  replace z := Nat.lt_of_lt_of_le z hb.size
  replace h := h.below hb (Nat.le_refl _)
  replace hG := hG.below hb (Nat.le_refl _)
  replace h' := h'.below hb (Nat.le_refl _)
  replace hx := hx.below hb (Nat.le_refl _)
  replace hB := hB.thru hb hB.size
  clear hb
  go_wp2_with fail
  refine (checkState_any _ _ _ _ l g _ hl h hG).mono ?_
  rintro e w4 ⟨rfl, hb⟩
  replace q0 := (hb.cell (p := ⟨Z, 0, none⟩) z0).trans q0
  replace q1 := (hb.cell (p := ⟨Z, 1, none⟩) z0).trans q1
  replace m0 := (hb.cell (p := ⟨Z + 1, 0, none⟩) z).trans m0
  replace m1 := (hb.cell (p := ⟨Z + 1, 1, none⟩) z).trans m1
  replace u0 := (hb.cell (p := ⟨U, 0, none⟩) zu).trans u0
  replace u1 := (hb.cell (p := ⟨U, 1, none⟩) zu).trans u1
  replace zu := Nat.lt_of_lt_of_le zu hb.size
  replace z0 := Nat.lt_of_lt_of_le z0 hb.size
  replace z := Nat.lt_of_lt_of_le z hb.size
  replace h := h.below hb (Nat.le_refl _)
  replace hG := hG.below hb (Nat.le_refl _)
  replace h' := h'.below hb (Nat.le_refl _)
  replace hx := hx.below hb (Nat.le_refl _)
  replace hB := hB.thru hb hB.size
  clear hb
  by_cases hcs : chkS l g = 0
  case neg =>
    have hcb : (chkS l g == 0) = false := by rw [beq_eq_false_iff_ne]; exact hcs
    have HO : ofL l g x = ([], 0, chkS l g) := by unfold ofL; rw [if_pos hcs]
    have HT : atL l g m d = (0, chkS l g) := by unfold atL; rw [if_pos hcs]
    rw [HO] at hx u0 u1 ⊢
    rw [HT]
    clear hcs HO HT
    simp only [List.length_nil] at hx u0 u1 ⊢
    obtain ⟨XL, HXL⟩ : ∃ XL, Hid (XL = ([] : List (Int × Int))) := ⟨_, rfl⟩
    obtain ⟨WL, HWL⟩ : ∃ WL, Hid (WL = ([] : List (Int × Int))) := ⟨_, rfl⟩
    have HSM : Hid ((ordM XL 0 WL 0 == 0) = true) := by show _ = _; rw [HXL.out, HWL.out]; exact ordM_same _ _
    have HXN : Hid (List.length ([] : List (Int × Int)) = XL.length) := by show _ = _; rw [HXL.out]
    have HWN : Hid (List.length ([] : List (Int × Int)) = WL.length) := by show _ = _; rw [HWL.out]
    have hxl : XL.length ≤ maxLen := by rw [HXL.out]; first | exact Nat.zero_le _ | assumption
    have hwl : WL.length ≤ maxLen := by rw [HWL.out]; first | exact Nat.zero_le _ | assumption
    rw [← HXL.out] at hx
    go_wp2_with fail
    have hw : StepsAt w4 none WL := by rw [HWL.out]; exact Or.inl rfl
    have hb := (Below.refl w4.heap.size w4).alloc (Nat.le_refl _) (Obj.cells #[.slice none 0 0, .int .i64 0] 41)
    have y0 : (w4.alloc (Obj.cells #[.slice none 0 0, .int .i64 0] 41)).cell? ⟨w4.heap.size, 0, none⟩ = some (.slice none 0 0) := by simp
    have y1 : (w4.alloc (Obj.cells #[.slice none 0 0, .int .i64 0] 41)).cell? ⟨w4.heap.size, 1, none⟩ = some (.int .i64 0) := by simp
    have zy : w4.heap.size < (w4.alloc (Obj.cells #[.slice none 0 0, .int .i64 0] 41)).heap.size := by simp
    replace hw := hw.below hb (Nat.le_refl _)
    replace q0 := (hb.cell (p := ⟨Z, 0, none⟩) z0).trans q0
    replace q1 := (hb.cell (p := ⟨Z, 1, none⟩) z0).trans q1
    replace m0 := (hb.cell (p := ⟨Z + 1, 0, none⟩) z).trans m0
    replace m1 := (hb.cell (p := ⟨Z + 1, 1, none⟩) z).trans m1
    replace u0 := (hb.cell (p := ⟨U, 0, none⟩) zu).trans u0
    replace u1 := (hb.cell (p := ⟨U, 1, none⟩) zu).trans u1
    replace zu := Nat.lt_of_lt_of_le zu hb.size
    replace z0 := Nat.lt_of_lt_of_le z0 hb.size
    replace z := Nat.lt_of_lt_of_le z hb.size
    replace h := h.below hb (Nat.le_refl _)
    replace h' := h'.below hb (Nat.le_refl _)
    replace hx := hx.below hb (Nat.le_refl _)
    replace hB := hB.thru hb hB.size
    generalize w4.alloc (Obj.cells #[.slice none 0 0, .int .i64 0] 41) = wy at hb y0 y1 zy q0 q1 m0 m1 u0 u1 z z0 zu h h' hx hw hB ⊢
    generalize w4.heap.size = Y at y0 y1 zy ⊢
    clear hb
    refine (caretBegun_true _).mono ?_
    rintro e wb ⟨rfl, hb⟩
    replace q0 := (hb.cell (p := ⟨Z, 0, none⟩) z0).trans q0
    replace q1 := (hb.cell (p := ⟨Z, 1, none⟩) z0).trans q1
    replace m0 := (hb.cell (p := ⟨Z + 1, 0, none⟩) z).trans m0
    replace m1 := (hb.cell (p := ⟨Z + 1, 1, none⟩) z).trans m1
    replace u0 := (hb.cell (p := ⟨U, 0, none⟩) zu).trans u0
    replace u1 := (hb.cell (p := ⟨U, 1, none⟩) zu).trans u1
    replace y0 := (hb.cell (p := ⟨Y, 0, none⟩) zy).trans y0
    replace y1 := (hb.cell (p := ⟨Y, 1, none⟩) zy).trans y1
    replace zy := Nat.lt_of_lt_of_le zy hb.size
    replace hw := hw.below hb (Nat.le_refl _)
    replace zu := Nat.lt_of_lt_of_le zu hb.size
    replace z0 := Nat.lt_of_lt_of_le z0 hb.size
    replace z := Nat.lt_of_lt_of_le z hb.size
    replace h := h.below hb (Nat.le_refl _)
    replace h' := h'.below hb (Nat.le_refl _)
    replace hx := hx.below hb (Nat.le_refl _)
    replace hB := hB.thru hb hB.size
    clear hb
    go_wp2_with (go_at_call 20; refine (sameMark_n _ _ _ _ _ _ XL WL _ _ _ HXN.out HWN.out hxl hwl hx hw).mono ?_; rintro e ws ⟨rfl, hb⟩; rw [HSM.out])
    go_ret
    exact ⟨rfl, hB.thru hb hB.size⟩
  have HCS := hidE hcs
  have HOK := hidE (chkS_okL hcs)
  have HL3 := hidE (chkS_okL hcs).len
  have hmx : 10 ≤ maxLen := by unfold maxLen; omega
  rw [hcs]
  clear hcs hG
  by_cases hp : x < 0
  · have HO : ofL l g x = ([], 0, 3) := by unfold ofL; rw [if_neg (by simp [HCS.out]), if_pos (by omega)]
    have hd0 : decide (x < 0) = true := decide_eq_true hp
    rw [HO] at hx u0 u1 ⊢
    clear HO
    simp only [List.length_nil] at hx u0 u1 ⊢
    obtain ⟨XL, HXL⟩ : ∃ XL, Hid (XL = ([] : List (Int × Int))) := ⟨_, rfl⟩
    obtain ⟨WL, HWL⟩ : ∃ WL, Hid (WL = ([] : List (Int × Int))) := ⟨_, rfl⟩
    have HSM : Hid ((ordM XL 0 WL 0 == 0) = true) := by show _ = _; rw [HXL.out, HWL.out]; exact ordM_same _ _
    have HXN : Hid (List.length ([] : List (Int × Int)) = XL.length) := by show _ = _; rw [HXL.out]
    have HWN : Hid (List.length ([] : List (Int × Int)) = WL.length) := by show _ = _; rw [HWL.out]
    have hxl : XL.length ≤ maxLen := by rw [HXL.out]; first | exact Nat.zero_le _ | assumption
    have hwl : WL.length ≤ maxLen := by rw [HWL.out]; first | exact Nat.zero_le _ | assumption
    rw [← HXL.out] at hx
    by_cases hmn : m = [] ∧ d = 0
    · obtain ⟨rfl, rfl⟩ := hmn
      have HT : atL l g [] 0 = (0, 0) := by unfold atL; rw [if_neg (by simp [HCS.out]), if_pos ⟨rfl, rfl⟩]
      rw [HT]
      clear HT
      go_wp2_with fail
      refine (isNone_any _ _ _ _ _).mono ?_
      rintro e w5 ⟨rfl, hb⟩
      rw [show (((0 : Nat) == 0) && ((0 : Int) == 0)) = true from rfl]
      replace q0 := (hb.cell (p := ⟨Z, 0, none⟩) z0).trans q0
      replace q1 := (hb.cell (p := ⟨Z, 1, none⟩) z0).trans q1
      replace m0 := (hb.cell (p := ⟨Z + 1, 0, none⟩) z).trans m0
      replace m1 := (hb.cell (p := ⟨Z + 1, 1, none⟩) z).trans m1
      replace u0 := (hb.cell (p := ⟨U, 0, none⟩) zu).trans u0
      replace u1 := (hb.cell (p := ⟨U, 1, none⟩) zu).trans u1
      replace zu := Nat.lt_of_lt_of_le zu hb.size
      replace z0 := Nat.lt_of_lt_of_le z0 hb.size
      replace z := Nat.lt_of_lt_of_le z hb.size
      replace h := h.below hb (Nat.le_refl _)
      replace h' := h'.below hb (Nat.le_refl _)
      replace hx := hx.below hb (Nat.le_refl _)
      replace hB := hB.thru hb hB.size
      clear hb
      go_wp2_with fail
      have hw : StepsAt w5 none WL := by rw [HWL.out]; exact Or.inl rfl
      have hb := (Below.refl w5.heap.size w5).alloc (Nat.le_refl _) (Obj.cells #[.slice none 0 0, .int .i64 0] 41)
      have y0 : (w5.alloc (Obj.cells #[.slice none 0 0, .int .i64 0] 41)).cell? ⟨w5.heap.size, 0, none⟩ = some (.slice none 0 0) := by simp
      have y1 : (w5.alloc (Obj.cells #[.slice none 0 0, .int .i64 0] 41)).cell? ⟨w5.heap.size, 1, none⟩ = some (.int .i64 0) := by simp
      have zy : w5.heap.size < (w5.alloc (Obj.cells #[.slice none 0 0, .int .i64 0] 41)).heap.size := by simp
      replace hw := hw.below hb (Nat.le_refl _)
      replace q0 := (hb.cell (p := ⟨Z, 0, none⟩) z0).trans q0
      replace q1 := (hb.cell (p := ⟨Z, 1, none⟩) z0).trans q1
      replace m0 := (hb.cell (p := ⟨Z + 1, 0, none⟩) z).trans m0
      replace m1 := (hb.cell (p := ⟨Z + 1, 1, none⟩) z).trans m1
      replace u0 := (hb.cell (p := ⟨U, 0, none⟩) zu).trans u0
      replace u1 := (hb.cell (p := ⟨U, 1, none⟩) zu).trans u1
      replace zu := Nat.lt_of_lt_of_le zu hb.size
      replace z0 := Nat.lt_of_lt_of_le z0 hb.size
      replace z := Nat.lt_of_lt_of_le z hb.size
      replace h := h.below hb (Nat.le_refl _)
      replace h' := h'.below hb (Nat.le_refl _)
      replace hx := hx.below hb (Nat.le_refl _)
      replace hB := hB.thru hb hB.size
      generalize w5.alloc (Obj.cells #[.slice none 0 0, .int .i64 0] 41) = wy at hb y0 y1 zy q0 q1 m0 m1 u0 u1 z z0 zu h h' hx hw hB ⊢
      generalize w5.heap.size = Y at y0 y1 zy ⊢
      clear hb
      refine (caretAtR_ok _ _ _ _ _ _ l _ [] 0 _ HL3.out (by first | exact hm | exact Nat.zero_le _) h h').mono ?_
      rintro e w7 ⟨rfl, hb⟩
      rw [show cntN l [] 0 = 0 from rfl]
      replace q0 := (hb.cell (p := ⟨Z, 0, none⟩) z0).trans q0
      replace q1 := (hb.cell (p := ⟨Z, 1, none⟩) z0).trans q1
      replace m0 := (hb.cell (p := ⟨Z + 1, 0, none⟩) z).trans m0
      replace m1 := (hb.cell (p := ⟨Z + 1, 1, none⟩) z).trans m1
      replace u0 := (hb.cell (p := ⟨U, 0, none⟩) zu).trans u0
      replace u1 := (hb.cell (p := ⟨U, 1, none⟩) zu).trans u1
      replace y0 := (hb.cell (p := ⟨Y, 0, none⟩) zy).trans y0
      replace y1 := (hb.cell (p := ⟨Y, 1, none⟩) zy).trans y1
      replace zy := Nat.lt_of_lt_of_le zy hb.size
      replace hw := hw.below hb (Nat.le_refl _)
      replace zu := Nat.lt_of_lt_of_le zu hb.size
      replace z0 := Nat.lt_of_lt_of_le z0 hb.size
      replace z := Nat.lt_of_lt_of_le z hb.size
      replace h := h.below hb (Nat.le_refl _)
      replace h' := h'.below hb (Nat.le_refl _)
      replace hx := hx.below hb (Nat.le_refl _)
      replace hB := hB.thru hb hB.size
      clear hb
      go_wp2_with fail
      refine (caretBegun_true _).mono ?_
      rintro e wb ⟨rfl, hb⟩
      replace q0 := (hb.cell (p := ⟨Z, 0, none⟩) z0).trans q0
      replace q1 := (hb.cell (p := ⟨Z, 1, none⟩) z0).trans q1
      replace m0 := (hb.cell (p := ⟨Z + 1, 0, none⟩) z).trans m0
      replace m1 := (hb.cell (p := ⟨Z + 1, 1, none⟩) z).trans m1
      replace u0 := (hb.cell (p := ⟨U, 0, none⟩) zu).trans u0
      replace u1 := (hb.cell (p := ⟨U, 1, none⟩) zu).trans u1
      replace y0 := (hb.cell (p := ⟨Y, 0, none⟩) zy).trans y0
      replace y1 := (hb.cell (p := ⟨Y, 1, none⟩) zy).trans y1
      replace zy := Nat.lt_of_lt_of_le zy hb.size
      replace hw := hw.below hb (Nat.le_refl _)
      replace zu := Nat.lt_of_lt_of_le zu hb.size
      replace z0 := Nat.lt_of_lt_of_le z0 hb.size
      replace z := Nat.lt_of_lt_of_le z hb.size
      replace h := h.below hb (Nat.le_refl _)
      replace h' := h'.below hb (Nat.le_refl _)
      replace hx := hx.below hb (Nat.le_refl _)
      replace hB := hB.thru hb hB.size
      clear hb
      go_wp2_with (go_at_call 20; refine (sameMark_n _ _ _ _ _ _ XL WL _ _ _ HXN.out HWN.out hxl hwl hx hw).mono ?_; rintro e ws ⟨rfl, hb⟩; rw [HSM.out])
      go_ret
      exact ⟨rfl, hB.thru hb hB.size⟩
    by_cases hck : chk m d = 0
    case neg =>
      have HT : atL l g m d = (0, chk m d) := by unfold atL; rw [if_neg (by simp [HCS.out]), if_neg hmn, if_pos hck]
      rw [HT]
      have HNN : Hid ((m.length == 0 && d == 0) = false) := by show _ = _; exact notNone hmn
      have HMN := hidE hmn
      clear HT hmn
      have hckb : (chk m d == 0) = false := by rw [beq_eq_false_iff_ne]; exact hck
      clear hck
      go_wp2_with fail
      refine (isNone_any _ _ _ _ _).mono ?_
      rintro e w5 ⟨rfl, hb⟩
      rw [HNN.out]
      replace q0 := (hb.cell (p := ⟨Z, 0, none⟩) z0).trans q0
      replace q1 := (hb.cell (p := ⟨Z, 1, none⟩) z0).trans q1
      replace m0 := (hb.cell (p := ⟨Z + 1, 0, none⟩) z).trans m0
      replace m1 := (hb.cell (p := ⟨Z + 1, 1, none⟩) z).trans m1
      replace u0 := (hb.cell (p := ⟨U, 0, none⟩) zu).trans u0
      replace u1 := (hb.cell (p := ⟨U, 1, none⟩) zu).trans u1
      replace zu := Nat.lt_of_lt_of_le zu hb.size
      replace z0 := Nat.lt_of_lt_of_le z0 hb.size
      replace z := Nat.lt_of_lt_of_le z hb.size
      replace h := h.below hb (Nat.le_refl _)
      replace h' := h'.below hb (Nat.le_refl _)
      replace hx := hx.below hb (Nat.le_refl _)
      replace hB := hB.thru hb hB.size
      clear hb
      go_wp2_with fail
      refine (checkMark_any _ _ m _ _ hm h').mono ?_
      rintro e w6 ⟨rfl, hb⟩
      replace q0 := (hb.cell (p := ⟨Z, 0, none⟩) z0).trans q0
      replace q1 := (hb.cell (p := ⟨Z, 1, none⟩) z0).trans q1
      replace m0 := (hb.cell (p := ⟨Z + 1, 0, none⟩) z).trans m0
      replace m1 := (hb.cell (p := ⟨Z + 1, 1, none⟩) z).trans m1
      replace u0 := (hb.cell (p := ⟨U, 0, none⟩) zu).trans u0
      replace u1 := (hb.cell (p := ⟨U, 1, none⟩) zu).trans u1
      replace zu := Nat.lt_of_lt_of_le zu hb.size
      replace z0 := Nat.lt_of_lt_of_le z0 hb.size
      replace z := Nat.lt_of_lt_of_le z hb.size
      replace h := h.below hb (Nat.le_refl _)
      replace h' := h'.below hb (Nat.le_refl _)
      replace hx := hx.below hb (Nat.le_refl _)
      replace hB := hB.thru hb hB.size
      clear hb
      go_wp2_with fail
      have hw : StepsAt w6 none WL := by rw [HWL.out]; exact Or.inl rfl
      have hb := (Below.refl w6.heap.size w6).alloc (Nat.le_refl _) (Obj.cells #[.slice none 0 0, .int .i64 0] 41)
      have y0 : (w6.alloc (Obj.cells #[.slice none 0 0, .int .i64 0] 41)).cell? ⟨w6.heap.size, 0, none⟩ = some (.slice none 0 0) := by simp
      have y1 : (w6.alloc (Obj.cells #[.slice none 0 0, .int .i64 0] 41)).cell? ⟨w6.heap.size, 1, none⟩ = some (.int .i64 0) := by simp
      have zy : w6.heap.size < (w6.alloc (Obj.cells #[.slice none 0 0, .int .i64 0] 41)).heap.size := by simp
      replace hw := hw.below hb (Nat.le_refl _)
      replace q0 := (hb.cell (p := ⟨Z, 0, none⟩) z0).trans q0
      replace q1 := (hb.cell (p := ⟨Z, 1, none⟩) z0).trans q1
      replace m0 := (hb.cell (p := ⟨Z + 1, 0, none⟩) z).trans m0
      replace m1 := (hb.cell (p := ⟨Z + 1, 1, none⟩) z).trans m1
      replace u0 := (hb.cell (p := ⟨U, 0, none⟩) zu).trans u0
      replace u1 := (hb.cell (p := ⟨U, 1, none⟩) zu).trans u1
      replace zu := Nat.lt_of_lt_of_le zu hb.size
      replace z0 := Nat.lt_of_lt_of_le z0 hb.size
      replace z := Nat.lt_of_lt_of_le z hb.size
      replace h := h.below hb (Nat.le_refl _)
      replace h' := h'.below hb (Nat.le_refl _)
      replace hx := hx.below hb (Nat.le_refl _)
      replace hB := hB.thru hb hB.size
      generalize w6.alloc (Obj.cells #[.slice none 0 0, .int .i64 0] 41) = wy at hb y0 y1 zy q0 q1 m0 m1 u0 u1 z z0 zu h h' hx hw hB ⊢
      generalize w6.heap.size = Y at y0 y1 zy ⊢
      clear hb
      refine (caretBegun_true _).mono ?_
      rintro e wb ⟨rfl, hb⟩
      replace q0 := (hb.cell (p := ⟨Z, 0, none⟩) z0).trans q0
      replace q1 := (hb.cell (p := ⟨Z, 1, none⟩) z0).trans q1
      replace m0 := (hb.cell (p := ⟨Z + 1, 0, none⟩) z).trans m0
      replace m1 := (hb.cell (p := ⟨Z + 1, 1, none⟩) z).trans m1
      replace u0 := (hb.cell (p := ⟨U, 0, none⟩) zu).trans u0
      replace u1 := (hb.cell (p := ⟨U, 1, none⟩) zu).trans u1
      replace y0 := (hb.cell (p := ⟨Y, 0, none⟩) zy).trans y0
      replace y1 := (hb.cell (p := ⟨Y, 1, none⟩) zy).trans y1
      replace zy := Nat.lt_of_lt_of_le zy hb.size
      replace hw := hw.below hb (Nat.le_refl _)
      replace zu := Nat.lt_of_lt_of_le zu hb.size
      replace z0 := Nat.lt_of_lt_of_le z0 hb.size
      replace z := Nat.lt_of_lt_of_le z hb.size
      replace h := h.below hb (Nat.le_refl _)
      replace h' := h'.below hb (Nat.le_refl _)
      replace hx := hx.below hb (Nat.le_refl _)
      replace hB := hB.thru hb hB.size
      clear hb
      go_wp2_with (go_at_call 20; refine (sameMark_n _ _ _ _ _ _ XL WL _ _ _ HXN.out HWN.out hxl hwl hx hw).mono ?_; rintro e ws ⟨rfl, hb⟩; rw [HSM.out])
      go_ret
      exact ⟨rfl, hB.thru hb hB.size⟩
    have HCN : Hid (cntN l m d = caretN l m d) := by show _ = _; unfold cntN; rw [notNone hmn]; rfl
    have HT : atL l g m d = (caretN l m d, chk m d) := by unfold atL; rw [if_neg (by simp [HCS.out]), if_neg hmn, if_neg (by simpa using hck), hck]
    rw [HT]
    have HNN : Hid ((m.length == 0 && d == 0) = false) := by show _ = _; exact notNone hmn
    have HMN := hidE hmn
    clear HT hmn
    rw [hck]
    have HCK := hidE hck
    clear hck
    go_wp2_with fail
    refine (isNone_any _ _ _ _ _).mono ?_
    rintro e w5 ⟨rfl, hb⟩
    rw [HNN.out]
    replace q0 := (hb.cell (p := ⟨Z, 0, none⟩) z0).trans q0
    replace q1 := (hb.cell (p := ⟨Z, 1, none⟩) z0).trans q1
    replace m0 := (hb.cell (p := ⟨Z + 1, 0, none⟩) z).trans m0
    replace m1 := (hb.cell (p := ⟨Z + 1, 1, none⟩) z).trans m1
    replace u0 := (hb.cell (p := ⟨U, 0, none⟩) zu).trans u0
    replace u1 := (hb.cell (p := ⟨U, 1, none⟩) zu).trans u1
    replace zu := Nat.lt_of_lt_of_le zu hb.size
    replace z0 := Nat.lt_of_lt_of_le z0 hb.size
    replace z := Nat.lt_of_lt_of_le z hb.size
    replace h := h.below hb (Nat.le_refl _)
    replace h' := h'.below hb (Nat.le_refl _)
    replace hx := hx.below hb (Nat.le_refl _)
    replace hB := hB.thru hb hB.size
    clear hb
    go_wp2_with fail
    refine (checkMark_any _ _ m _ _ hm h').mono ?_
    rintro e w6 ⟨rfl, hb⟩
    rw [HCK.out]
    replace q0 := (hb.cell (p := ⟨Z, 0, none⟩) z0).trans q0
    replace q1 := (hb.cell (p := ⟨Z, 1, none⟩) z0).trans q1
    replace m0 := (hb.cell (p := ⟨Z + 1, 0, none⟩) z).trans m0
    replace m1 := (hb.cell (p := ⟨Z + 1, 1, none⟩) z).trans m1
    replace u0 := (hb.cell (p := ⟨U, 0, none⟩) zu).trans u0
    replace u1 := (hb.cell (p := ⟨U, 1, none⟩) zu).trans u1
    replace zu := Nat.lt_of_lt_of_le zu hb.size
    replace z0 := Nat.lt_of_lt_of_le z0 hb.size
    replace z := Nat.lt_of_lt_of_le z hb.size
    replace h := h.below hb (Nat.le_refl _)
    replace h' := h'.below hb (Nat.le_refl _)
    replace hx := hx.below hb (Nat.le_refl _)
    replace hB := hB.thru hb hB.size
    clear hb
    go_wp2_with fail
    have hw : StepsAt w6 none WL := by rw [HWL.out]; exact Or.inl rfl
    have hb := (Below.refl w6.heap.size w6).alloc (Nat.le_refl _) (Obj.cells #[.slice none 0 0, .int .i64 0] 41)
    have y0 : (w6.alloc (Obj.cells #[.slice none 0 0, .int .i64 0] 41)).cell? ⟨w6.heap.size, 0, none⟩ = some (.slice none 0 0) := by simp
    have y1 : (w6.alloc (Obj.cells #[.slice none 0 0, .int .i64 0] 41)).cell? ⟨w6.heap.size, 1, none⟩ = some (.int .i64 0) := by simp
    have zy : w6.heap.size < (w6.alloc (Obj.cells #[.slice none 0 0, .int .i64 0] 41)).heap.size := by simp
    replace hw := hw.below hb (Nat.le_refl _)
    replace q0 := (hb.cell (p := ⟨Z, 0, none⟩) z0).trans q0
    replace q1 := (hb.cell (p := ⟨Z, 1, none⟩) z0).trans q1
    replace m0 := (hb.cell (p := ⟨Z + 1, 0, none⟩) z).trans m0
    replace m1 := (hb.cell (p := ⟨Z + 1, 1, none⟩) z).trans m1
    replace u0 := (hb.cell (p := ⟨U, 0, none⟩) zu).trans u0
    replace u1 := (hb.cell (p := ⟨U, 1, none⟩) zu).trans u1
    replace zu := Nat.lt_of_lt_of_le zu hb.size
    replace z0 := Nat.lt_of_lt_of_le z0 hb.size
    replace z := Nat.lt_of_lt_of_le z hb.size
    replace h := h.below hb (Nat.le_refl _)
    replace h' := h'.below hb (Nat.le_refl _)
    replace hx := hx.below hb (Nat.le_refl _)
    replace hB := hB.thru hb hB.size
    generalize w6.alloc (Obj.cells #[.slice none 0 0, .int .i64 0] 41) = wy at hb y0 y1 zy q0 q1 m0 m1 u0 u1 z z0 zu h h' hx hw hB ⊢
    generalize w6.heap.size = Y at y0 y1 zy ⊢
    clear hb
    refine (caretAtR_ok _ _ _ _ _ _ l _ m d _ HL3.out (by first | exact hm | exact Nat.zero_le _) h h').mono ?_
    rintro e w7 ⟨rfl, hb⟩
    rw [HCN.out]
    replace q0 := (hb.cell (p := ⟨Z, 0, none⟩) z0).trans q0
    replace q1 := (hb.cell (p := ⟨Z, 1, none⟩) z0).trans q1
    replace m0 := (hb.cell (p := ⟨Z + 1, 0, none⟩) z).trans m0
    replace m1 := (hb.cell (p := ⟨Z + 1, 1, none⟩) z).trans m1
    replace u0 := (hb.cell (p := ⟨U, 0, none⟩) zu).trans u0
    replace u1 := (hb.cell (p := ⟨U, 1, none⟩) zu).trans u1
    replace y0 := (hb.cell (p := ⟨Y, 0, none⟩) zy).trans y0
    replace y1 := (hb.cell (p := ⟨Y, 1, none⟩) zy).trans y1
    replace zy := Nat.lt_of_lt_of_le zy hb.size
    replace hw := hw.below hb (Nat.le_refl _)
    replace zu := Nat.lt_of_lt_of_le zu hb.size
    replace z0 := Nat.lt_of_lt_of_le z0 hb.size
    replace z := Nat.lt_of_lt_of_le z hb.size
    replace h := h.below hb (Nat.le_refl _)
    replace h' := h'.below hb (Nat.le_refl _)
    replace hx := hx.below hb (Nat.le_refl _)
    replace hB := hB.thru hb hB.size
    clear hb
    go_wp2_with fail
    refine (caretBegun_true _).mono ?_
    rintro e wb ⟨rfl, hb⟩
    replace q0 := (hb.cell (p := ⟨Z, 0, none⟩) z0).trans q0
    replace q1 := (hb.cell (p := ⟨Z, 1, none⟩) z0).trans q1
    replace m0 := (hb.cell (p := ⟨Z + 1, 0, none⟩) z).trans m0
    replace m1 := (hb.cell (p := ⟨Z + 1, 1, none⟩) z).trans m1
    replace u0 := (hb.cell (p := ⟨U, 0, none⟩) zu).trans u0
    replace u1 := (hb.cell (p := ⟨U, 1, none⟩) zu).trans u1
    replace y0 := (hb.cell (p := ⟨Y, 0, none⟩) zy).trans y0
    replace y1 := (hb.cell (p := ⟨Y, 1, none⟩) zy).trans y1
    replace zy := Nat.lt_of_lt_of_le zy hb.size
    replace hw := hw.below hb (Nat.le_refl _)
    replace zu := Nat.lt_of_lt_of_le zu hb.size
    replace z0 := Nat.lt_of_lt_of_le z0 hb.size
    replace z := Nat.lt_of_lt_of_le z hb.size
    replace h := h.below hb (Nat.le_refl _)
    replace h' := h'.below hb (Nat.le_refl _)
    replace hx := hx.below hb (Nat.le_refl _)
    replace hB := hB.thru hb hB.size
    clear hb
    go_wp2_with (go_at_call 20; refine (sameMark_n _ _ _ _ _ _ XL WL _ _ _ HXN.out HWN.out hxl hwl hx hw).mono ?_; rintro e ws ⟨rfl, hb⟩; rw [HSM.out])
    go_ret
    exact ⟨rfl, hB.thru hb hB.size⟩
  by_cases hp : x > (l.length : Int)
  · have HO : ofL l g x = ([], 0, 3) := by unfold ofL; rw [if_neg (by simp [HCS.out]), if_pos (by omega)]
    have hd0 : decide (x < 0) = false := decide_eq_false (by omega)
    have hd1 : decide (x > (l.length : Int)) = true := decide_eq_true hp
    rw [HO] at hx u0 u1 ⊢
    clear HO
    simp only [List.length_nil] at hx u0 u1 ⊢
    obtain ⟨XL, HXL⟩ : ∃ XL, Hid (XL = ([] : List (Int × Int))) := ⟨_, rfl⟩
    obtain ⟨WL, HWL⟩ : ∃ WL, Hid (WL = ([] : List (Int × Int))) := ⟨_, rfl⟩
    have HSM : Hid ((ordM XL 0 WL 0 == 0) = true) := by show _ = _; rw [HXL.out, HWL.out]; exact ordM_same _ _
    have HXN : Hid (List.length ([] : List (Int × Int)) = XL.length) := by show _ = _; rw [HXL.out]
    have HWN : Hid (List.length ([] : List (Int × Int)) = WL.length) := by show _ = _; rw [HWL.out]
    have hxl : XL.length ≤ maxLen := by rw [HXL.out]; first | exact Nat.zero_le _ | assumption
    have hwl : WL.length ≤ maxLen := by rw [HWL.out]; first | exact Nat.zero_le _ | assumption
    rw [← HXL.out] at hx
    by_cases hmn : m = [] ∧ d = 0
    · obtain ⟨rfl, rfl⟩ := hmn
      have HT : atL l g [] 0 = (0, 0) := by unfold atL; rw [if_neg (by simp [HCS.out]), if_pos ⟨rfl, rfl⟩]
      rw [HT]
      clear HT
      go_wp2_with fail
      refine (isNone_any _ _ _ _ _).mono ?_
      rintro e w5 ⟨rfl, hb⟩
      rw [show (((0 : Nat) == 0) && ((0 : Int) == 0)) = true from rfl]
      replace q0 := (hb.cell (p := ⟨Z, 0, none⟩) z0).trans q0
      replace q1 := (hb.cell (p := ⟨Z, 1, none⟩) z0).trans q1
      replace m0 := (hb.cell (p := ⟨Z + 1, 0, none⟩) z).trans m0
      replace m1 := (hb.cell (p := ⟨Z + 1, 1, none⟩) z).trans m1
      replace u0 := (hb.cell (p := ⟨U, 0, none⟩) zu).trans u0
      replace u1 := (hb.cell (p := ⟨U, 1, none⟩) zu).trans u1
      replace zu := Nat.lt_of_lt_of_le zu hb.size
      replace z0 := Nat.lt_of_lt_of_le z0 hb.size
      replace z := Nat.lt_of_lt_of_le z hb.size
      replace h := h.below hb (Nat.le_refl _)
      replace h' := h'.below hb (Nat.le_refl _)
      replace hx := hx.below hb (Nat.le_refl _)
      replace hB := hB.thru hb hB.size
      clear hb
      go_wp2_with fail
      have hw : StepsAt w5 none WL := by rw [HWL.out]; exact Or.inl rfl
      have hb := (Below.refl w5.heap.size w5).alloc (Nat.le_refl _) (Obj.cells #[.slice none 0 0, .int .i64 0] 41)
      have y0 : (w5.alloc (Obj.cells #[.slice none 0 0, .int .i64 0] 41)).cell? ⟨w5.heap.size, 0, none⟩ = some (.slice none 0 0) := by simp
      have y1 : (w5.alloc (Obj.cells #[.slice none 0 0, .int .i64 0] 41)).cell? ⟨w5.heap.size, 1, none⟩ = some (.int .i64 0) := by simp
      have zy : w5.heap.size < (w5.alloc (Obj.cells #[.slice none 0 0, .int .i64 0] 41)).heap.size := by simp
      replace hw := hw.below hb (Nat.le_refl _)
      replace q0 := (hb.cell (p := ⟨Z, 0, none⟩) z0).trans q0
      replace q1 := (hb.cell (p := ⟨Z, 1, none⟩) z0).trans q1
      replace m0 := (hb.cell (p := ⟨Z + 1, 0, none⟩) z).trans m0
      replace m1 := (hb.cell (p := ⟨Z + 1, 1, none⟩) z).trans m1
      replace u0 := (hb.cell (p := ⟨U, 0, none⟩) zu).trans u0
      replace u1 := (hb.cell (p := ⟨U, 1, none⟩) zu).trans u1
      replace zu := Nat.lt_of_lt_of_le zu hb.size
      replace z0 := Nat.lt_of_lt_of_le z0 hb.size
      replace z := Nat.lt_of_lt_of_le z hb.size
      replace h := h.below hb (Nat.le_refl _)
      replace h' := h'.below hb (Nat.le_refl _)
      replace hx := hx.below hb (Nat.le_refl _)
      replace hB := hB.thru hb hB.size
      generalize w5.alloc (Obj.cells #[.slice none 0 0, .int .i64 0] 41) = wy at hb y0 y1 zy q0 q1 m0 m1 u0 u1 z z0 zu h h' hx hw hB ⊢
      generalize w5.heap.size = Y at y0 y1 zy ⊢
      clear hb
      refine (caretAtR_ok _ _ _ _ _ _ l _ [] 0 _ HL3.out (by first | exact hm | exact Nat.zero_le _) h h').mono ?_
      rintro e w7 ⟨rfl, hb⟩
      rw [show cntN l [] 0 = 0 from rfl]
      replace q0 := (hb.cell (p := ⟨Z, 0, none⟩) z0).trans q0
      replace q1 := (hb.cell (p := ⟨Z, 1, none⟩) z0).trans q1
      replace m0 := (hb.cell (p := ⟨Z + 1, 0, none⟩) z).trans m0
      replace m1 := (hb.cell (p := ⟨Z + 1, 1, none⟩) z).trans m1
      replace u0 := (hb.cell (p := ⟨U, 0, none⟩) zu).trans u0
      replace u1 := (hb.cell (p := ⟨U, 1, none⟩) zu).trans u1
      replace y0 := (hb.cell (p := ⟨Y, 0, none⟩) zy).trans y0
      replace y1 := (hb.cell (p := ⟨Y, 1, none⟩) zy).trans y1
      replace zy := Nat.lt_of_lt_of_le zy hb.size
      replace hw := hw.below hb (Nat.le_refl _)
      replace zu := Nat.lt_of_lt_of_le zu hb.size
      replace z0 := Nat.lt_of_lt_of_le z0 hb.size
      replace z := Nat.lt_of_lt_of_le z hb.size
      replace h := h.below hb (Nat.le_refl _)
      replace h' := h'.below hb (Nat.le_refl _)
      replace hx := hx.below hb (Nat.le_refl _)
      replace hB := hB.thru hb hB.size
      clear hb
      go_wp2_with fail
      refine (caretBegun_true _).mono ?_
      rintro e wb ⟨rfl, hb⟩
      replace q0 := (hb.cell (p := ⟨Z, 0, none⟩) z0).trans q0
      replace q1 := (hb.cell (p := ⟨Z, 1, none⟩) z0).trans q1
      replace m0 := (hb.cell (p := ⟨Z + 1, 0, none⟩) z).trans m0
      replace m1 := (hb.cell (p := ⟨Z + 1, 1, none⟩) z).trans m1
      replace u0 := (hb.cell (p := ⟨U, 0, none⟩) zu).trans u0
      replace u1 := (hb.cell (p := ⟨U, 1, none⟩) zu).trans u1
      replace y0 := (hb.cell (p := ⟨Y, 0, none⟩) zy).trans y0
      replace y1 := (hb.cell (p := ⟨Y, 1, none⟩) zy).trans y1
      replace zy := Nat.lt_of_lt_of_le zy hb.size
      replace hw := hw.below hb (Nat.le_refl _)
      replace zu := Nat.lt_of_lt_of_le zu hb.size
      replace z0 := Nat.lt_of_lt_of_le z0 hb.size
      replace z := Nat.lt_of_lt_of_le z hb.size
      replace h := h.below hb (Nat.le_refl _)
      replace h' := h'.below hb (Nat.le_refl _)
      replace hx := hx.below hb (Nat.le_refl _)
      replace hB := hB.thru hb hB.size
      clear hb
      go_wp2_with (go_at_call 20; refine (sameMark_n _ _ _ _ _ _ XL WL _ _ _ HXN.out HWN.out hxl hwl hx hw).mono ?_; rintro e ws ⟨rfl, hb⟩; rw [HSM.out])
      go_ret
      exact ⟨rfl, hB.thru hb hB.size⟩
    by_cases hck : chk m d = 0
    case neg =>
      have HT : atL l g m d = (0, chk m d) := by unfold atL; rw [if_neg (by simp [HCS.out]), if_neg hmn, if_pos hck]
      rw [HT]
      have HNN : Hid ((m.length == 0 && d == 0) = false) := by show _ = _; exact notNone hmn
      have HMN := hidE hmn
      clear HT hmn
      have hckb : (chk m d == 0) = false := by rw [beq_eq_false_iff_ne]; exact hck
      clear hck
      go_wp2_with fail
      refine (isNone_any _ _ _ _ _).mono ?_
      rintro e w5 ⟨rfl, hb⟩
      rw [HNN.out]
      replace q0 := (hb.cell (p := ⟨Z, 0, none⟩) z0).trans q0
      replace q1 := (hb.cell (p := ⟨Z, 1, none⟩) z0).trans q1
      replace m0 := (hb.cell (p := ⟨Z + 1, 0, none⟩) z).trans m0
      replace m1 := (hb.cell (p := ⟨Z + 1, 1, none⟩) z).trans m1
      replace u0 := (hb.cell (p := ⟨U, 0, none⟩) zu).trans u0
      replace u1 := (hb.cell (p := ⟨U, 1, none⟩) zu).trans u1
      replace zu := Nat.lt_of_lt_of_le zu hb.size
      replace z0 := Nat.lt_of_lt_of_le z0 hb.size
      replace z := Nat.lt_of_lt_of_le z hb.size
      replace h := h.below hb (Nat.le_refl _)
      replace h' := h'.below hb (Nat.le_refl _)
      replace hx := hx.below hb (Nat.le_refl _)
      replace hB := hB.thru hb hB.size
      clear hb
      go_wp2_with fail
      refine (checkMark_any _ _ m _ _ hm h').mono ?_
      rintro e w6 ⟨rfl, hb⟩
      replace q0 := (hb.cell (p := ⟨Z, 0, none⟩) z0).trans q0
      replace q1 := (hb.cell (p := ⟨Z, 1, none⟩) z0).trans q1
      replace m0 := (hb.cell (p := ⟨Z + 1, 0, none⟩) z).trans m0
      replace m1 := (hb.cell (p := ⟨Z + 1, 1, none⟩) z).trans m1
      replace u0 := (hb.cell (p := ⟨U, 0, none⟩) zu).trans u0
      replace u1 := (hb.cell (p := ⟨U, 1, none⟩) zu).trans u1
      replace zu := Nat.lt_of_lt_of_le zu hb.size
      replace z0 := Nat.lt_of_lt_of_le z0 hb.size
      replace z := Nat.lt_of_lt_of_le z hb.size
      replace h := h.below hb (Nat.le_refl _)
      replace h' := h'.below hb (Nat.le_refl _)
      replace hx := hx.below hb (Nat.le_refl _)
      replace hB := hB.thru hb hB.size
      clear hb
      go_wp2_with fail
      have hw : StepsAt w6 none WL := by rw [HWL.out]; exact Or.inl rfl
      have hb := (Below.refl w6.heap.size w6).alloc (Nat.le_refl _) (Obj.cells #[.slice none 0 0, .int .i64 0] 41)
      have y0 : (w6.alloc (Obj.cells #[.slice none 0 0, .int .i64 0] 41)).cell? ⟨w6.heap.size, 0, none⟩ = some (.slice none 0 0) := by simp
      have y1 : (w6.alloc (Obj.cells #[.slice none 0 0, .int .i64 0] 41)).cell? ⟨w6.heap.size, 1, none⟩ = some (.int .i64 0) := by simp
      have zy : w6.heap.size < (w6.alloc (Obj.cells #[.slice none 0 0, .int .i64 0] 41)).heap.size := by simp
      replace hw := hw.below hb (Nat.le_refl _)
      replace q0 := (hb.cell (p := ⟨Z, 0, none⟩) z0).trans q0
      replace q1 := (hb.cell (p := ⟨Z, 1, none⟩) z0).trans q1
      replace m0 := (hb.cell (p := ⟨Z + 1, 0, none⟩) z).trans m0
      replace m1 := (hb.cell (p := ⟨Z + 1, 1, none⟩) z).trans m1
      replace u0 := (hb.cell (p := ⟨U, 0, none⟩) zu).trans u0
      replace u1 := (hb.cell (p := ⟨U, 1, none⟩) zu).trans u1
      replace zu := Nat.lt_of_lt_of_le zu hb.size
      replace z0 := Nat.lt_of_lt_of_le z0 hb.size
      replace z := Nat.lt_of_lt_of_le z hb.size
      replace h := h.below hb (Nat.le_refl _)
      replace h' := h'.below hb (Nat.le_refl _)
      replace hx := hx.below hb (Nat.le_refl _)
      replace hB := hB.thru hb hB.size
      generalize w6.alloc (Obj.cells #[.slice none 0 0, .int .i64 0] 41) = wy at hb y0 y1 zy q0 q1 m0 m1 u0 u1 z z0 zu h h' hx hw hB ⊢
      generalize w6.heap.size = Y at y0 y1 zy ⊢
      clear hb
      refine (caretBegun_true _).mono ?_
      rintro e wb ⟨rfl, hb⟩
      replace q0 := (hb.cell (p := ⟨Z, 0, none⟩) z0).trans q0
      replace q1 := (hb.cell (p := ⟨Z, 1, none⟩) z0).trans q1
      replace m0 := (hb.cell (p := ⟨Z + 1, 0, none⟩) z).trans m0
      replace m1 := (hb.cell (p := ⟨Z + 1, 1, none⟩) z).trans m1
      replace u0 := (hb.cell (p := ⟨U, 0, none⟩) zu).trans u0
      replace u1 := (hb.cell (p := ⟨U, 1, none⟩) zu).trans u1
      replace y0 := (hb.cell (p := ⟨Y, 0, none⟩) zy).trans y0
      replace y1 := (hb.cell (p := ⟨Y, 1, none⟩) zy).trans y1
      replace zy := Nat.lt_of_lt_of_le zy hb.size
      replace hw := hw.below hb (Nat.le_refl _)
      replace zu := Nat.lt_of_lt_of_le zu hb.size
      replace z0 := Nat.lt_of_lt_of_le z0 hb.size
      replace z := Nat.lt_of_lt_of_le z hb.size
      replace h := h.below hb (Nat.le_refl _)
      replace h' := h'.below hb (Nat.le_refl _)
      replace hx := hx.below hb (Nat.le_refl _)
      replace hB := hB.thru hb hB.size
      clear hb
      go_wp2_with (go_at_call 20; refine (sameMark_n _ _ _ _ _ _ XL WL _ _ _ HXN.out HWN.out hxl hwl hx hw).mono ?_; rintro e ws ⟨rfl, hb⟩; rw [HSM.out])
      go_ret
      exact ⟨rfl, hB.thru hb hB.size⟩
    have HCN : Hid (cntN l m d = caretN l m d) := by show _ = _; unfold cntN; rw [notNone hmn]; rfl
    have HT : atL l g m d = (caretN l m d, chk m d) := by unfold atL; rw [if_neg (by simp [HCS.out]), if_neg hmn, if_neg (by simpa using hck), hck]
    rw [HT]
    have HNN : Hid ((m.length == 0 && d == 0) = false) := by show _ = _; exact notNone hmn
    have HMN := hidE hmn
    clear HT hmn
    rw [hck]
    have HCK := hidE hck
    clear hck
    go_wp2_with fail
    refine (isNone_any _ _ _ _ _).mono ?_
    rintro e w5 ⟨rfl, hb⟩
    rw [HNN.out]
    replace q0 := (hb.cell (p := ⟨Z, 0, none⟩) z0).trans q0
    replace q1 := (hb.cell (p := ⟨Z, 1, none⟩) z0).trans q1
    replace m0 := (hb.cell (p := ⟨Z + 1, 0, none⟩) z).trans m0
    replace m1 := (hb.cell (p := ⟨Z + 1, 1, none⟩) z).trans m1
    replace u0 := (hb.cell (p := ⟨U, 0, none⟩) zu).trans u0
    replace u1 := (hb.cell (p := ⟨U, 1, none⟩) zu).trans u1
    replace zu := Nat.lt_of_lt_of_le zu hb.size
    replace z0 := Nat.lt_of_lt_of_le z0 hb.size
    replace z := Nat.lt_of_lt_of_le z hb.size
    replace h := h.below hb (Nat.le_refl _)
    replace h' := h'.below hb (Nat.le_refl _)
    replace hx := hx.below hb (Nat.le_refl _)
    replace hB := hB.thru hb hB.size
    clear hb
    go_wp2_with fail
    refine (checkMark_any _ _ m _ _ hm h').mono ?_
    rintro e w6 ⟨rfl, hb⟩
    rw [HCK.out]
    replace q0 := (hb.cell (p := ⟨Z, 0, none⟩) z0).trans q0
    replace q1 := (hb.cell (p := ⟨Z, 1, none⟩) z0).trans q1
    replace m0 := (hb.cell (p := ⟨Z + 1, 0, none⟩) z).trans m0
    replace m1 := (hb.cell (p := ⟨Z + 1, 1, none⟩) z).trans m1
    replace u0 := (hb.cell (p := ⟨U, 0, none⟩) zu).trans u0
    replace u1 := (hb.cell (p := ⟨U, 1, none⟩) zu).trans u1
    replace zu := Nat.lt_of_lt_of_le zu hb.size
    replace z0 := Nat.lt_of_lt_of_le z0 hb.size
    replace z := Nat.lt_of_lt_of_le z hb.size
    replace h := h.below hb (Nat.le_refl _)
    replace h' := h'.below hb (Nat.le_refl _)
    replace hx := hx.below hb (Nat.le_refl _)
    replace hB := hB.thru hb hB.size
    clear hb
    go_wp2_with fail
    have hw : StepsAt w6 none WL := by rw [HWL.out]; exact Or.inl rfl
    have hb := (Below.refl w6.heap.size w6).alloc (Nat.le_refl _) (Obj.cells #[.slice none 0 0, .int .i64 0] 41)
    have y0 : (w6.alloc (Obj.cells #[.slice none 0 0, .int .i64 0] 41)).cell? ⟨w6.heap.size, 0, none⟩ = some (.slice none 0 0) := by simp
    have y1 : (w6.alloc (Obj.cells #[.slice none 0 0, .int .i64 0] 41)).cell? ⟨w6.heap.size, 1, none⟩ = some (.int .i64 0) := by simp
    have zy : w6.heap.size < (w6.alloc (Obj.cells #[.slice none 0 0, .int .i64 0] 41)).heap.size := by simp
    replace hw := hw.below hb (Nat.le_refl _)
    replace q0 := (hb.cell (p := ⟨Z, 0, none⟩) z0).trans q0
    replace q1 := (hb.cell (p := ⟨Z, 1, none⟩) z0).trans q1
    replace m0 := (hb.cell (p := ⟨Z + 1, 0, none⟩) z).trans m0
    replace m1 := (hb.cell (p := ⟨Z + 1, 1, none⟩) z).trans m1
    replace u0 := (hb.cell (p := ⟨U, 0, none⟩) zu).trans u0
    replace u1 := (hb.cell (p := ⟨U, 1, none⟩) zu).trans u1
    replace zu := Nat.lt_of_lt_of_le zu hb.size
    replace z0 := Nat.lt_of_lt_of_le z0 hb.size
    replace z := Nat.lt_of_lt_of_le z hb.size
    replace h := h.below hb (Nat.le_refl _)
    replace h' := h'.below hb (Nat.le_refl _)
    replace hx := hx.below hb (Nat.le_refl _)
    replace hB := hB.thru hb hB.size
    generalize w6.alloc (Obj.cells #[.slice none 0 0, .int .i64 0] 41) = wy at hb y0 y1 zy q0 q1 m0 m1 u0 u1 z z0 zu h h' hx hw hB ⊢
    generalize w6.heap.size = Y at y0 y1 zy ⊢
    clear hb
    refine (caretAtR_ok _ _ _ _ _ _ l _ m d _ HL3.out (by first | exact hm | exact Nat.zero_le _) h h').mono ?_
    rintro e w7 ⟨rfl, hb⟩
    rw [HCN.out]
    replace q0 := (hb.cell (p := ⟨Z, 0, none⟩) z0).trans q0
    replace q1 := (hb.cell (p := ⟨Z, 1, none⟩) z0).trans q1
    replace m0 := (hb.cell (p := ⟨Z + 1, 0, none⟩) z).trans m0
    replace m1 := (hb.cell (p := ⟨Z + 1, 1, none⟩) z).trans m1
    replace u0 := (hb.cell (p := ⟨U, 0, none⟩) zu).trans u0
    replace u1 := (hb.cell (p := ⟨U, 1, none⟩) zu).trans u1
    replace y0 := (hb.cell (p := ⟨Y, 0, none⟩) zy).trans y0
    replace y1 := (hb.cell (p := ⟨Y, 1, none⟩) zy).trans y1
    replace zy := Nat.lt_of_lt_of_le zy hb.size
    replace hw := hw.below hb (Nat.le_refl _)
    replace zu := Nat.lt_of_lt_of_le zu hb.size
    replace z0 := Nat.lt_of_lt_of_le z0 hb.size
    replace z := Nat.lt_of_lt_of_le z hb.size
    replace h := h.below hb (Nat.le_refl _)
    replace h' := h'.below hb (Nat.le_refl _)
    replace hx := hx.below hb (Nat.le_refl _)
    replace hB := hB.thru hb hB.size
    clear hb
    go_wp2_with fail
    refine (caretBegun_true _).mono ?_
    rintro e wb ⟨rfl, hb⟩
    replace q0 := (hb.cell (p := ⟨Z, 0, none⟩) z0).trans q0
    replace q1 := (hb.cell (p := ⟨Z, 1, none⟩) z0).trans q1
    replace m0 := (hb.cell (p := ⟨Z + 1, 0, none⟩) z).trans m0
    replace m1 := (hb.cell (p := ⟨Z + 1, 1, none⟩) z).trans m1
    replace u0 := (hb.cell (p := ⟨U, 0, none⟩) zu).trans u0
    replace u1 := (hb.cell (p := ⟨U, 1, none⟩) zu).trans u1
    replace y0 := (hb.cell (p := ⟨Y, 0, none⟩) zy).trans y0
    replace y1 := (hb.cell (p := ⟨Y, 1, none⟩) zy).trans y1
    replace zy := Nat.lt_of_lt_of_le zy hb.size
    replace hw := hw.below hb (Nat.le_refl _)
    replace zu := Nat.lt_of_lt_of_le zu hb.size
    replace z0 := Nat.lt_of_lt_of_le z0 hb.size
    replace z := Nat.lt_of_lt_of_le z hb.size
    replace h := h.below hb (Nat.le_refl _)
    replace h' := h'.below hb (Nat.le_refl _)
    replace hx := hx.below hb (Nat.le_refl _)
    replace hB := hB.thru hb hB.size
    clear hb
    go_wp2_with (go_at_call 20; refine (sameMark_n _ _ _ _ _ _ XL WL _ _ _ HXN.out HWN.out hxl hwl hx hw).mono ?_; rintro e ws ⟨rfl, hb⟩; rw [HSM.out])
    go_ret
    exact ⟨rfl, hB.thru hb hB.size⟩
  rename_i hnp
  by_cases hp : x = 0
  · subst hp
    have HO : ofL l g 0 = ([], 0, 0) := by unfold ofL; rw [if_neg (by simp [HCS.out]), if_neg (by omega), if_pos rfl]
    rw [HO] at hx u0 u1 ⊢
    clear HO
    simp only [List.length_nil] at hx u0 u1 ⊢
    obtain ⟨XL, HXL⟩ : ∃ XL, Hid (XL = ([] : List (Int × Int))) := ⟨_, rfl⟩
    obtain ⟨WL, HWL⟩ : ∃ WL, Hid (WL = ([] : List (Int × Int))) := ⟨_, rfl⟩
    have HSM : Hid ((ordM XL 0 WL 0 == 0) = true) := by show _ = _; rw [HXL.out, HWL.out]; exact ordM_same _ _
    have HXN : Hid (List.length ([] : List (Int × Int)) = XL.length) := by show _ = _; rw [HXL.out]
    have HWN : Hid (List.length ([] : List (Int × Int)) = WL.length) := by show _ = _; rw [HWL.out]
    have hxl : XL.length ≤ maxLen := by rw [HXL.out]; first | exact Nat.zero_le _ | assumption
    have hwl : WL.length ≤ maxLen := by rw [HWL.out]; first | exact Nat.zero_le _ | assumption
    rw [← HXL.out] at hx
    by_cases hmn : m = [] ∧ d = 0
    · obtain ⟨rfl, rfl⟩ := hmn
      have HT : atL l g [] 0 = (0, 0) := by unfold atL; rw [if_neg (by simp [HCS.out]), if_pos ⟨rfl, rfl⟩]
      rw [HT]
      clear HT
      go_wp2_with fail
      refine (isNone_any _ _ _ _ _).mono ?_
      rintro e w5 ⟨rfl, hb⟩
      rw [show (((0 : Nat) == 0) && ((0 : Int) == 0)) = true from rfl]
      replace q0 := (hb.cell (p := ⟨Z, 0, none⟩) z0).trans q0
      replace q1 := (hb.cell (p := ⟨Z, 1, none⟩) z0).trans q1
      replace m0 := (hb.cell (p := ⟨Z + 1, 0, none⟩) z).trans m0
      replace m1 := (hb.cell (p := ⟨Z + 1, 1, none⟩) z).trans m1
      replace u0 := (hb.cell (p := ⟨U, 0, none⟩) zu).trans u0
      replace u1 := (hb.cell (p := ⟨U, 1, none⟩) zu).trans u1
      replace zu := Nat.lt_of_lt_of_le zu hb.size
      replace z0 := Nat.lt_of_lt_of_le z0 hb.size
      replace z := Nat.lt_of_lt_of_le z hb.size
      replace h := h.below hb (Nat.le_refl _)
      replace h' := h'.below hb (Nat.le_refl _)
      replace hx := hx.below hb (Nat.le_refl _)
      replace hB := hB.thru hb hB.size
      clear hb
      go_wp2_with fail
      have hw : StepsAt w5 none WL := by rw [HWL.out]; exact Or.inl rfl
      have hb := (Below.refl w5.heap.size w5).alloc (Nat.le_refl _) (Obj.cells #[.slice none 0 0, .int .i64 0] 41)
      have y0 : (w5.alloc (Obj.cells #[.slice none 0 0, .int .i64 0] 41)).cell? ⟨w5.heap.size, 0, none⟩ = some (.slice none 0 0) := by simp
      have y1 : (w5.alloc (Obj.cells #[.slice none 0 0, .int .i64 0] 41)).cell? ⟨w5.heap.size, 1, none⟩ = some (.int .i64 0) := by simp
      have zy : w5.heap.size < (w5.alloc (Obj.cells #[.slice none 0 0, .int .i64 0] 41)).heap.size := by simp
      replace hw := hw.below hb (Nat.le_refl _)
      replace q0 := (hb.cell (p := ⟨Z, 0, none⟩) z0).trans q0
      replace q1 := (hb.cell (p := ⟨Z, 1, none⟩) z0).trans q1
      replace m0 := (hb.cell (p := ⟨Z + 1, 0, none⟩) z).trans m0
      replace m1 := (hb.cell (p := ⟨Z + 1, 1, none⟩) z).trans m1
      replace u0 := (hb.cell (p := ⟨U, 0, none⟩) zu).trans u0
      replace u1 := (hb.cell (p := ⟨U, 1, none⟩) zu).trans u1
      replace zu := Nat.lt_of_lt_of_le zu hb.size
      replace z0 := Nat.lt_of_lt_of_le z0 hb.size
      replace z := Nat.lt_of_lt_of_le z hb.size
      replace h := h.below hb (Nat.le_refl _)
      replace h' := h'.below hb (Nat.le_refl _)
      replace hx := hx.below hb (Nat.le_refl _)
      replace hB := hB.thru hb hB.size
      generalize w5.alloc (Obj.cells #[.slice none 0 0, .int .i64 0] 41) = wy at hb y0 y1 zy q0 q1 m0 m1 u0 u1 z z0 zu h h' hx hw hB ⊢
      generalize w5.heap.size = Y at y0 y1 zy ⊢
      clear hb
      refine (caretAtR_ok _ _ _ _ _ _ l _ [] 0 _ HL3.out (by first | exact hm | exact Nat.zero_le _) h h').mono ?_
      rintro e w7 ⟨rfl, hb⟩
      rw [show cntN l [] 0 = 0 from rfl]
      replace q0 := (hb.cell (p := ⟨Z, 0, none⟩) z0).trans q0
      replace q1 := (hb.cell (p := ⟨Z, 1, none⟩) z0).trans q1
      replace m0 := (hb.cell (p := ⟨Z + 1, 0, none⟩) z).trans m0
      replace m1 := (hb.cell (p := ⟨Z + 1, 1, none⟩) z).trans m1
      replace u0 := (hb.cell (p := ⟨U, 0, none⟩) zu).trans u0
      replace u1 := (hb.cell (p := ⟨U, 1, none⟩) zu).trans u1
      replace y0 := (hb.cell (p := ⟨Y, 0, none⟩) zy).trans y0
      replace y1 := (hb.cell (p := ⟨Y, 1, none⟩) zy).trans y1
      replace zy := Nat.lt_of_lt_of_le zy hb.size
      replace hw := hw.below hb (Nat.le_refl _)
      replace zu := Nat.lt_of_lt_of_le zu hb.size
      replace z0 := Nat.lt_of_lt_of_le z0 hb.size
      replace z := Nat.lt_of_lt_of_le z hb.size
      replace h := h.below hb (Nat.le_refl _)
      replace h' := h'.below hb (Nat.le_refl _)
      replace hx := hx.below hb (Nat.le_refl _)
      replace hB := hB.thru hb hB.size
      clear hb
      go_wp2_with fail
      refine (caretBegun_true _).mono ?_
      rintro e wb ⟨rfl, hb⟩
      replace q0 := (hb.cell (p := ⟨Z, 0, none⟩) z0).trans q0
      replace q1 := (hb.cell (p := ⟨Z, 1, none⟩) z0).trans q1
      replace m0 := (hb.cell (p := ⟨Z + 1, 0, none⟩) z).trans m0
      replace m1 := (hb.cell (p := ⟨Z + 1, 1, none⟩) z).trans m1
      replace u0 := (hb.cell (p := ⟨U, 0, none⟩) zu).trans u0
      replace u1 := (hb.cell (p := ⟨U, 1, none⟩) zu).trans u1
      replace y0 := (hb.cell (p := ⟨Y, 0, none⟩) zy).trans y0
      replace y1 := (hb.cell (p := ⟨Y, 1, none⟩) zy).trans y1
      replace zy := Nat.lt_of_lt_of_le zy hb.size
      replace hw := hw.below hb (Nat.le_refl _)
      replace zu := Nat.lt_of_lt_of_le zu hb.size
      replace z0 := Nat.lt_of_lt_of_le z0 hb.size
      replace z := Nat.lt_of_lt_of_le z hb.size
      replace h := h.below hb (Nat.le_refl _)
      replace h' := h'.below hb (Nat.le_refl _)
      replace hx := hx.below hb (Nat.le_refl _)
      replace hB := hB.thru hb hB.size
      clear hb
      go_wp2_with (go_at_call 20; refine (sameMark_n _ _ _ _ _ _ XL WL _ _ _ HXN.out HWN.out hxl hwl hx hw).mono ?_; rintro e ws ⟨rfl, hb⟩; rw [HSM.out])
      go_ret
      exact ⟨rfl, hB.thru hb hB.size⟩
    by_cases hck : chk m d = 0
    case neg =>
      have HT : atL l g m d = (0, chk m d) := by unfold atL; rw [if_neg (by simp [HCS.out]), if_neg hmn, if_pos hck]
      rw [HT]
      have HNN : Hid ((m.length == 0 && d == 0) = false) := by show _ = _; exact notNone hmn
      have HMN := hidE hmn
      clear HT hmn
      have hckb : (chk m d == 0) = false := by rw [beq_eq_false_iff_ne]; exact hck
      clear hck
      go_wp2_with fail
      refine (isNone_any _ _ _ _ _).mono ?_
      rintro e w5 ⟨rfl, hb⟩
      rw [HNN.out]
      replace q0 := (hb.cell (p := ⟨Z, 0, none⟩) z0).trans q0
      replace q1 := (hb.cell (p := ⟨Z, 1, none⟩) z0).trans q1
      replace m0 := (hb.cell (p := ⟨Z + 1, 0, none⟩) z).trans m0
      replace m1 := (hb.cell (p := ⟨Z + 1, 1, none⟩) z).trans m1
      replace u0 := (hb.cell (p := ⟨U, 0, none⟩) zu).trans u0
      replace u1 := (hb.cell (p := ⟨U, 1, none⟩) zu).trans u1
      replace zu := Nat.lt_of_lt_of_le zu hb.size
      replace z0 := Nat.lt_of_lt_of_le z0 hb.size
      replace z := Nat.lt_of_lt_of_le z hb.size
      replace h := h.below hb (Nat.le_refl _)
      replace h' := h'.below hb (Nat.le_refl _)
      replace hx := hx.below hb (Nat.le_refl _)
      replace hB := hB.thru hb hB.size
      clear hb
      go_wp2_with fail
      refine (checkMark_any _ _ m _ _ hm h').mono ?_
      rintro e w6 ⟨rfl, hb⟩
      replace q0 := (hb.cell (p := ⟨Z, 0, none⟩) z0).trans q0
      replace q1 := (hb.cell (p := ⟨Z, 1, none⟩) z0).trans q1
      replace m0 := (hb.cell (p := ⟨Z + 1, 0, none⟩) z).trans m0
      replace m1 := (hb.cell (p := ⟨Z + 1, 1, none⟩) z).trans m1
      replace u0 := (hb.cell (p := ⟨U, 0, none⟩) zu).trans u0
      replace u1 := (hb.cell (p := ⟨U, 1, none⟩) zu).trans u1
      replace zu := Nat.lt_of_lt_of_le zu hb.size
      replace z0 := Nat.lt_of_lt_of_le z0 hb.size
      replace z := Nat.lt_of_lt_of_le z hb.size
      replace h := h.below hb (Nat.le_refl _)
      replace h' := h'.below hb (Nat.le_refl _)
      replace hx := hx.below hb (Nat.le_refl _)
      replace hB := hB.thru hb hB.size
      clear hb
      go_wp2_with fail
      have hw : StepsAt w6 none WL := by rw [HWL.out]; exact Or.inl rfl
      have hb := (Below.refl w6.heap.size w6).alloc (Nat.le_refl _) (Obj.cells #[.slice none 0 0, .int .i64 0] 41)
      have y0 : (w6.alloc (Obj.cells #[.slice none 0 0, .int .i64 0] 41)).cell? ⟨w6.heap.size, 0, none⟩ = some (.slice none 0 0) := by simp
      have y1 : (w6.alloc (Obj.cells #[.slice none 0 0, .int .i64 0] 41)).cell? ⟨w6.heap.size, 1, none⟩ = some (.int .i64 0) := by simp
      have zy : w6.heap.size < (w6.alloc (Obj.cells #[.slice none 0 0, .int .i64 0] 41)).heap.size := by simp
      replace hw := hw.below hb (Nat.le_refl _)
      replace q0 := (hb.cell (p := ⟨Z, 0, none⟩) z0).trans q0
      replace q1 := (hb.cell (p := ⟨Z, 1, none⟩) z0).trans q1
      replace m0 := (hb.cell (p := ⟨Z + 1, 0, none⟩) z).trans m0
      replace m1 := (hb.cell (p := ⟨Z + 1, 1, none⟩) z).trans m1
      replace u0 := (hb.cell (p := ⟨U, 0, none⟩) zu).trans u0
      replace u1 := (hb.cell (p := ⟨U, 1, none⟩) zu).trans u1
      replace zu := Nat.lt_of_lt_of_le zu hb.size
      replace z0 := Nat.lt_of_lt_of_le z0 hb.size
      replace z := Nat.lt_of_lt_of_le z hb.size
      replace h := h.below hb (Nat.le_refl _)
      replace h' := h'.below hb (Nat.le_refl _)
      replace hx := hx.below hb (Nat.le_refl _)
      replace hB := hB.thru hb hB.size
      generalize w6.alloc (Obj.cells #[.slice none 0 0, .int .i64 0] 41) = wy at hb y0 y1 zy q0 q1 m0 m1 u0 u1 z z0 zu h h' hx hw hB ⊢
      generalize w6.heap.size = Y at y0 y1 zy ⊢
      clear hb
      refine (caretBegun_true _).mono ?_
      rintro e wb ⟨rfl, hb⟩
      replace q0 := (hb.cell (p := ⟨Z, 0, none⟩) z0).trans q0
      replace q1 := (hb.cell (p := ⟨Z, 1, none⟩) z0).trans q1
      replace m0 := (hb.cell (p := ⟨Z + 1, 0, none⟩) z).trans m0
      replace m1 := (hb.cell (p := ⟨Z + 1, 1, none⟩) z).trans m1
      replace u0 := (hb.cell (p := ⟨U, 0, none⟩) zu).trans u0
      replace u1 := (hb.cell (p := ⟨U, 1, none⟩) zu).trans u1
      replace y0 := (hb.cell (p := ⟨Y, 0, none⟩) zy).trans y0
      replace y1 := (hb.cell (p := ⟨Y, 1, none⟩) zy).trans y1
      replace zy := Nat.lt_of_lt_of_le zy hb.size
      replace hw := hw.below hb (Nat.le_refl _)
      replace zu := Nat.lt_of_lt_of_le zu hb.size
      replace z0 := Nat.lt_of_lt_of_le z0 hb.size
      replace z := Nat.lt_of_lt_of_le z hb.size
      replace h := h.below hb (Nat.le_refl _)
      replace h' := h'.below hb (Nat.le_refl _)
      replace hx := hx.below hb (Nat.le_refl _)
      replace hB := hB.thru hb hB.size
      clear hb
      go_wp2_with (go_at_call 20; refine (sameMark_n _ _ _ _ _ _ XL WL _ _ _ HXN.out HWN.out hxl hwl hx hw).mono ?_; rintro e ws ⟨rfl, hb⟩; rw [HSM.out])
      go_ret
      exact ⟨rfl, hB.thru hb hB.size⟩
    have HCN : Hid (cntN l m d = caretN l m d) := by show _ = _; unfold cntN; rw [notNone hmn]; rfl
    have HT : atL l g m d = (caretN l m d, chk m d) := by unfold atL; rw [if_neg (by simp [HCS.out]), if_neg hmn, if_neg (by simpa using hck), hck]
    rw [HT]
    have HNN : Hid ((m.length == 0 && d == 0) = false) := by show _ = _; exact notNone hmn
    have HMN := hidE hmn
    clear HT hmn
    rw [hck]
    have HCK := hidE hck
    clear hck
    go_wp2_with fail
    refine (isNone_any _ _ _ _ _).mono ?_
    rintro e w5 ⟨rfl, hb⟩
    rw [HNN.out]
    replace q0 := (hb.cell (p := ⟨Z, 0, none⟩) z0).trans q0
    replace q1 := (hb.cell (p := ⟨Z, 1, none⟩) z0).trans q1
    replace m0 := (hb.cell (p := ⟨Z + 1, 0, none⟩) z).trans m0
    replace m1 := (hb.cell (p := ⟨Z + 1, 1, none⟩) z).trans m1
    replace u0 := (hb.cell (p := ⟨U, 0, none⟩) zu).trans u0
    replace u1 := (hb.cell (p := ⟨U, 1, none⟩) zu).trans u1
    replace zu := Nat.lt_of_lt_of_le zu hb.size
    replace z0 := Nat.lt_of_lt_of_le z0 hb.size
    replace z := Nat.lt_of_lt_of_le z hb.size
    replace h := h.below hb (Nat.le_refl _)
    replace h' := h'.below hb (Nat.le_refl _)
    replace hx := hx.below hb (Nat.le_refl _)
    replace hB := hB.thru hb hB.size
    clear hb
    go_wp2_with fail
    refine (checkMark_any _ _ m _ _ hm h').mono ?_
    rintro e w6 ⟨rfl, hb⟩
    rw [HCK.out]
    replace q0 := (hb.cell (p := ⟨Z, 0, none⟩) z0).trans q0
    replace q1 := (hb.cell (p := ⟨Z, 1, none⟩) z0).trans q1
    replace m0 := (hb.cell (p := ⟨Z + 1, 0, none⟩) z).trans m0
    replace m1 := (hb.cell (p := ⟨Z + 1, 1, none⟩) z).trans m1
    replace u0 := (hb.cell (p := ⟨U, 0, none⟩) zu).trans u0
    replace u1 := (hb.cell (p := ⟨U, 1, none⟩) zu).trans u1
    replace zu := Nat.lt_of_lt_of_le zu hb.size
    replace z0 := Nat.lt_of_lt_of_le z0 hb.size
    replace z := Nat.lt_of_lt_of_le z hb.size
    replace h := h.below hb (Nat.le_refl _)
    replace h' := h'.below hb (Nat.le_refl _)
    replace hx := hx.below hb (Nat.le_refl _)
    replace hB := hB.thru hb hB.size
    clear hb
    go_wp2_with fail
    have hw : StepsAt w6 none WL := by rw [HWL.out]; exact Or.inl rfl
    have hb := (Below.refl w6.heap.size w6).alloc (Nat.le_refl _) (Obj.cells #[.slice none 0 0, .int .i64 0] 41)
    have y0 : (w6.alloc (Obj.cells #[.slice none 0 0, .int .i64 0] 41)).cell? ⟨w6.heap.size, 0, none⟩ = some (.slice none 0 0) := by simp
    have y1 : (w6.alloc (Obj.cells #[.slice none 0 0, .int .i64 0] 41)).cell? ⟨w6.heap.size, 1, none⟩ = some (.int .i64 0) := by simp
    have zy : w6.heap.size < (w6.alloc (Obj.cells #[.slice none 0 0, .int .i64 0] 41)).heap.size := by simp
    replace hw := hw.below hb (Nat.le_refl _)
    replace q0 := (hb.cell (p := ⟨Z, 0, none⟩) z0).trans q0
    replace q1 := (hb.cell (p := ⟨Z, 1, none⟩) z0).trans q1
    replace m0 := (hb.cell (p := ⟨Z + 1, 0, none⟩) z).trans m0
    replace m1 := (hb.cell (p := ⟨Z + 1, 1, none⟩) z).trans m1
    replace u0 := (hb.cell (p := ⟨U, 0, none⟩) zu).trans u0
    replace u1 := (hb.cell (p := ⟨U, 1, none⟩) zu).trans u1
    replace zu := Nat.lt_of_lt_of_le zu hb.size
    replace z0 := Nat.lt_of_lt_of_le z0 hb.size
    replace z := Nat.lt_of_lt_of_le z hb.size
    replace h := h.below hb (Nat.le_refl _)
    replace h' := h'.below hb (Nat.le_refl _)
    replace hx := hx.below hb (Nat.le_refl _)
    replace hB := hB.thru hb hB.size
    generalize w6.alloc (Obj.cells #[.slice none 0 0, .int .i64 0] 41) = wy at hb y0 y1 zy q0 q1 m0 m1 u0 u1 z z0 zu h h' hx hw hB ⊢
    generalize w6.heap.size = Y at y0 y1 zy ⊢
    clear hb
    refine (caretAtR_ok _ _ _ _ _ _ l _ m d _ HL3.out (by first | exact hm | exact Nat.zero_le _) h h').mono ?_
    rintro e w7 ⟨rfl, hb⟩
    rw [HCN.out]
    replace q0 := (hb.cell (p := ⟨Z, 0, none⟩) z0).trans q0
    replace q1 := (hb.cell (p := ⟨Z, 1, none⟩) z0).trans q1
    replace m0 := (hb.cell (p := ⟨Z + 1, 0, none⟩) z).trans m0
    replace m1 := (hb.cell (p := ⟨Z + 1, 1, none⟩) z).trans m1
    replace u0 := (hb.cell (p := ⟨U, 0, none⟩) zu).trans u0
    replace u1 := (hb.cell (p := ⟨U, 1, none⟩) zu).trans u1
    replace y0 := (hb.cell (p := ⟨Y, 0, none⟩) zy).trans y0
    replace y1 := (hb.cell (p := ⟨Y, 1, none⟩) zy).trans y1
    replace zy := Nat.lt_of_lt_of_le zy hb.size
    replace hw := hw.below hb (Nat.le_refl _)
    replace zu := Nat.lt_of_lt_of_le zu hb.size
    replace z0 := Nat.lt_of_lt_of_le z0 hb.size
    replace z := Nat.lt_of_lt_of_le z hb.size
    replace h := h.below hb (Nat.le_refl _)
    replace h' := h'.below hb (Nat.le_refl _)
    replace hx := hx.below hb (Nat.le_refl _)
    replace hB := hB.thru hb hB.size
    clear hb
    go_wp2_with fail
    refine (caretBegun_true _).mono ?_
    rintro e wb ⟨rfl, hb⟩
    replace q0 := (hb.cell (p := ⟨Z, 0, none⟩) z0).trans q0
    replace q1 := (hb.cell (p := ⟨Z, 1, none⟩) z0).trans q1
    replace m0 := (hb.cell (p := ⟨Z + 1, 0, none⟩) z).trans m0
    replace m1 := (hb.cell (p := ⟨Z + 1, 1, none⟩) z).trans m1
    replace u0 := (hb.cell (p := ⟨U, 0, none⟩) zu).trans u0
    replace u1 := (hb.cell (p := ⟨U, 1, none⟩) zu).trans u1
    replace y0 := (hb.cell (p := ⟨Y, 0, none⟩) zy).trans y0
    replace y1 := (hb.cell (p := ⟨Y, 1, none⟩) zy).trans y1
    replace zy := Nat.lt_of_lt_of_le zy hb.size
    replace hw := hw.below hb (Nat.le_refl _)
    replace zu := Nat.lt_of_lt_of_le zu hb.size
    replace z0 := Nat.lt_of_lt_of_le z0 hb.size
    replace z := Nat.lt_of_lt_of_le z hb.size
    replace h := h.below hb (Nat.le_refl _)
    replace h' := h'.below hb (Nat.le_refl _)
    replace hx := hx.below hb (Nat.le_refl _)
    replace hB := hB.thru hb hB.size
    clear hb
    go_wp2_with (go_at_call 20; refine (sameMark_n _ _ _ _ _ _ XL WL _ _ _ HXN.out HWN.out hxl hwl hx hw).mono ?_; rintro e ws ⟨rfl, hb⟩; rw [HSM.out])
    go_ret
    exact ⟨rfl, hB.thru hb hB.size⟩
  obtain ⟨k, rfl⟩ : ∃ k : Nat, x = (k : Int) + 1 := ⟨x.toNat - 1, by omega⟩
  have hk : k < l.length := by omega
  have HO : ofL l g ((k : Int) + 1) = (l[k].path, l[k].clock, 0) := by
    unfold ofL
    rw [if_neg (by simp [HCS.out]), if_neg (by omega), if_neg (by omega)]
    have e : (((k : Int) + 1).toNat - 1) = k := by omega
    rw [e, List.getElem?_eq_getElem hk]
  rw [HO] at hx u0 u1 ⊢
  clear HO
  simp only at hx u0 u1 ⊢
  have hd0 : decide ((k : Int) + 1 < 0) = false := decide_eq_false (by omega)
  have hd1 : decide ((k : Int) + 1 > (l.length : Int)) = false := decide_eq_false (by omega)
  have hd2 : decide ((k : Int) + 1 > 0) = true := decide_eq_true (by omega)
  have hi1 : (k : Int) < l.length := by omega
  have hl3 := HL3.out
  have hw1 : IntKind.i64.wrap ((k : Int) + 1 - 1) = (k : Int) := by rw [IntKind.wrap_i64] <;> omega
  have hpl : l[k].path.length ≤ maxLen := by have := (okPath HOK.out k hk).2; omega
  obtain ⟨pk, HPK⟩ : ∃ pk, Hid (l[k].path = pk) := ⟨l[k].path, hidE rfl⟩
  obtain ⟨ck, HKK⟩ : ∃ ck, Hid (l[k].clock = ck) := ⟨l[k].clock, hidE rfl⟩
  rw [HPK.out] at hx u0 hpl ⊢
  rw [HKK.out] at u1 ⊢
  clear hp hnp
  obtain ⟨XL, HXL⟩ : ∃ XL, Hid (XL = (pk : List (Int × Int))) := ⟨_, rfl⟩
  obtain ⟨WL, HWL⟩ : ∃ WL, Hid (WL = (pk : List (Int × Int))) := ⟨_, rfl⟩
  have HSM : Hid ((ordM XL ck WL ck == 0) = true) := by show _ = _; rw [HXL.out, HWL.out]; exact ordM_same _ _
  have HXN : Hid (List.length pk = XL.length) := by show _ = _; rw [HXL.out]
  have HWN : Hid (List.length pk = WL.length) := by show _ = _; rw [HWL.out]
  have hxl : XL.length ≤ maxLen := by rw [HXL.out]; first | exact Nat.zero_le _ | assumption
  have hwl : WL.length ≤ maxLen := by rw [HWL.out]; first | exact Nat.zero_le _ | assumption
  rw [← HXL.out] at hx
  by_cases hmn : m = [] ∧ d = 0
  · obtain ⟨rfl, rfl⟩ := hmn
    have HT : atL l g [] 0 = (0, 0) := by unfold atL; rw [if_neg (by simp [HCS.out]), if_pos ⟨rfl, rfl⟩]
    rw [HT]
    clear HT
    go_wp2_with fail
    refine (isNone_any _ _ _ _ _).mono ?_
    rintro e w5 ⟨rfl, hb⟩
    rw [show (((0 : Nat) == 0) && ((0 : Int) == 0)) = true from rfl]
    replace q0 := (hb.cell (p := ⟨Z, 0, none⟩) z0).trans q0
    replace q1 := (hb.cell (p := ⟨Z, 1, none⟩) z0).trans q1
    replace m0 := (hb.cell (p := ⟨Z + 1, 0, none⟩) z).trans m0
    replace m1 := (hb.cell (p := ⟨Z + 1, 1, none⟩) z).trans m1
    replace u0 := (hb.cell (p := ⟨U, 0, none⟩) zu).trans u0
    replace u1 := (hb.cell (p := ⟨U, 1, none⟩) zu).trans u1
    replace zu := Nat.lt_of_lt_of_le zu hb.size
    replace z0 := Nat.lt_of_lt_of_le z0 hb.size
    replace z := Nat.lt_of_lt_of_le z hb.size
    replace h := h.below hb (Nat.le_refl _)
    replace h' := h'.below hb (Nat.le_refl _)
    replace hx := hx.below hb (Nat.le_refl _)
    replace hB := hB.thru hb hB.size
    clear hb
    rcases h with hs | ⟨ab, ao, rfl, hab, hcc⟩
    · simp [hs] at hk
    obtain ⟨pp, cq, c0, c1, c2, hst, hle, _⟩ := hcc k hk
    have h : AtomsAt w5 (some ⟨ab, ao, none⟩) l := Or.inr ⟨ab, ao, rfl, hab, hcc⟩
    clear hcc
    rw [HPK.out] at c0 hst hle
    rw [HKK.out] at c1
    go_wp2_with fail
    have hw : StepsAt w5 pp WL := by rw [HWL.out]; exact hst
    have hb := (Below.refl w5.heap.size w5).alloc (Nat.le_refl _) (Obj.cells #[.slice pp pk.length cq, .int .i64 ck] 41)
    have y0 : (w5.alloc (Obj.cells #[.slice pp pk.length cq, .int .i64 ck] 41)).cell? ⟨w5.heap.size, 0, none⟩ = some (.slice pp pk.length cq) := by simp
    have y1 : (w5.alloc (Obj.cells #[.slice pp pk.length cq, .int .i64 ck] 41)).cell? ⟨w5.heap.size, 1, none⟩ = some (.int .i64 ck) := by simp
    have zy : w5.heap.size < (w5.alloc (Obj.cells #[.slice pp pk.length cq, .int .i64 ck] 41)).heap.size := by simp
    replace hw := hw.below hb (Nat.le_refl _)
    replace q0 := (hb.cell (p := ⟨Z, 0, none⟩) z0).trans q0
    replace q1 := (hb.cell (p := ⟨Z, 1, none⟩) z0).trans q1
    replace m0 := (hb.cell (p := ⟨Z + 1, 0, none⟩) z).trans m0
    replace m1 := (hb.cell (p := ⟨Z + 1, 1, none⟩) z).trans m1
    replace u0 := (hb.cell (p := ⟨U, 0, none⟩) zu).trans u0
    replace u1 := (hb.cell (p := ⟨U, 1, none⟩) zu).trans u1
    replace zu := Nat.lt_of_lt_of_le zu hb.size
    replace z0 := Nat.lt_of_lt_of_le z0 hb.size
    replace z := Nat.lt_of_lt_of_le z hb.size
    replace h := h.below hb (Nat.le_refl _)
    replace h' := h'.below hb (Nat.le_refl _)
    replace hx := hx.below hb (Nat.le_refl _)
    replace hB := hB.thru hb hB.size
    generalize w5.alloc (Obj.cells #[.slice pp pk.length cq, .int .i64 ck] 41) = wy at hb y0 y1 zy q0 q1 m0 m1 u0 u1 z z0 zu h h' hx hw hB ⊢
    generalize w5.heap.size = Y at y0 y1 zy ⊢
    clear hb
    refine (caretAtR_ok _ _ _ _ _ _ l _ [] 0 _ HL3.out (by first | exact hm | exact Nat.zero_le _) h h').mono ?_
    rintro e w7 ⟨rfl, hb⟩
    rw [show cntN l [] 0 = 0 from rfl]
    replace q0 := (hb.cell (p := ⟨Z, 0, none⟩) z0).trans q0
    replace q1 := (hb.cell (p := ⟨Z, 1, none⟩) z0).trans q1
    replace m0 := (hb.cell (p := ⟨Z + 1, 0, none⟩) z).trans m0
    replace m1 := (hb.cell (p := ⟨Z + 1, 1, none⟩) z).trans m1
    replace u0 := (hb.cell (p := ⟨U, 0, none⟩) zu).trans u0
    replace u1 := (hb.cell (p := ⟨U, 1, none⟩) zu).trans u1
    replace y0 := (hb.cell (p := ⟨Y, 0, none⟩) zy).trans y0
    replace y1 := (hb.cell (p := ⟨Y, 1, none⟩) zy).trans y1
    replace zy := Nat.lt_of_lt_of_le zy hb.size
    replace hw := hw.below hb (Nat.le_refl _)
    replace zu := Nat.lt_of_lt_of_le zu hb.size
    replace z0 := Nat.lt_of_lt_of_le z0 hb.size
    replace z := Nat.lt_of_lt_of_le z hb.size
    replace h := h.below hb (Nat.le_refl _)
    replace h' := h'.below hb (Nat.le_refl _)
    replace hx := hx.below hb (Nat.le_refl _)
    replace hB := hB.thru hb hB.size
    clear hb
    go_wp2_with fail
    refine (caretBegun_true _).mono ?_
    rintro e wb ⟨rfl, hb⟩
    replace q0 := (hb.cell (p := ⟨Z, 0, none⟩) z0).trans q0
    replace q1 := (hb.cell (p := ⟨Z, 1, none⟩) z0).trans q1
    replace m0 := (hb.cell (p := ⟨Z + 1, 0, none⟩) z).trans m0
    replace m1 := (hb.cell (p := ⟨Z + 1, 1, none⟩) z).trans m1
    replace u0 := (hb.cell (p := ⟨U, 0, none⟩) zu).trans u0
    replace u1 := (hb.cell (p := ⟨U, 1, none⟩) zu).trans u1
    replace y0 := (hb.cell (p := ⟨Y, 0, none⟩) zy).trans y0
    replace y1 := (hb.cell (p := ⟨Y, 1, none⟩) zy).trans y1
    replace zy := Nat.lt_of_lt_of_le zy hb.size
    replace hw := hw.below hb (Nat.le_refl _)
    replace zu := Nat.lt_of_lt_of_le zu hb.size
    replace z0 := Nat.lt_of_lt_of_le z0 hb.size
    replace z := Nat.lt_of_lt_of_le z hb.size
    replace h := h.below hb (Nat.le_refl _)
    replace h' := h'.below hb (Nat.le_refl _)
    replace hx := hx.below hb (Nat.le_refl _)
    replace hB := hB.thru hb hB.size
    clear hb
    go_wp2_with (go_at_call 20; refine (sameMark_n _ _ _ _ _ _ XL WL _ _ _ HXN.out HWN.out hxl hwl hx hw).mono ?_; rintro e ws ⟨rfl, hb⟩; rw [HSM.out])
    go_ret
    exact ⟨rfl, hB.thru hb hB.size⟩
  by_cases hck : chk m d = 0
  case neg =>
    have HT : atL l g m d = (0, chk m d) := by unfold atL; rw [if_neg (by simp [HCS.out]), if_neg hmn, if_pos hck]
    rw [HT]
    have HNN : Hid ((m.length == 0 && d == 0) = false) := by show _ = _; exact notNone hmn
    have HMN := hidE hmn
    clear HT hmn
    have hckb : (chk m d == 0) = false := by rw [beq_eq_false_iff_ne]; exact hck
    clear hck
    go_wp2_with fail
    refine (isNone_any _ _ _ _ _).mono ?_
    rintro e w5 ⟨rfl, hb⟩
    rw [HNN.out]
    replace q0 := (hb.cell (p := ⟨Z, 0, none⟩) z0).trans q0
    replace q1 := (hb.cell (p := ⟨Z, 1, none⟩) z0).trans q1
    replace m0 := (hb.cell (p := ⟨Z + 1, 0, none⟩) z).trans m0
    replace m1 := (hb.cell (p := ⟨Z + 1, 1, none⟩) z).trans m1
    replace u0 := (hb.cell (p := ⟨U, 0, none⟩) zu).trans u0
    replace u1 := (hb.cell (p := ⟨U, 1, none⟩) zu).trans u1
    replace zu := Nat.lt_of_lt_of_le zu hb.size
    replace z0 := Nat.lt_of_lt_of_le z0 hb.size
    replace z := Nat.lt_of_lt_of_le z hb.size
    replace h := h.below hb (Nat.le_refl _)
    replace h' := h'.below hb (Nat.le_refl _)
    replace hx := hx.below hb (Nat.le_refl _)
    replace hB := hB.thru hb hB.size
    clear hb
    go_wp2_with fail
    refine (checkMark_any _ _ m _ _ hm h').mono ?_
    rintro e w6 ⟨rfl, hb⟩
    replace q0 := (hb.cell (p := ⟨Z, 0, none⟩) z0).trans q0
    replace q1 := (hb.cell (p := ⟨Z, 1, none⟩) z0).trans q1
    replace m0 := (hb.cell (p := ⟨Z + 1, 0, none⟩) z).trans m0
    replace m1 := (hb.cell (p := ⟨Z + 1, 1, none⟩) z).trans m1
    replace u0 := (hb.cell (p := ⟨U, 0, none⟩) zu).trans u0
    replace u1 := (hb.cell (p := ⟨U, 1, none⟩) zu).trans u1
    replace zu := Nat.lt_of_lt_of_le zu hb.size
    replace z0 := Nat.lt_of_lt_of_le z0 hb.size
    replace z := Nat.lt_of_lt_of_le z hb.size
    replace h := h.below hb (Nat.le_refl _)
    replace h' := h'.below hb (Nat.le_refl _)
    replace hx := hx.below hb (Nat.le_refl _)
    replace hB := hB.thru hb hB.size
    clear hb
    rcases h with hs | ⟨ab, ao, rfl, hab, hcc⟩
    · simp [hs] at hk
    obtain ⟨pp, cq, c0, c1, c2, hst, hle, _⟩ := hcc k hk
    have h : AtomsAt w6 (some ⟨ab, ao, none⟩) l := Or.inr ⟨ab, ao, rfl, hab, hcc⟩
    clear hcc
    rw [HPK.out] at c0 hst hle
    rw [HKK.out] at c1
    go_wp2_with fail
    have hw : StepsAt w6 pp WL := by rw [HWL.out]; exact hst
    have hb := (Below.refl w6.heap.size w6).alloc (Nat.le_refl _) (Obj.cells #[.slice pp pk.length cq, .int .i64 ck] 41)
    have y0 : (w6.alloc (Obj.cells #[.slice pp pk.length cq, .int .i64 ck] 41)).cell? ⟨w6.heap.size, 0, none⟩ = some (.slice pp pk.length cq) := by simp
    have y1 : (w6.alloc (Obj.cells #[.slice pp pk.length cq, .int .i64 ck] 41)).cell? ⟨w6.heap.size, 1, none⟩ = some (.int .i64 ck) := by simp
    have zy : w6.heap.size < (w6.alloc (Obj.cells #[.slice pp pk.length cq, .int .i64 ck] 41)).heap.size := by simp
    replace hw := hw.below hb (Nat.le_refl _)
    replace q0 := (hb.cell (p := ⟨Z, 0, none⟩) z0).trans q0
    replace q1 := (hb.cell (p := ⟨Z, 1, none⟩) z0).trans q1
    replace m0 := (hb.cell (p := ⟨Z + 1, 0, none⟩) z).trans m0
    replace m1 := (hb.cell (p := ⟨Z + 1, 1, none⟩) z).trans m1
    replace u0 := (hb.cell (p := ⟨U, 0, none⟩) zu).trans u0
    replace u1 := (hb.cell (p := ⟨U, 1, none⟩) zu).trans u1
    replace zu := Nat.lt_of_lt_of_le zu hb.size
    replace z0 := Nat.lt_of_lt_of_le z0 hb.size
    replace z := Nat.lt_of_lt_of_le z hb.size
    replace h := h.below hb (Nat.le_refl _)
    replace h' := h'.below hb (Nat.le_refl _)
    replace hx := hx.below hb (Nat.le_refl _)
    replace hB := hB.thru hb hB.size
    generalize w6.alloc (Obj.cells #[.slice pp pk.length cq, .int .i64 ck] 41) = wy at hb y0 y1 zy q0 q1 m0 m1 u0 u1 z z0 zu h h' hx hw hB ⊢
    generalize w6.heap.size = Y at y0 y1 zy ⊢
    clear hb
    refine (caretBegun_true _).mono ?_
    rintro e wb ⟨rfl, hb⟩
    replace q0 := (hb.cell (p := ⟨Z, 0, none⟩) z0).trans q0
    replace q1 := (hb.cell (p := ⟨Z, 1, none⟩) z0).trans q1
    replace m0 := (hb.cell (p := ⟨Z + 1, 0, none⟩) z).trans m0
    replace m1 := (hb.cell (p := ⟨Z + 1, 1, none⟩) z).trans m1
    replace u0 := (hb.cell (p := ⟨U, 0, none⟩) zu).trans u0
    replace u1 := (hb.cell (p := ⟨U, 1, none⟩) zu).trans u1
    replace y0 := (hb.cell (p := ⟨Y, 0, none⟩) zy).trans y0
    replace y1 := (hb.cell (p := ⟨Y, 1, none⟩) zy).trans y1
    replace zy := Nat.lt_of_lt_of_le zy hb.size
    replace hw := hw.below hb (Nat.le_refl _)
    replace zu := Nat.lt_of_lt_of_le zu hb.size
    replace z0 := Nat.lt_of_lt_of_le z0 hb.size
    replace z := Nat.lt_of_lt_of_le z hb.size
    replace h := h.below hb (Nat.le_refl _)
    replace h' := h'.below hb (Nat.le_refl _)
    replace hx := hx.below hb (Nat.le_refl _)
    replace hB := hB.thru hb hB.size
    clear hb
    go_wp2_with (go_at_call 20; refine (sameMark_n _ _ _ _ _ _ XL WL _ _ _ HXN.out HWN.out hxl hwl hx hw).mono ?_; rintro e ws ⟨rfl, hb⟩; rw [HSM.out])
    go_ret
    exact ⟨rfl, hB.thru hb hB.size⟩
  have HCN : Hid (cntN l m d = caretN l m d) := by show _ = _; unfold cntN; rw [notNone hmn]; rfl
  have HT : atL l g m d = (caretN l m d, chk m d) := by unfold atL; rw [if_neg (by simp [HCS.out]), if_neg hmn, if_neg (by simpa using hck), hck]
  rw [HT]
  have HNN : Hid ((m.length == 0 && d == 0) = false) := by show _ = _; exact notNone hmn
  have HMN := hidE hmn
  clear HT hmn
  rw [hck]
  have HCK := hidE hck
  clear hck
  go_wp2_with fail
  refine (isNone_any _ _ _ _ _).mono ?_
  rintro e w5 ⟨rfl, hb⟩
  rw [HNN.out]
  replace q0 := (hb.cell (p := ⟨Z, 0, none⟩) z0).trans q0
  replace q1 := (hb.cell (p := ⟨Z, 1, none⟩) z0).trans q1
  replace m0 := (hb.cell (p := ⟨Z + 1, 0, none⟩) z).trans m0
  replace m1 := (hb.cell (p := ⟨Z + 1, 1, none⟩) z).trans m1
  replace u0 := (hb.cell (p := ⟨U, 0, none⟩) zu).trans u0
  replace u1 := (hb.cell (p := ⟨U, 1, none⟩) zu).trans u1
  replace zu := Nat.lt_of_lt_of_le zu hb.size
  replace z0 := Nat.lt_of_lt_of_le z0 hb.size
  replace z := Nat.lt_of_lt_of_le z hb.size
  replace h := h.below hb (Nat.le_refl _)
  replace h' := h'.below hb (Nat.le_refl _)
  replace hx := hx.below hb (Nat.le_refl _)
  replace hB := hB.thru hb hB.size
  clear hb
  go_wp2_with fail
  refine (checkMark_any _ _ m _ _ hm h').mono ?_
  rintro e w6 ⟨rfl, hb⟩
  rw [HCK.out]
  replace q0 := (hb.cell (p := ⟨Z, 0, none⟩) z0).trans q0
  replace q1 := (hb.cell (p := ⟨Z, 1, none⟩) z0).trans q1
  replace m0 := (hb.cell (p := ⟨Z + 1, 0, none⟩) z).trans m0
  replace m1 := (hb.cell (p := ⟨Z + 1, 1, none⟩) z).trans m1
  replace u0 := (hb.cell (p := ⟨U, 0, none⟩) zu).trans u0
  replace u1 := (hb.cell (p := ⟨U, 1, none⟩) zu).trans u1
  replace zu := Nat.lt_of_lt_of_le zu hb.size
  replace z0 := Nat.lt_of_lt_of_le z0 hb.size
  replace z := Nat.lt_of_lt_of_le z hb.size
  replace h := h.below hb (Nat.le_refl _)
  replace h' := h'.below hb (Nat.le_refl _)
  replace hx := hx.below hb (Nat.le_refl _)
  replace hB := hB.thru hb hB.size
  clear hb
  rcases h with hs | ⟨ab, ao, rfl, hab, hcc⟩
  · simp [hs] at hk
  obtain ⟨pp, cq, c0, c1, c2, hst, hle, _⟩ := hcc k hk
  have h : AtomsAt w6 (some ⟨ab, ao, none⟩) l := Or.inr ⟨ab, ao, rfl, hab, hcc⟩
  clear hcc
  rw [HPK.out] at c0 hst hle
  rw [HKK.out] at c1
  go_wp2_with fail
  have hw : StepsAt w6 pp WL := by rw [HWL.out]; exact hst
  have hb := (Below.refl w6.heap.size w6).alloc (Nat.le_refl _) (Obj.cells #[.slice pp pk.length cq, .int .i64 ck] 41)
  have y0 : (w6.alloc (Obj.cells #[.slice pp pk.length cq, .int .i64 ck] 41)).cell? ⟨w6.heap.size, 0, none⟩ = some (.slice pp pk.length cq) := by simp
  have y1 : (w6.alloc (Obj.cells #[.slice pp pk.length cq, .int .i64 ck] 41)).cell? ⟨w6.heap.size, 1, none⟩ = some (.int .i64 ck) := by simp
  have zy : w6.heap.size < (w6.alloc (Obj.cells #[.slice pp pk.length cq, .int .i64 ck] 41)).heap.size := by simp
  replace hw := hw.below hb (Nat.le_refl _)
  replace q0 := (hb.cell (p := ⟨Z, 0, none⟩) z0).trans q0
  replace q1 := (hb.cell (p := ⟨Z, 1, none⟩) z0).trans q1
  replace m0 := (hb.cell (p := ⟨Z + 1, 0, none⟩) z).trans m0
  replace m1 := (hb.cell (p := ⟨Z + 1, 1, none⟩) z).trans m1
  replace u0 := (hb.cell (p := ⟨U, 0, none⟩) zu).trans u0
  replace u1 := (hb.cell (p := ⟨U, 1, none⟩) zu).trans u1
  replace zu := Nat.lt_of_lt_of_le zu hb.size
  replace z0 := Nat.lt_of_lt_of_le z0 hb.size
  replace z := Nat.lt_of_lt_of_le z hb.size
  replace h := h.below hb (Nat.le_refl _)
  replace h' := h'.below hb (Nat.le_refl _)
  replace hx := hx.below hb (Nat.le_refl _)
  replace hB := hB.thru hb hB.size
  generalize w6.alloc (Obj.cells #[.slice pp pk.length cq, .int .i64 ck] 41) = wy at hb y0 y1 zy q0 q1 m0 m1 u0 u1 z z0 zu h h' hx hw hB ⊢
  generalize w6.heap.size = Y at y0 y1 zy ⊢
  clear hb
  refine (caretAtR_ok _ _ _ _ _ _ l _ m d _ HL3.out (by first | exact hm | exact Nat.zero_le _) h h').mono ?_
  rintro e w7 ⟨rfl, hb⟩
  rw [HCN.out]
  replace q0 := (hb.cell (p := ⟨Z, 0, none⟩) z0).trans q0
  replace q1 := (hb.cell (p := ⟨Z, 1, none⟩) z0).trans q1
  replace m0 := (hb.cell (p := ⟨Z + 1, 0, none⟩) z).trans m0
  replace m1 := (hb.cell (p := ⟨Z + 1, 1, none⟩) z).trans m1
  replace u0 := (hb.cell (p := ⟨U, 0, none⟩) zu).trans u0
  replace u1 := (hb.cell (p := ⟨U, 1, none⟩) zu).trans u1
  replace y0 := (hb.cell (p := ⟨Y, 0, none⟩) zy).trans y0
  replace y1 := (hb.cell (p := ⟨Y, 1, none⟩) zy).trans y1
  replace zy := Nat.lt_of_lt_of_le zy hb.size
  replace hw := hw.below hb (Nat.le_refl _)
  replace zu := Nat.lt_of_lt_of_le zu hb.size
  replace z0 := Nat.lt_of_lt_of_le z0 hb.size
  replace z := Nat.lt_of_lt_of_le z hb.size
  replace h := h.below hb (Nat.le_refl _)
  replace h' := h'.below hb (Nat.le_refl _)
  replace hx := hx.below hb (Nat.le_refl _)
  replace hB := hB.thru hb hB.size
  clear hb
  go_wp2_with fail
  refine (caretBegun_true _).mono ?_
  rintro e wb ⟨rfl, hb⟩
  replace q0 := (hb.cell (p := ⟨Z, 0, none⟩) z0).trans q0
  replace q1 := (hb.cell (p := ⟨Z, 1, none⟩) z0).trans q1
  replace m0 := (hb.cell (p := ⟨Z + 1, 0, none⟩) z).trans m0
  replace m1 := (hb.cell (p := ⟨Z + 1, 1, none⟩) z).trans m1
  replace u0 := (hb.cell (p := ⟨U, 0, none⟩) zu).trans u0
  replace u1 := (hb.cell (p := ⟨U, 1, none⟩) zu).trans u1
  replace y0 := (hb.cell (p := ⟨Y, 0, none⟩) zy).trans y0
  replace y1 := (hb.cell (p := ⟨Y, 1, none⟩) zy).trans y1
  replace zy := Nat.lt_of_lt_of_le zy hb.size
  replace hw := hw.below hb (Nat.le_refl _)
  replace zu := Nat.lt_of_lt_of_le zu hb.size
  replace z0 := Nat.lt_of_lt_of_le z0 hb.size
  replace z := Nat.lt_of_lt_of_le z hb.size
  replace h := h.below hb (Nat.le_refl _)
  replace h' := h'.below hb (Nat.le_refl _)
  replace hx := hx.below hb (Nat.le_refl _)
  replace hB := hB.thru hb hB.size
  clear hb
  go_wp2_with (go_at_call 20; refine (sameMark_n _ _ _ _ _ _ XL WL _ _ _ HXN.out HWN.out hxl hwl hx hw).mono ?_; rintro e ws ⟨rfl, hb⟩; rw [HSM.out])
  go_ret
  exact ⟨rfl, hB.thru hb hB.size⟩
end Go.Proofs.Ytcggeeejkgndmac
