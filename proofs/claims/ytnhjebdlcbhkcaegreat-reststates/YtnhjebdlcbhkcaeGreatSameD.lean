/- editBegun returns true. -/
import Derived.Test.YtnhjebdlcbhkcaeGreatIsPutR
import Derived.Test.YtnhjebdlcbhkcaeGreatCaretPu
import Derived.Test.YtnhjebdlcbhkcaeGreatSameR
import Derived.Test.YtnhjebdlcbhkcaeGreatDPut
import Derived.Test.YtnhjebdlcbhkcaeGreatCaretC
import Derived.Test.YtnhjebdlcbhkcaeGreatDeedAt
namespace Go.Proofs.YtnhjebdlcbhkcaeGreat
open Go.RowKit

def txA : ByteArray := ⟨#[97]⟩
def txHi : ByteArray := ⟨#[104, 105]⟩
def txHai : ByteArray := ⟨#[104, 97, 105]⟩

theorem beg_plE : plE txHi ⟨1, 1, 0, txA⟩ = 0 := by decide
theorem beg_plT : plT txHi ⟨1, 1, 0, txA⟩ = txHai := by rfl
theorem beg_putEr : putEr hiL [] 1 txA 1 1 = 0 := by decide
theorem beg_cutErr : cutErr hiL [] 0 2 = 0 := by decide
theorem beg_runs : runsL (part hiL 0 2) = [⟨[(3, 0)], 1, txHi⟩] := by rfl
theorem beg_chkS : chkS hiL [] = 0 := by decide

theorem editPlain_beg (w : World) :
    Calls Tryz.prog 56 #[.string txHi, .agg #[.int .i64 1, .int .i64 1, .int .i64 0, .string txA]] w fun e w' => e = .returned (.tuple #[.string txHai, .int .i64 0]) ∧ Below w.heap.size w w' := by
  have h := plain_any txHi txA 1 1 0 w (by decide) (by decide) (by decide)
  rw [beg_plE, beg_plT] at h
  exact h

theorem editPut_beg (g : Nat) (w : World) (h : AtomsAt w (some ⟨g, 0, none⟩) hiL) :
    Calls Tryz.prog 25 #[.agg #[.slice (some ⟨g, 0, none⟩) 2 2, .slice none 0 0], .int .i64 1, .string txA, .int .i64 1, .int .i64 1] w fun e w' => ∃ ax p k, PutAs hiL [] 1 txA 1 1 ax ∧ e = .returned (.tuple #[.slice p (runsL ax).length k, .int .i64 0]) ∧ DeedsAt w' p ((runsL ax).map putDd) ∧ Below w.heap.size w w' := by
  refine (editPut_any (some ⟨g, 0, none⟩) none 2 0 hiL [] 1 txA 1 1 w (by decide) (by decide) h (Or.inl rfl)).mono ?_
  rintro e w' ⟨hb, ⟨h0, _⟩ | ⟨_, ax, p, k, h1, h2, h3⟩⟩
  · exact absurd beg_putEr h0
  · exact ⟨ax, p, k, h1, h2, h3, hb⟩

theorem editTake_beg (g : Nat) (w : World) (h : AtomsAt w (some ⟨g, 0, none⟩) hiL) :
    Calls Tryz.prog 26 #[.agg #[.slice (some ⟨g, 0, none⟩) 2 2, .slice none 0 0], .int .i64 0, .int .i64 2] w fun e w' => ∃ b o k, e = .returned (.tuple #[.slice (some ⟨b, o, none⟩) 1 k, .int .i64 0]) ∧ b < w'.heap.size ∧ w'.cell? ⟨b, o + 6, none⟩ = some (.int .i64 2) ∧ Below w.heap.size w w' := by
  refine (editTake_any (some ⟨g, 0, none⟩) none 2 0 hiL [] 0 2 w (by decide) (by decide) (by decide) (by decide) h (Or.inl rfl)).mono ?_
  rintro e w' ⟨hb, ⟨h0, _⟩ | ⟨_, p, k, h2, h3⟩⟩
  · exact absurd beg_cutErr h0
  · have e0 : ((0 : Int).toNat) = 0 := rfl
    have e2 : ((2 : Int).toNat) = 2 := rfl
    rw [e0, e2, beg_runs] at h2 h3
    rcases h3 with hs | ⟨b, o, rfl, hlt, hc⟩
    · simp at hs
    obtain ⟨_, _, _, _, _, _, _, _, _, _, c6, _⟩ := hc 0 (by simp)
    exact ⟨b, o, k, h2, hlt, c6, hb⟩

theorem isPut_beg (g : Nat) (p : Option Addr) (k : Nat) (ax : List At) (w : World) (h : AtomsAt w (some ⟨g, 0, none⟩) hiL) (hP : PutAs hiL [] 1 txA 1 1 ax) (hr : DeedsAt w p ((runsL ax).map putDd)) :
    Calls Tryz.prog 41 #[.agg #[.slice (some ⟨g, 0, none⟩) 2 2, .slice none 0 0], .int .i64 1, .string txA, .int .i64 1, .int .i64 1, .slice p (runsL ax).length k] w fun e w' => e = .returned (.bool true) ∧ Below w.heap.size w w' :=
  isPut_true (some ⟨g, 0, none⟩) none p 2 0 k hiL [] 1 txA 1 1 ax w (okS_of beg_chkS) (by decide) (by decide) (by decide) hP h (Or.inl rfl) hr

set_option maxRecDepth 100000 in
set_option maxHeartbeats 4000000 in
theorem editBegun_true (w : World) :
    Calls Tryz.prog 9 #[] w fun e w' => e = .returned (.bool true) ∧ Below w.heap.size w w' := by
  go_enter Tryz.func9, Tryz.ntmps9
  go_wp2_with fail
  refine (hi_any _).mono ?_
  rintro e w1 ⟨g, rfl, h, hB⟩
  have hb := (Below.refl w1.heap.size w1).alloc (Nat.le_refl _) (Obj.cells #[.slice (some ⟨g, 0, none⟩) 2 2, .slice none 0 0] 25)
  have q0 : (w1.alloc (Obj.cells #[.slice (some ⟨g, 0, none⟩) 2 2, .slice none 0 0] 25)).cell? ⟨w1.heap.size, 0, none⟩ = some (.slice (some ⟨g, 0, none⟩) 2 2) := by simp
  have q1 : (w1.alloc (Obj.cells #[.slice (some ⟨g, 0, none⟩) 2 2, .slice none 0 0] 25)).cell? ⟨w1.heap.size, 1, none⟩ = some (.slice none 0 0) := by simp
  have z : w1.heap.size < (w1.alloc (Obj.cells #[.slice (some ⟨g, 0, none⟩) 2 2, .slice none 0 0] 25)).heap.size := by simp
  replace h := h.below hb (Nat.le_refl _)
  replace hB := hB.thru hb hB.size
  go_upto_region 2 with fail
  generalize w1.alloc (Obj.cells #[.slice (some ⟨g, 0, none⟩) 2 2, .slice none 0 0] 25) = w2 at hb q0 q1 z h hB ⊢
  generalize w1.heap.size = Z at q0 q1 z ⊢
  clear hb
  go_wp2_with fail
  refine (editPlain_beg w2).mono ?_
  rintro e w3 ⟨rfl, hb⟩
  replace q0 := (hb.cell (p := ⟨Z, 0, none⟩) z).trans q0
  replace q1 := (hb.cell (p := ⟨Z, 1, none⟩) z).trans q1
  replace z := Nat.lt_of_lt_of_le z hb.size
  replace h := h.below hb (Nat.le_refl _)
  replace hB := hB.thru hb hB.size
  clear hb
  go_wp2_with fail
  refine (editPut_beg g w3 h).mono ?_
  rintro e w4 ⟨ax, p, k, hP, rfl, hd, hb⟩
  have HP := hidE hP
  replace q0 := (hb.cell (p := ⟨Z, 0, none⟩) z).trans q0
  replace q1 := (hb.cell (p := ⟨Z, 1, none⟩) z).trans q1
  replace z := Nat.lt_of_lt_of_le z hb.size
  replace h := h.below hb (Nat.le_refl _)
  replace hB := hB.thru hb hB.size
  clear hb hP
  go_wp2_with fail
  refine (editTake_beg g w4 h).mono ?_
  rintro e w5 ⟨tb, to1, tk, rfl, htb, htc, hb⟩
  replace q0 := (hb.cell (p := ⟨Z, 0, none⟩) z).trans q0
  replace q1 := (hb.cell (p := ⟨Z, 1, none⟩) z).trans q1
  replace z := Nat.lt_of_lt_of_le z hb.size
  replace h := h.below hb (Nat.le_refl _)
  replace hd := hd.below hb
  replace hB := hB.thru hb hB.size
  clear hb
  have HIP := hidE (isPut_beg g p k ax w5 h HP.out hd)
  clear h hd HP
  have hst : (txHai.toList == [104, 97, 105]) = true := by decide +kernel
  go_wp2_with fail
  refine HIP.out.mono ?_
  rintro e w6 ⟨rfl, hb⟩
  have c6 := (hb.cell (p := ⟨tb, to1 + 6, none⟩) htb).trans htc
  replace hB := hB.thru hb hB.size
  clear hb HIP
  go_wp2_with fail
  go_ret
  exact ⟨rfl, hB⟩
end Go.Proofs.YtnhjebdlcbhkcaeGreat

namespace Go.Proofs.YtnhjebdlcbhkcaeGreat
open Go.RowKit

theorem hi_of : ofL hiL [] 1 = ([(3, 0)], 1, 0) := by decide
theorem hi_at : atL hiL [] [(3, 0)] 1 = (1, 0) := by decide
theorem hi_at0 : atL hiL [] [] 0 = (0, 0) := by decide

theorem caretOf_hi (g : Nat) (w : World) (h : AtomsAt w (some ⟨g, 0, none⟩) hiL) :
    Calls Tryz.prog 27 #[.agg #[.slice (some ⟨g, 0, none⟩) 2 2, .slice none 0 0], .int .i64 1] w fun e w' => ∃ p c, e = .returned (.tuple #[.agg #[.slice p 1 c, .int .i64 1], .int .i64 0]) ∧ StepsAt w' p [(3, 0)] ∧ Below w.heap.size w w' := by
  have h1 := caretOf_any (some ⟨g, 0, none⟩) none 2 0 hiL [] 1 w (by decide) h (Or.inl rfl)
  rw [hi_of] at h1
  exact h1
theorem caretAt_hi (g : Nat) (p : Option Addr) (c : Nat) (w : World) (h : AtomsAt w (some ⟨g, 0, none⟩) hiL) (h' : StepsAt w p [(3, 0)]) :
    Calls Tryz.prog 57 #[.agg #[.slice (some ⟨g, 0, none⟩) 2 2, .slice none 0 0], .agg #[.slice p 1 c, .int .i64 1]] w fun e w' => e = .returned (.tuple #[.int .i64 1, .int .i64 0]) ∧ Below w.heap.size w w' := by
  have h1 := caretAt_any (some ⟨g, 0, none⟩) none p 2 0 c hiL [] [(3, 0)] 1 w (by decide) (by decide) h (Or.inl rfl) h'
  rw [hi_at] at h1
  exact h1
theorem caretAt_no (g : Nat) (w : World) (h : AtomsAt w (some ⟨g, 0, none⟩) hiL) :
    Calls Tryz.prog 57 #[.agg #[.slice (some ⟨g, 0, none⟩) 2 2, .slice none 0 0], .agg #[.slice none 0 0, .int .i64 0]] w fun e w' => e = .returned (.tuple #[.int .i64 0, .int .i64 0]) ∧ Below w.heap.size w w' := by
  have h1 := caretAt_any (some ⟨g, 0, none⟩) none none 2 0 0 hiL [] [] 0 w (by decide) (by decide) h (Or.inl rfl) (Or.inl rfl)
  rw [hi_at0] at h1
  exact h1

set_option maxRecDepth 100000 in
set_option maxHeartbeats 4000000 in
theorem caretBegun_true (w : World) :
    Calls Tryz.prog 10 #[] w fun e w' => e = .returned (.bool true) ∧ Below w.heap.size w w' := by
  go_enter Tryz.func10, Tryz.ntmps10
  go_wp2_with fail
  refine (hi_any _).mono ?_
  rintro e w1 ⟨g, rfl, h, hB⟩
  go_wp2_with fail
  have hb := (Below.refl w1.heap.size w1).alloc (Nat.le_refl _) (Obj.cells #[.slice (some ⟨g, 0, none⟩) 2 2, .slice none 0 0] 25)
  have q0 : (w1.alloc (Obj.cells #[.slice (some ⟨g, 0, none⟩) 2 2, .slice none 0 0] 25)).cell? ⟨w1.heap.size, 0, none⟩ = some (.slice (some ⟨g, 0, none⟩) 2 2) := by simp
  have q1 : (w1.alloc (Obj.cells #[.slice (some ⟨g, 0, none⟩) 2 2, .slice none 0 0] 25)).cell? ⟨w1.heap.size, 1, none⟩ = some (.slice none 0 0) := by simp
  have z : w1.heap.size < (w1.alloc (Obj.cells #[.slice (some ⟨g, 0, none⟩) 2 2, .slice none 0 0] 25)).heap.size := by simp
  replace h := h.below hb (Nat.le_refl _)
  replace hB := hB.thru hb hB.size
  generalize w1.alloc (Obj.cells #[.slice (some ⟨g, 0, none⟩) 2 2, .slice none 0 0] 25) = w2 at hb q0 q1 z h hB ⊢
  generalize w1.heap.size = Z at q0 q1 z ⊢
  clear hb
  refine (caretOf_hi g _ h).mono ?_
  rintro e w3 ⟨p, c, rfl, hs, hb⟩
  replace q0 := (hb.cell (p := ⟨Z, 0, none⟩) z).trans q0
  replace q1 := (hb.cell (p := ⟨Z, 1, none⟩) z).trans q1
  replace z := Nat.lt_of_lt_of_le z hb.size
  replace h := h.below hb (Nat.le_refl _)
  replace hB := hB.thru hb hB.size
  clear hb
  go_wp2_with fail
  have hb := (Below.refl w3.heap.size w3).alloc (Nat.le_refl _) (Obj.cells #[.slice p 1 c, .int .i64 1] 42)
  have m0 : (w3.alloc (Obj.cells #[.slice p 1 c, .int .i64 1] 42)).cell? ⟨w3.heap.size, 0, none⟩ = some (.slice p 1 c) := by simp
  have m1 : (w3.alloc (Obj.cells #[.slice p 1 c, .int .i64 1] 42)).cell? ⟨w3.heap.size, 1, none⟩ = some (.int .i64 1) := by simp
  have zM : w3.heap.size < (w3.alloc (Obj.cells #[.slice p 1 c, .int .i64 1] 42)).heap.size := by simp
  replace q0 := (hb.cell (p := ⟨Z, 0, none⟩) z).trans q0
  replace q1 := (hb.cell (p := ⟨Z, 1, none⟩) z).trans q1
  replace z := Nat.lt_of_lt_of_le z hb.size
  replace h := h.below hb (Nat.le_refl _)
  replace hs := hs.below hb (Nat.le_refl _)
  replace hB := hB.thru hb hB.size
  generalize w3.alloc (Obj.cells #[.slice p 1 c, .int .i64 1] 42) = w4 at hb m0 m1 zM q0 q1 z h hs hB ⊢
  generalize w3.heap.size = M at m0 m1 zM ⊢
  clear hb
  refine (caretAt_hi g p c _ h hs).mono ?_
  rintro e w5 ⟨rfl, hb⟩
  replace q0 := (hb.cell (p := ⟨Z, 0, none⟩) z).trans q0
  replace q1 := (hb.cell (p := ⟨Z, 1, none⟩) z).trans q1
  replace m0 := (hb.cell (p := ⟨M, 0, none⟩) zM).trans m0
  replace m1 := (hb.cell (p := ⟨M, 1, none⟩) zM).trans m1
  replace z := Nat.lt_of_lt_of_le z hb.size
  replace zM := Nat.lt_of_lt_of_le zM hb.size
  replace h := h.below hb (Nat.le_refl _)
  replace hs := hs.below hb (Nat.le_refl _)
  replace hB := hB.thru hb hB.size
  clear hb
  go_wp2_with fail
  refine (caretAt_no g _ h).mono ?_
  rintro e w6 ⟨rfl, hb⟩
  replace m0 := (hb.cell (p := ⟨M, 0, none⟩) zM).trans m0
  replace m1 := (hb.cell (p := ⟨M, 1, none⟩) zM).trans m1
  replace zM := Nat.lt_of_lt_of_le zM hb.size
  replace hs := hs.below hb (Nat.le_refl _)
  replace hB := hB.thru hb hB.size
  clear hb q0 q1 z h
  go_upto_region 5 with fail
  have hBd : Below w6.heap.size w6 w6.drew := (Below.refl _ _).drew
  go_region_held_law (fun w' => w'.cell? ⟨M, 0, none⟩ = some (.slice p 1 c) ∧ w'.cell? ⟨M, 1, none⟩ = some (.int .i64 1))
    (first | exact ⟨m0, m1⟩ | exact ⟨t0, t1⟩ | exact ⟨u0, u1⟩)
    (first
      | (go_at_call 23; refine (at_any 3 0 1 _).mono ?_; rintro e w7 ⟨rfl, hs7, hb7⟩; have hb7' : Below w6.heap.size w6 w7 := hBd.thru hb7 (Nat.le_refl _); have t0 := (hb7'.cell (p := ⟨M, 0, none⟩) zM).trans m0; have t1 := (hb7'.cell (p := ⟨M, 1, none⟩) zM).trans m1; have hs7' := hs.below hb7' (Nat.le_refl _))
      | (go_at_call 58; refine (sameMark_n _ _ _ _ _ _ [(3, 0)] [(3, 0)] _ _ _ rfl rfl (by decide) (by decide) hs7' hs7).mono ?_; rintro e w8 ⟨rfl, hb8⟩; rw [show (ordM [(3, 0)] 1 [(3, 0)] 1 == 0) = true from by decide]; have hb8' : Below w6.heap.size w6 w8 := hb7'.thru hb8 hb7'.size; have u0 := (hb8'.cell (p := ⟨M, 0, none⟩) zM).trans m0; have u1 := (hb8'.cell (p := ⟨M, 1, none⟩) zM).trans m1))
  go_wp2_with fail
  go_ret
  exact ⟨rfl, hB.thru hb8' hB.size⟩
end Go.Proofs.YtnhjebdlcbhkcaeGreat

namespace Go.Proofs.YtnhjebdlcbhkcaeGreat
open Go.RowKit

def hatT : ByteArray := ⟨#[104, 97, 116]⟩
def hitT : ByteArray := ⟨#[104, 105, 116]⟩
theorem hat_hit : diffE hatT hitT = 0 := by decide
theorem far_hat_hit : far hatT.data.toList hitT.data.toList = 2 := by simp [hatT, hitT, far, lcs]

set_option maxRecDepth 100000 in
set_option maxHeartbeats 1000000 in
theorem diffBegun_true (w : World) :
    Calls Tryz.prog 12 #[] w fun e w' => e = .returned (.bool true) ∧ Below w.heap.size w w' := by
  obtain ⟨hE, hT⟩ := diff_leads hat_hit
  have hI := diff_is hat_hit
  have hM := hI.many
  rw [far_hat_hit] at hM
  have hD := fun w0 => diff_ok hatT hitT w0 (by decide) (by decide) (by decide) (by decide)
  have hl : (diffL hatT hitT).length ≤ 600 := hI.len
  have hx : ∀ x ∈ diffL hatT hitT, x.text.size ≤ 4611686018427387904 ∧ x.many ≤ 9223372036854775807 := fun x hx => by have := hI.each x hx; omega
  have hc : ∀ x ∈ diffL hatT hitT, 0 ≤ cntE x ∧ cntE x ≤ 300 := fun x hx => (hI.each x hx).2.2.2.2
  generalize diffL hatT hitT = LL at *
  have HD := hidE hD
  have HX := hidE hx
  have HC := hidE hc
  have HM := hidE hM
  have HE := hidE hE
  have HT : Hid (playT hatT LL = ⟨#[104, 105, 116]⟩) := hidE hT
  clear hD hx hc hM hI hE hT
  go_enter Tryz.func12, Tryz.ntmps12
  go_upto_region 2 with (go_at_call 28; refine (HD.out _).mono ?_; rintro e w1 ⟨v, rfl, hO, hb1⟩; obtain ⟨pv, cv, rfl⟩ := owns_sliceE hO; have hrow := hO.eds.row)
  have HR := hidE hrow
  have HB1 := hidE hb1
  clear hO hrow hb1
  go_upto_region 3 with (go_at_call 63; refine (play_any hatT pv cv LL w1 HR.out (by unfold maxLen; omega) (by decide) HX.out).mono ?_; rintro e w2 ⟨rfl, hb2⟩; rw [HE.out, HT.out])
  have HB2 := hidE hb2
  have HR2 := hidE (HR.out.below hb2 (Nat.le_refl _))
  clear hb2
  go_wp2_with (go_at_call 64; refine (many_any pv cv LL w2 HR2.out (by omega) HC.out).mono ?_; rintro e w3 ⟨rfl, hb3⟩; rw [HM.out])
  go_ret
  exact ⟨rfl, (HB1.out.trans (HB2.out.mono HB1.out.size)).trans (hb3.mono (Nat.le_trans HB1.out.size HB2.out.size))⟩
end Go.Proofs.YtnhjebdlcbhkcaeGreat

namespace Go.Proofs.YtnhjebdlcbhkcaeGreat
open Go.RowKit

theorem boxes7 (w : World) (v0 v1 v2 v3 v4 v5 v6 u0 u1 u2 u3 u4 u5 u6 : Value) (T : TypeId) : ∃ W, W = (w.alloc (Obj.cells #[v0, v1, v2, v3, v4, v5, v6] T)).alloc (Obj.cells #[u0, u1, u2, u3, u4, u5, u6] T) ∧
    (W.cell? ⟨w.heap.size, 0, none⟩ = some v0 ∧ W.cell? ⟨w.heap.size, 1, none⟩ = some v1 ∧ W.cell? ⟨w.heap.size, 2, none⟩ = some v2 ∧ W.cell? ⟨w.heap.size, 3, none⟩ = some v3 ∧ W.cell? ⟨w.heap.size, 4, none⟩ = some v4 ∧ W.cell? ⟨w.heap.size, 5, none⟩ = some v5 ∧ W.cell? ⟨w.heap.size, 6, none⟩ = some v6) ∧
    (W.cell? ⟨w.heap.size + 1, 0, none⟩ = some u0 ∧ W.cell? ⟨w.heap.size + 1, 1, none⟩ = some u1 ∧ W.cell? ⟨w.heap.size + 1, 2, none⟩ = some u2 ∧ W.cell? ⟨w.heap.size + 1, 3, none⟩ = some u3 ∧ W.cell? ⟨w.heap.size + 1, 4, none⟩ = some u4 ∧ W.cell? ⟨w.heap.size + 1, 5, none⟩ = some u5 ∧ W.cell? ⟨w.heap.size + 1, 6, none⟩ = some u6) ∧
    W.heap.size = w.heap.size + 2 ∧ Below w.heap.size w W :=
  ⟨_, rfl, ⟨by go_simp, by go_simp, by go_simp, by go_simp, by go_simp, by go_simp, by go_simp⟩, ⟨by go_simp, by go_simp, by go_simp, by go_simp, by go_simp, by go_simp, by go_simp⟩, by simp, ((Below.refl _ _).alloc (Nat.le_refl _) _).alloc (by simp) _⟩

set_option maxRecDepth 100000 in
set_option maxHeartbeats 4000000 in
theorem sameDeed_true (p q p' q' : Option Addr) (cp cq cp' cq' : Nat) (x : Dd) (w : World) (h : DdAt w x p q) (h' : DdAt w x p' q') :
    Calls Tryz.prog 70 #[ddV x p q cp cq, ddV x p' q' cp' cq'] w fun e w' => e = .returned (.bool true) ∧ Below w.heap.size w w' := by
  obtain ⟨kind, rp, rc, rt, mp, mc, many⟩ := x
  obtain ⟨h1, h2, h3, h4, h5⟩ := h
  obtain ⟨g1, g2, _, _, _⟩ := h'
  unfold ddV
  dsimp only at *
  obtain ⟨W, hW, ⟨a0, a1, a2, a3, a4, a5, a6⟩, ⟨b0, b1, b2, b3, b4, b5, b6⟩, hs, hB⟩ := boxes7 w (.int .i64 kind) (.slice p rp.length cp) (.int .i64 rc) (.string rt) (.slice q mp.length cq) (.int .i64 mc) (.int .i64 many) (.int .i64 kind) (.slice p' rp.length cp') (.int .i64 rc) (.string rt) (.slice q' mp.length cq') (.int .i64 mc) (.int .i64 many) 64
  have HW := hidE hW
  have HS := hidE hs
  clear hW hs
  have hz : ordM mp mc mp mc = 0 := cmpM.refl (mp, mc)
  have HSM := hidE (fun (W' : World) (hb : Below W.heap.size W W') => sameMark_n q q' cq cq' mp.length mp.length mp mp mc mc W' rfl rfl h4 h4 ((h2.below hB (Nat.le_refl _)).below hb (Nat.le_refl _)) ((g2.below hB (Nat.le_refl _)).below hb (Nat.le_refl _)))
  rw [hz] at HSM
  have HSR := hidE (fun (W' : World) (hb : Below W.heap.size W W') => sameRun_true p p' cp cp' ⟨rp, rc, rt⟩ W' h3 ((h1.below hB (Nat.le_refl _)).below hb (Nat.le_refl _)) ((g1.below hB (Nat.le_refl _)).below hb (Nat.le_refl _)))
  dsimp only at HSR
  have hz1 : w.heap.size < W.heap.size := by rw [HS.out]; omega
  have hz2 : w.heap.size + 1 < W.heap.size := by rw [HS.out]; omega
  clear h1 h2 h3 h4 h5 g1 g2 hz
  go_enter Tryz.func70, Tryz.ntmps70
  go_upto_region 1 with fail
  rw [← HW.out]
  generalize hzz : w.heap.size = Z at *
  have HZ := hidE hzz
  clear hzz
  go_wp2_with fail
  refine (HSM.out _ (Below.refl _ _)).mono ?_
  rintro e w2 ⟨rfl, hb2⟩
  replace a1 := (hb2.cell (p := ⟨Z, 1, none⟩) hz1).trans a1
  replace a2 := (hb2.cell (p := ⟨Z, 2, none⟩) hz1).trans a2
  replace a3 := (hb2.cell (p := ⟨Z, 3, none⟩) hz1).trans a3
  replace b1 := (hb2.cell (p := ⟨Z + 1, 1, none⟩) hz2).trans b1
  replace b2 := (hb2.cell (p := ⟨Z + 1, 2, none⟩) hz2).trans b2
  replace b3 := (hb2.cell (p := ⟨Z + 1, 3, none⟩) hz2).trans b3
  go_wp2_with fail
  refine (HSR.out _ hb2).mono ?_
  rintro e w3 ⟨rfl, hb3⟩
  go_wp2_with fail
  go_ret
  exact ⟨rfl, by rw [HZ.out]; exact hB.trans ((hb2.thru hb3 hb2.size).mono (Nat.le_of_lt hz1))⟩

set_option maxRecDepth 100000 in
set_option maxHeartbeats 4000000 in
theorem sameDeeds_true (a a' : Option Addr) (cap cap' : Nat) (xs : List Dd) (w : World) (hl : xs.length ≤ maxLen) (h : DeedsAt w a xs) (h' : DeedsAt w a' xs) :
    Calls Tryz.prog 19 #[.slice a xs.length cap, .slice a' xs.length cap'] w fun e w' => e = .returned (.bool true) ∧ Below w.heap.size w w' := by
  unfold maxLen at hl
  go_enter Tryz.func19, Tryz.ntmps19
  go_wp2
  go_loopw [5] (fun i wr => ∃ k : Nat, k ≤ xs.length ∧ i = .int .i64 k ∧ Below w.heap.size w wr) (fun i _ => xs.length - (intOf i).toNat)
  case atStart => exact ⟨0, Nat.zero_le _, rfl, Below.refl _ _⟩
  case round =>
    obtain ⟨k, hk, rfl, hb⟩ := hrel
    by_cases hlt : k < xs.length
    · have hi1 : (k : Int) < xs.length := by omega
      rcases h.below hb with hs | ⟨ab, ao, rfl, hab, hc⟩
      · simp [hs] at hlt
      rcases h'.below hb with hs | ⟨bb, bo, rfl, hbb, hd⟩
      · simp [hs] at hlt
      obtain ⟨p, cp, q, cq, c0, c1, c2, c3, c4, c5, c6, hD, _, _⟩ := hc k hlt
      obtain ⟨p', cp', q', cq', d0, d1, d2, d3, d4, d5, d6, hD', _, _⟩ := hd k hlt
      clear hc hd h h'
      have HC := hidE (fun d os => sameDeed_true p q p' q' cp cq cp' cq' xs[k] _ (hD.below (below_regrown wr d os)) (hD'.below (below_regrown wr d os)))
      unfold ddV at HC
      clear hD hD'
      generalize xs[k] = x at *
      have k0 := cell_regrown c0
      have k1 := cell_regrown c1
      have k2 := cell_regrown c2
      have k3 := cell_regrown c3
      have k4 := cell_regrown c4
      have k5 := cell_regrown c5
      have k6 := cell_regrown c6
      have e0 := cell_regrown d0
      have e1 := cell_regrown d1
      have e2 := cell_regrown d2
      have e3 := cell_regrown d3
      have e4 := cell_regrown d4
      have e5 := cell_regrown d5
      have e6 := cell_regrown d6
      clear c0 c1 c2 c3 c4 c5 c6 d0 d1 d2 d3 d4 d5 d6
      go_wp2_with fail
      refine wp_region_quiet_below (by kernel_rfl) (by kernel_rfl) ?_
      repeat (first | go_big_quiet_step ((go_at_call 70; with_reducible exact Calls.regrown_of (HC.out _ _))) | quiet_step ((go_at_call 70; with_reducible exact Calls.regrown_of (HC.out _ _))))
      refine wpQuiet_nil ?_
      intro _ hw'
      obtain ⟨⟨dq, osq⟩, hw''⟩ := hw'
      subst hw''
      go_wp2_with fail
      go_roundw
      case rel => exact ⟨k + 1, by omega, by go_num, hb.thru (below_regrown _ _ _) hb.size⟩
      case measure => simp [intOf]; omega
    · go_wp2
      go_ret
      exact ⟨rfl, hb⟩
end Go.Proofs.YtnhjebdlcbhkcaeGreat
