/- Contract of edit.Take. -/
import Derived.Test.YtnhjebdlcbhkcacGreatDeedE
import Derived.Test.YtnhjebdlcbhkcacGreatPlainC
import Derived.Test.YtnhjebdlcbhkcacGreatJoin
import Derived.Test.YtnhjebdlcbhkcacGreatStateCk
import Derived.Test.YtnhjebdlcbhkcacGreatIsPutR
import Derived.Test.YtnhjebdlcbhkcacGreatPickN
namespace Go.Proofs.YtnhjebdlcbhkcacGreat
open Go.RowKit

/-- the errno of Take -/
def cutErr (l : List At) (g : List (List (Int × Int) × Int)) (n m : Int) : Int := if chkS l g ≠ 0 then chkS l g else if pieceB n m l.length = false then 3 else 0

def CutGives (w : World) (l : List At) (g : List (List (Int × Int) × Int)) (n m : Int) (e : Ending) (w' : World) : Prop :=
  Below w.heap.size w w' ∧
  ((cutErr l g n m ≠ 0 ∧ e = .returned (.tuple #[.slice none 0 0, .int .i64 (cutErr l g n m)])) ∨
   (cutErr l g n m = 0 ∧ ∃ p k, e = .returned (.tuple #[.slice p (runsL (part l n.toNat m.toNat)).length k, .int .i64 0]) ∧ DeedsAt w' p ((runsL (part l n.toNat m.toNat)).map takeDd)))

set_option maxRecDepth 100000 in
set_option maxHeartbeats 2000000 in
theorem editTake_any (a b : Option Addr) (cap cap' : Nat) (l : List At) (g : List (List (Int × Int) × Int)) (n m : Int) (w : World) (hl : l.length ≤ maxLen) (hcap : l.length ≤ cap) (hcm : cap ≤ maxLen) (hmn : m ≤ 9223372036854775807) (h : AtomsAt w a l) (h' : MarksAt w b g) :
    Calls Tryz.prog 5 #[.agg #[.slice a l.length cap, .slice b g.length cap'], .int .i64 n, .int .i64 m] w (CutGives w l g n m) := by
  have hB := (Below.refl w.heap.size w).alloc (Nat.le_refl _) (Obj.cells #[.slice a l.length cap, .slice b g.length cap'] 25)
  have q0 : (w.alloc (Obj.cells #[.slice a l.length cap, .slice b g.length cap'] 25)).cell? ⟨w.heap.size, 0, none⟩ = some (.slice a l.length cap) := by simp
  have q1 : (w.alloc (Obj.cells #[.slice a l.length cap, .slice b g.length cap'] 25)).cell? ⟨w.heap.size, 1, none⟩ = some (.slice b g.length cap') := by simp
  have z : w.heap.size < (w.alloc (Obj.cells #[.slice a l.length cap, .slice b g.length cap'] 25)).heap.size := by simp
  replace h := h.below hB (Nat.le_refl _)
  replace h' := h'.below hB (Nat.le_refl _)
  go_enter Tryz.func5, Tryz.ntmps5
  go_upto_region 1 with fail
  generalize w.alloc (Obj.cells #[.slice a l.length cap, .slice b g.length cap'] 25) = W at hB q0 q1 z h h' ⊢
  generalize hzz : w.heap.size = Z at hB q0 q1 z ⊢
  have HZ := hidE hzz
  clear hzz
  have HC := hidE (stateCheck_any a b cap cap' l g W hl h h')
  go_wp2_with fail
  refine HC.out.mono ?_
  rintro e w1 ⟨rfl, hb⟩
  replace q0 := (hb.cell (p := ⟨Z, 0, none⟩) z).trans q0
  replace h := h.below hb (Nat.le_refl _)
  replace hB := hB.thru hb (Nat.le_of_lt z)
  clear HC h' q1 hb z
  by_cases hS : chkS l g = 0
  case neg =>
    have HE : Hid (cutErr l g n m = chkS l g) := by show _ = _; unfold cutErr; rw [if_pos hS]
    have HN := hidE hS
    have hcb : (chkS l g != 0) = true := by rw [bne_iff_ne]; exact hS
    generalize chkS l g = er at *
    clear hS
    go_wp2_with fail
    go_ret2
    rw [← HZ.out] at hB
    exact ⟨hB, Or.inl ⟨by rw [HE.out]; exact HN.out, by rw [HE.out]; rfl⟩⟩
  have h0 : chkL l = 0 := by
    by_cases e : chkL l = 0
    · exact e
    · unfold chkS at hS; rw [if_pos e] at hS; exact absurd hS e
  have ok := okL_of h0
  have hl300 := ok.len
  rw [hS]
  cases hp : pieceB n m l.length
  · have HE : Hid (cutErr l g n m = 3) := by show _ = _; unfold cutErr; rw [if_neg (by simpa using hS), if_pos hp]
    have HP := hidE hp
    clear hp hS h0 ok
    go_wp2_with (go_at_call 16; refine (isPiece_any _ _ _ _ (by omega) hmn).mono ?_; rintro e w' ⟨rfl, hw⟩; replace hw := hw.symm; subst hw; rw [HP.out])
    go_ret2
    rw [← HZ.out] at hB
    exact ⟨hB, Or.inl ⟨by rw [HE.out]; decide, by rw [HE.out]; rfl⟩⟩
  have HE : Hid (cutErr l g n m = 0) := by show _ = _; unfold cutErr; rw [if_neg (by simpa using hS), if_neg (by rw [hp]; decide)]
  have HP := hidE hp
  have hn : 0 ≤ n ∧ 0 ≤ m ∧ n + m ≤ l.length := by simp [pieceB] at hp; omega
  clear hp hS
  obtain ⟨k, rfl⟩ : ∃ k : Nat, n = k := ⟨n.toNat, by omega⟩
  obtain ⟨j, rfl⟩ : ∃ j : Nat, m = j := ⟨m.toNat, by omega⟩
  have hkj : k + j ≤ l.length := by omega
  have hw1 : IntKind.i64.wrap ((k : Int) + j) = ((k + j : Nat) : Int) := by rw [IntKind.wrap_i64] <;> omega
  have hpl := part_len hkj
  have hkp : chkL (part l k j) = 0 := okL_chk (ok.part k j)
  by_cases hj0 : j = 0
  · subst hj0
    have hpl0 : part l k 0 = [] := List.eq_nil_of_length_eq_zero hpl
    have HPL := hidE hpl0
    have HD : Hid (∀ a' c', c' ≤ maxLen → Calls Tryz.prog 17 #[.slice a' 0 c', .func (.func 18) #[] #[]] w1 fun e w' => ∃ p k, e = .returned (.slice p (runsL []).length k) ∧ DeedsAt w' p ((runsL []).map takeDd) ∧ Below w1.heap.size w1 w') := fun a' c' hc' => takeR_each a' c' [] w1 (Nat.zero_le _) hc' (Or.inl rfl) rfl
    have h1 : ((k + 0 : Nat) : Int) = (k : Int) := by omega
    rw [h1] at hw1
    have hcl : k ≤ cap := by omega
    clear ok h0 hpl hpl0 hkp h
    cases a with
    | none =>
      go_wp2_with (first | (go_at_call 16; refine (isPiece_any _ _ _ _ (by omega) hmn).mono ?_; rintro e w' ⟨rfl, hw⟩; replace hw := hw.symm; subst hw; rw [HP.out]))
      refine (HD.out _ _ (by omega)).mono ?_
      rintro e w2 ⟨p, c, rfl, hat, hb2⟩
      have hB2 := hB.trans (hb2.mono (by rw [← HZ.out]; exact hB.size))
      go_wp2_with fail
      go_ret2
      rw [← HZ.out] at hB2
      refine ⟨hB2, Or.inr ⟨HE.out, ?_⟩⟩
      rw [Int.toNat_natCast, Int.toNat_natCast, HPL.out]
      exact ⟨p, c, rfl, hat⟩
    | some ad =>
      obtain ⟨bb, oo, rg⟩ := ad
      go_wp2_with (first | (go_at_call 16; refine (isPiece_any _ _ _ _ (by omega) hmn).mono ?_; rintro e w' ⟨rfl, hw⟩; replace hw := hw.symm; subst hw; rw [HP.out]))
      all_goals
        refine (HD.out _ _ (by omega)).mono ?_
        rintro e w2 ⟨p, c, rfl, hat, hb2⟩
        have hB2 := hB.trans (hb2.mono (by rw [← HZ.out]; exact hB.size))
        go_wp2_with fail
        go_ret2
        rw [← HZ.out] at hB2
        refine ⟨hB2, Or.inr ⟨HE.out, ?_⟩⟩
        rw [Int.toNat_natCast, Int.toNat_natCast, HPL.out]
        exact ⟨p, c, rfl, hat⟩
  rcases h with hs | ⟨bb, oo, rfl, hbb, hc⟩
  · exfalso
    rw [hs] at hkj
    simp at hkj
    omega
  have hA : AtomsAt w1 (some ⟨bb, oo + k * 3, none⟩) (part l k j) := AtomsAt.part (Or.inr ⟨bb, oo, rfl, hbb, hc⟩) hkj
  have HD := hidE (takeR_each (some ⟨bb, oo + k * 3, none⟩) (cap - k) (part l k j) w1 (by omega) (by omega) hA hkp)
  rw [hpl] at HD
  have hck : ¬ cap = k := by omega
  clear hc hA hkp ok h0 hbb
  obtain ⟨pl, hpq⟩ : ∃ pl, pl = part l k j := ⟨_, rfl⟩
  rw [← hpq] at HD hpl
  have HPQ := hidE hpq
  clear hpq hpl
  go_wp2_with (first | (go_at_call 16; refine (isPiece_any _ _ _ _ (by omega) hmn).mono ?_; rintro e w' ⟨rfl, hw⟩; replace hw := hw.symm; subst hw; rw [HP.out]))
  refine HD.out.mono ?_
  rintro e w2 ⟨p, c, rfl, hat, hb2⟩
  have hB2 := hB.trans (hb2.mono (by rw [← HZ.out]; exact hB.size))
  go_wp2_with fail
  go_ret2
  rw [← HZ.out] at hB2
  refine ⟨hB2, Or.inr ⟨HE.out, ?_⟩⟩
  rw [Int.toNat_natCast, Int.toNat_natCast, ← HPQ.out]
  exact ⟨p, c, rfl, hat⟩
end Go.Proofs.YtnhjebdlcbhkcacGreat

namespace Go.Proofs.YtnhjebdlcbhkcacGreat
open Go.RowKit

set_option maxRecDepth 100000 in
set_option maxHeartbeats 4000000 in
theorem plain_any (s t : ByteArray) (kind n many : Int) (w : World) (hs : s.size ≤ 4611686018427387904) (ht : t.size ≤ 4611686018427387904) (hmn : many ≤ 9223372036854775807) :
    Calls Tryz.prog 23 #[.string s, .agg #[.int .i64 kind, .int .i64 n, .int .i64 many, .string t]] w fun e w' => e = .returned (.tuple #[.string (plT s ⟨kind, n, many, t⟩), .int .i64 (plE s ⟨kind, n, many, t⟩)]) ∧ Below w.heap.size w w' := by
  have hB := (Below.refl w.heap.size w).alloc (Nat.le_refl _) (Obj.cells #[.int .i64 kind, .int .i64 n, .int .i64 many, .string t] 58)
  have q0 : (w.alloc (Obj.cells #[.int .i64 kind, .int .i64 n, .int .i64 many, .string t] 58)).cell? ⟨w.heap.size, 0, none⟩ = some (.int .i64 kind) := by simp
  have q1 : (w.alloc (Obj.cells #[.int .i64 kind, .int .i64 n, .int .i64 many, .string t] 58)).cell? ⟨w.heap.size, 1, none⟩ = some (.int .i64 n) := by simp
  have q2 : (w.alloc (Obj.cells #[.int .i64 kind, .int .i64 n, .int .i64 many, .string t] 58)).cell? ⟨w.heap.size, 2, none⟩ = some (.int .i64 many) := by simp
  have q3 : (w.alloc (Obj.cells #[.int .i64 kind, .int .i64 n, .int .i64 many, .string t] 58)).cell? ⟨w.heap.size, 3, none⟩ = some (.string t) := by simp
  have z : w.heap.size < (w.alloc (Obj.cells #[.int .i64 kind, .int .i64 n, .int .i64 many, .string t] 58)).heap.size := by simp
  go_enter Tryz.func23, Tryz.ntmps23
  go_upto_region 1 with fail
  generalize w.alloc (Obj.cells #[.int .i64 kind, .int .i64 n, .int .i64 many, .string t] 58) = W at hB q0 q1 q2 q3 z ⊢
  have hsL : s.size ≤ maxLen := by unfold maxLen; omega
  by_cases h300 : (s.size : Int) > 300
  · have HE : Hid (plE s ⟨kind, n, many, t⟩ = 2) := by show _ = _; unfold plE; rw [if_pos (by omega)]
    have HT : Hid (plT s ⟨kind, n, many, t⟩ = ⟨#[]⟩) := by show _ = _; unfold plT; rw [if_pos (by omega)]
    go_wp2_with fail
    go_ret2
    exact ⟨by rw [HE.out, HT.out]; rfl, hB⟩
  cases hsg : allS s.data.toList
  · have HE : Hid (plE s ⟨kind, n, many, t⟩ = 3) := by show _ = _; unfold plE; rw [if_neg (by omega), if_pos hsg]
    have HT : Hid (plT s ⟨kind, n, many, t⟩ = ⟨#[]⟩) := by show _ = _; unfold plT; rw [if_neg (by omega), if_pos hsg]
    have H0 := hidE hsg
    clear hsg
    go_wp2_with (go_at_call 55; refine (signAll_any s _ hsL).mono ?_; rintro e w' ⟨rfl, hw⟩; replace hw := hw.symm; subst hw; rw [H0.out])
    go_ret2
    exact ⟨by rw [HE.out, HT.out]; rfl, hB⟩
  have HE1 : Hid (plE s ⟨kind, n, many, t⟩ = if kind = 1 then putE s n many t else if kind = 2 then takeE s n many t else 7) := by show _ = _; unfold plE; rw [if_neg (by omega), if_neg (by rw [hsg]; decide)]
  have HT1 : Hid (plT s ⟨kind, n, many, t⟩ = if kind = 1 then putT s n many t else if kind = 2 then takeT s n many t else ⟨#[]⟩) := by show _ = _; unfold plT; rw [if_neg (by omega), if_neg (by rw [hsg]; decide)]
  have H0 := hidE hsg
  clear hsg
  by_cases hk1 : kind = 1
  · have HE : Hid (plE s ⟨kind, n, many, t⟩ = putE s n many t) := by show _ = _; rw [HE1.out, if_pos hk1]
    have HT : Hid (plT s ⟨kind, n, many, t⟩ = putT s n many t) := by show _ = _; rw [HT1.out, if_pos hk1]
    have HC := hidE (plainPut_any s t kind n many W (by omega) ht)
    subst hk1
    clear HE1 HT1
    go_wp2_with (first | (go_at_call 55; refine (signAll_any s _ hsL).mono ?_; rintro e w' ⟨rfl, hw⟩; replace hw := hw.symm; subst hw; rw [H0.out]) | (go_at_call 56; refine HC.out.mono ?_; rintro e w2 ⟨rfl, hb⟩))
    go_ret2
    exact ⟨by rw [HE.out, HT.out]; rfl, hB.thru hb (Nat.le_of_lt z)⟩
  have hb1 : (kind == 1) = false := by rw [beq_eq_false_iff_ne]; exact hk1
  by_cases hk2 : kind = 2
  · have HE : Hid (plE s ⟨kind, n, many, t⟩ = takeE s n many t) := by show _ = _; rw [HE1.out, if_neg hk1, if_pos hk2]
    have HT : Hid (plT s ⟨kind, n, many, t⟩ = takeT s n many t) := by show _ = _; rw [HT1.out, if_neg hk1, if_pos hk2]
    have HC := hidE (plainTake_any s t kind n many W (by omega) hmn)
    subst hk2
    clear HE1 HT1 hk1
    go_wp2_with (first | (go_at_call 55; refine (signAll_any s _ hsL).mono ?_; rintro e w' ⟨rfl, hw⟩; replace hw := hw.symm; subst hw; rw [H0.out]) | (go_at_call 57; refine HC.out.mono ?_; rintro e w2 ⟨rfl, hb⟩))
    go_ret2
    exact ⟨by rw [HE.out, HT.out]; rfl, hB.thru hb (Nat.le_of_lt z)⟩
  have hb2 : (kind == 2) = false := by rw [beq_eq_false_iff_ne]; exact hk2
  have HE : Hid (plE s ⟨kind, n, many, t⟩ = 7) := by show _ = _; rw [HE1.out, if_neg hk1, if_neg hk2]
  have HT : Hid (plT s ⟨kind, n, many, t⟩ = ⟨#[]⟩) := by show _ = _; rw [HT1.out, if_neg hk1, if_neg hk2]
  clear HE1 HT1 hk1 hk2
  go_wp2_with (go_at_call 55; refine (signAll_any s _ hsL).mono ?_; rintro e w' ⟨rfl, hw⟩; replace hw := hw.symm; subst hw; rw [H0.out])
  go_ret2
  exact ⟨by rw [HE.out, HT.out]; rfl, hB⟩
end Go.Proofs.YtnhjebdlcbhkcacGreat

namespace Go.Proofs.YtnhjebdlcbhkcacGreat
open Go.RowKit

def txA : ByteArray := ⟨#[97]⟩
def txHi : ByteArray := ⟨#[104, 105]⟩
def txHai : ByteArray := ⟨#[104, 97, 105]⟩

theorem beg_plE : plE txHi ⟨1, 1, 0, txA⟩ = 0 := by decide
theorem beg_plT : plT txHi ⟨1, 1, 0, txA⟩ = txHai := by rfl
theorem beg_putEr : putEr hiL [] 1 txA 1 1 = 0 := by decide
theorem beg_cutErr : cutErr hiL [] 0 2 = 0 := by decide
theorem beg_runs : runsL (part hiL 0 2) = [⟨[(3, 0)], 1, txHi⟩] := by rfl
theorem beg_chkS : chkS hiL [] = 0 := by decide

theorem editPlain_beg (w : World) :
    Calls Tryz.prog 23 #[.string txHi, .agg #[.int .i64 1, .int .i64 1, .int .i64 0, .string txA]] w fun e w' => e = .returned (.tuple #[.string txHai, .int .i64 0]) ∧ Below w.heap.size w w' := by
  have h := plain_any txHi txA 1 1 0 w (by decide) (by decide) (by decide)
  rw [beg_plE, beg_plT] at h
  exact h

theorem editPut_beg (g : Nat) (w : World) (h : AtomsAt w (some ⟨g, 0, none⟩) hiL) :
    Calls Tryz.prog 12 #[.agg #[.slice (some ⟨g, 0, none⟩) 2 2, .slice none 0 0], .int .i64 1, .string txA, .int .i64 1, .int .i64 1] w fun e w' => ∃ ax p k, PutAs hiL [] 1 txA 1 1 ax ∧ e = .returned (.tuple #[.slice p (runsL ax).length k, .int .i64 0]) ∧ DeedsAt w' p ((runsL ax).map putDd) ∧ Below w.heap.size w w' := by
  refine (editPut_any (some ⟨g, 0, none⟩) none 2 0 hiL [] 1 txA 1 1 w (by decide) (by decide) h (Or.inl rfl)).mono ?_
  rintro e w' ⟨hb, ⟨h0, _⟩ | ⟨_, ax, p, k, h1, h2, h3⟩⟩
  · exact absurd beg_putEr h0
  · exact ⟨ax, p, k, h1, h2, h3, hb⟩

theorem editTake_beg (g : Nat) (w : World) (h : AtomsAt w (some ⟨g, 0, none⟩) hiL) :
    Calls Tryz.prog 5 #[.agg #[.slice (some ⟨g, 0, none⟩) 2 2, .slice none 0 0], .int .i64 0, .int .i64 2] w fun e w' => ∃ b o k, e = .returned (.tuple #[.slice (some ⟨b, o, none⟩) 1 k, .int .i64 0]) ∧ b < w'.heap.size ∧ w'.cell? ⟨b, o + 6, none⟩ = some (.int .i64 2) ∧ Below w.heap.size w w' := by
  refine (editTake_any (some ⟨g, 0, none⟩) none 2 0 hiL [] 0 2 w (by decide) (by decide) (by decide) (by decide) h (Or.inl rfl)).mono ?_
  rintro e w' ⟨hb, ⟨h0, _⟩ | ⟨_, p, k, h2, h3⟩⟩
  · exact absurd beg_cutErr h0
  · have e0 : ((0 : Int).toNat) = 0 := rfl
    have e2 : ((2 : Int).toNat) = 2 := rfl
    rw [e0, e2, beg_runs] at h2 h3
    rcases h3 with hs | ⟨b, o, rfl, hlt, hc⟩
    · simp at hs
    obtain ⟨_, _, _, _, _, _, _, _, _, _, c6, _⟩ := hc 0 (by simp)
    exact ⟨b, o, k, h2, hlt, c6, hb⟩

theorem isPut_beg (g : Nat) (p : Option Addr) (k : Nat) (ax : List At) (w : World) (h : AtomsAt w (some ⟨g, 0, none⟩) hiL) (hP : PutAs hiL [] 1 txA 1 1 ax) (hr : DeedsAt w p ((runsL ax).map putDd)) :
    Calls Tryz.prog 24 #[.agg #[.slice (some ⟨g, 0, none⟩) 2 2, .slice none 0 0], .int .i64 1, .string txA, .int .i64 1, .int .i64 1, .slice p (runsL ax).length k] w fun e w' => e = .returned (.bool true) ∧ Below w.heap.size w w' :=
  isPut_true (some ⟨g, 0, none⟩) none p 2 0 k hiL [] 1 txA 1 1 ax w (okS_of beg_chkS) (by decide) (by decide) (by decide) hP h (Or.inl rfl) hr

set_option maxRecDepth 100000 in
set_option maxHeartbeats 4000000 in
theorem editBegun_true (w : World) :
    Calls Tryz.prog 7 #[] w fun e w' => e = .returned (.bool true) ∧ Below w.heap.size w w' := by
  go_enter Tryz.func7, Tryz.ntmps7
  go_wp2_with fail
  refine (hi_any _).mono ?_
  rintro e w1 ⟨g, rfl, h, hB⟩
  have hb := (Below.refl w1.heap.size w1).alloc (Nat.le_refl _) (Obj.cells #[.slice (some ⟨g, 0, none⟩) 2 2, .slice none 0 0] 25)
  have q0 : (w1.alloc (Obj.cells #[.slice (some ⟨g, 0, none⟩) 2 2, .slice none 0 0] 25)).cell? ⟨w1.heap.size, 0, none⟩ = some (.slice (some ⟨g, 0, none⟩) 2 2) := by simp
  have q1 : (w1.alloc (Obj.cells #[.slice (some ⟨g, 0, none⟩) 2 2, .slice none 0 0] 25)).cell? ⟨w1.heap.size, 1, none⟩ = some (.slice none 0 0) := by simp
  have z : w1.heap.size < (w1.alloc (Obj.cells #[.slice (some ⟨g, 0, none⟩) 2 2, .slice none 0 0] 25)).heap.size := by simp
  replace h := h.below hb (Nat.le_refl _)
  replace hB := hB.thru hb hB.size
  go_upto_region 2 with fail
  generalize w1.alloc (Obj.cells #[.slice (some ⟨g, 0, none⟩) 2 2, .slice none 0 0] 25) = w2 at hb q0 q1 z h hB ⊢
  generalize w1.heap.size = Z at q0 q1 z ⊢
  clear hb
  go_wp2_with fail
  refine (editPlain_beg w2).mono ?_
  rintro e w3 ⟨rfl, hb⟩
  replace q0 := (hb.cell (p := ⟨Z, 0, none⟩) z).trans q0
  replace q1 := (hb.cell (p := ⟨Z, 1, none⟩) z).trans q1
  replace z := Nat.lt_of_lt_of_le z hb.size
  replace h := h.below hb (Nat.le_refl _)
  replace hB := hB.thru hb hB.size
  clear hb
  go_wp2_with fail
  refine (editPut_beg g w3 h).mono ?_
  rintro e w4 ⟨ax, p, k, hP, rfl, hd, hb⟩
  have HP := hidE hP
  replace q0 := (hb.cell (p := ⟨Z, 0, none⟩) z).trans q0
  replace q1 := (hb.cell (p := ⟨Z, 1, none⟩) z).trans q1
  replace z := Nat.lt_of_lt_of_le z hb.size
  replace h := h.below hb (Nat.le_refl _)
  replace hB := hB.thru hb hB.size
  clear hb hP
  go_wp2_with fail
  refine (editTake_beg g w4 h).mono ?_
  rintro e w5 ⟨tb, to1, tk, rfl, htb, htc, hb⟩
  replace q0 := (hb.cell (p := ⟨Z, 0, none⟩) z).trans q0
  replace q1 := (hb.cell (p := ⟨Z, 1, none⟩) z).trans q1
  replace z := Nat.lt_of_lt_of_le z hb.size
  replace h := h.below hb (Nat.le_refl _)
  replace hd := hd.below hb
  replace hB := hB.thru hb hB.size
  clear hb
  have HIP := hidE (isPut_beg g p k ax w5 h HP.out hd)
  clear h hd HP
  have hst : (txHai.toList == [104, 97, 105]) = true := by decide +kernel
  go_wp2_with fail
  refine HIP.out.mono ?_
  rintro e w6 ⟨rfl, hb⟩
  have c6 := (hb.cell (p := ⟨tb, to1 + 6, none⟩) htb).trans htc
  replace hB := hB.thru hb hB.size
  clear hb HIP
  go_wp2_with fail
  go_ret
  exact ⟨rfl, hB⟩
end Go.Proofs.YtnhjebdlcbhkcacGreat

namespace Go.Proofs.YtnhjebdlcbhkcacGreat
open Go.RowKit

set_option maxHeartbeats 1000000 in
theorem isInside_any (n m : Int) (k : Nat) (w : World) (hk : k ≤ 1000) :
    Calls Tryz.prog 20 #[.int .i64 n, .int .i64 m, .int .i64 k] w fun e w' => e = .returned (.bool (pieceB n m k)) ∧ w' = w := by
  cases h1 : inB n 0 k
  · have HF : Hid (pieceB n m k = false) := by show _ = _; simp [inB] at h1; simp [pieceB]; omega
    have H1 := hidE h1
    clear h1
    go_enter Tryz.func20, Tryz.ntmps20
    go_wp2_with (go_at_call 53; refine (between_any _ _ _ _).mono ?_; rintro e w' ⟨rfl, rfl⟩; rw [H1.out])
    go_ret
    exact ⟨ret_bool HF.out.symm, rfl⟩
  cases h2 : inB m 0 k
  · have HF : Hid (pieceB n m k = false) := by show _ = _; simp [inB] at h1 h2; simp [pieceB]; omega
    have H1 := hidE h1
    have H2 := hidE h2
    clear h1 h2
    go_enter Tryz.func20, Tryz.ntmps20
    go_wp2_with (go_at_call 53; refine (between_any _ _ _ _).mono ?_; rintro e w' ⟨rfl, rfl⟩; first | rw [H2.out] | rw [H1.out])
    all_goals
      go_ret
      exact ⟨ret_bool HF.out.symm, rfl⟩
  have hn : 0 ≤ n ∧ n ≤ k := by simpa [inB] using h1
  have hm : 0 ≤ m ∧ m ≤ k := by simpa [inB] using h2
  have HF : Hid (pieceB n m k = decide (n + m ≤ k)) := by show _ = _; unfold pieceB; rw [decide_eq_true hn.1, decide_eq_true hm.1]; rfl
  have hw1 : IntKind.i64.wrap (n + m) = n + m := by rw [IntKind.wrap_i64] <;> omega
  have H1 := hidE h1
  have H2 := hidE h2
  clear h1 h2
  go_enter Tryz.func20, Tryz.ntmps20
  go_wp2_with (go_at_call 53; refine (between_any _ _ _ _).mono ?_; rintro e w' ⟨rfl, rfl⟩; first | rw [H2.out] | rw [H1.out])
  go_ret
  exact ⟨ret_bool HF.out.symm, rfl⟩

end Go.Proofs.YtnhjebdlcbhkcacGreat
