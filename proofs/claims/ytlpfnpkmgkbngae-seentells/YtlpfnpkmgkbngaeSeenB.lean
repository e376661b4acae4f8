/- seenBegun: what must be in any case. -/
import Derived.Test.YtlpfnpkmgkbngaeReadyC
import Derived.Test.YtlpfnpkmgkbngaeLawNote
import Derived.Test.YtlpfnpkmgkbngaeSameI
namespace Go.Proofs.Ytlpfnpkmgkbngae
open Go.RowKit

def sL : List Int := [1, 0, 3, 0, 0]
def sM : List Int := [0, 2, 3, 0, 0]
def sJ : List Int := [1, 2, 3, 0, 0]
def sZ : List Int := [0, 0, 0, 0, 0]
theorem b_join : joinOf sL sM = sJ := by decide
theorem b_err : err2 sL sM = 0 := by decide
theorem b_cov1 : covOf sJ sL = true := by decide
theorem b_err1 : err2 sJ sL = 0 := by decide
theorem b_cov2 : covOf sL sM = false := by decide
theorem b_chk : chkSeen sL = 0 := by decide
theorem b_errR : errR sZ nHi = 0 := by decide
theorem b_ready : readyOf sZ nHi = true := by decide

theorem ints_new (w : World) (a b c d e : Int) : IntsAt (w.alloc (.cells #[.int .i64 a, .int .i64 b, .int .i64 c, .int .i64 d, .int .i64 e] 3)) (some ⟨w.heap.size, 0, none⟩) [a, b, c, d, e] := by
  refine Or.inr ⟨w.heap.size, 0, rfl, by simp, fun i hi => ?_⟩
  have hi5 : i < 5 := hi
  rcases (show i = 0 ∨ i = 1 ∨ i = 2 ∨ i = 3 ∨ i = 4 by omega) with rfl | rfl | rfl | rfl | rfl <;> simp

theorem bJoin (a a' : Addr) (w : World) (h : IntsAt w (some a) sL) (h' : IntsAt w (some a') sM) :
    Calls Try.prog 6 #[.slice (some a) 5 5, .slice (some a') 5 5] w fun e w' => ∃ p c, e = .returned (.tuple #[.slice p 5 c, .int .i64 0]) ∧ IntsAt w' p sJ ∧ Below w.heap.size w w' := by
  have := seenJoin_any (some a) (some a') 5 5 sL sM w (by simp [sL, maxLen]) (by simp [sM, maxLen]) h h'
  rw [b_join, b_err] at this
  exact this
theorem bCov1 (a : Option Addr) (a' : Addr) (c : Nat) (w : World) (h : IntsAt w a sJ) (h' : IntsAt w (some a') sL) :
    Calls Try.prog 7 #[.slice a 5 c, .slice (some a') 5 5] w fun e w' => e = .returned (.tuple #[.bool true, .int .i64 0]) ∧ Below w.heap.size w w' := by
  have := seenCovers_any a (some a') c 5 sJ sL w (by simp [sJ, maxLen]) (by simp [sL, maxLen]) h h'
  rw [b_cov1, b_err1] at this
  exact this
theorem bCov2 (a a' : Addr) (w : World) (h : IntsAt w (some a) sL) (h' : IntsAt w (some a') sM) :
    Calls Try.prog 7 #[.slice (some a) 5 5, .slice (some a') 5 5] w fun e w' => e = .returned (.tuple #[.bool false, .int .i64 0]) ∧ Below w.heap.size w w' := by
  have := seenCovers_any (some a) (some a') 5 5 sL sM w (by simp [sL, maxLen]) (by simp [sM, maxLen]) h h'
  rw [b_cov2, b_err] at this
  exact this
theorem bReady (a : Addr) (p q : Option Addr) (w : World) (h : IntsAt w (some a) sZ) (hn : NtAt w nHi p q) :
    Calls Try.prog 8 #[.slice (some a) 5 5, ntV nHi p q 5 1] w fun e w' => e = .returned (.tuple #[.bool true, .int .i64 0]) ∧ Below w.heap.size w w' := by
  have := seenReady_any (some a) 5 sZ nHi p q 5 1 w (by simp [sZ, maxLen]) h hn
  rw [b_ready, b_errR] at this
  exact this
theorem bChk (a : Addr) (w : World) (h : IntsAt w (some a) sL) :
    Calls Try.prog 13 #[.slice (some a) 5 5] w fun e w' => e = .returned (.int .i64 0) ∧ Below w.heap.size w w' := by
  have := seenCheck_any (some a) 5 sL w (by simp [sL, maxLen]) h
  rw [b_chk] at this
  exact this
theorem bSame (a : Option Addr) (a' : Addr) (c : Nat) (w : World) (h : IntsAt w a sJ) (h' : IntsAt w (some a') sJ) :
    Calls Try.prog 14 #[.slice a 5 c, .slice (some a') 5 5] w fun e w' => e = .returned (.bool true) ∧ Below w.heap.size w w' := by
  have := sameInts_any a (some a') c 5 sJ sJ w (by simp [sJ, maxLen]) (by simp [sJ, maxLen]) h h'
  rw [decide_eq_true rfl] at this
  exact this

set_option maxRecDepth 100000 in
set_option maxHeartbeats 4000000 in
theorem seenBegun_true (w : World) : Calls Try.prog 12 #[] w fun e w' => e = .returned (.bool true) ∧ Below w.heap.size w w' := by
  have hB := ((Below.refl w.heap.size w).alloc (Nat.le_refl _) (.cells #[.int .i64 1, .int .i64 0, .int .i64 3, .int .i64 0, .int .i64 0] 3)).alloc (by simp) (.cells #[.int .i64 0, .int .i64 2, .int .i64 3, .int .i64 0, .int .i64 0] 3)
  have h1 : IntsAt ((w.alloc (.cells #[.int .i64 1, .int .i64 0, .int .i64 3, .int .i64 0, .int .i64 0] 3)).alloc (.cells #[.int .i64 0, .int .i64 2, .int .i64 3, .int .i64 0, .int .i64 0] 3)) (some ⟨w.heap.size, 0, none⟩) sL := (ints_new w 1 0 3 0 0).below ((Below.refl _ _).alloc (Nat.le_refl _) _)
  have h2 : IntsAt ((w.alloc (.cells #[.int .i64 1, .int .i64 0, .int .i64 3, .int .i64 0, .int .i64 0] 3)).alloc (.cells #[.int .i64 0, .int .i64 2, .int .i64 3, .int .i64 0, .int .i64 0] 3)) (some ⟨w.heap.size + 1, 0, none⟩) sM := by
    have := ints_new (w.alloc (.cells #[.int .i64 1, .int .i64 0, .int .i64 3, .int .i64 0, .int .i64 0] 3)) 0 2 3 0 0
    unfold sM
    simpa using this
  go_enter Try.func12, Try.ntmps12
  go_upto_region 2 with fail
  generalize (w.alloc (.cells #[.int .i64 1, .int .i64 0, .int .i64 3, .int .i64 0, .int .i64 0] 3)).alloc (.cells #[.int .i64 0, .int .i64 2, .int .i64 3, .int .i64 0, .int .i64 0] 3) = w0 at hB h1 h2 ⊢
  have hz := hB.size
  generalize hzz : w.heap.size = Z at hB h1 h2 hz ⊢
  have HZ := hidE hzz
  clear hzz
  have HC := hidE (bJoin _ _ w0 h1 h2)
  go_wp2_with fail
  refine HC.out.mono ?_
  rintro e w1 ⟨p, c, rfl, h3, hb⟩
  replace h1 := h1.below hb
  replace h2 := h2.below hb
  replace hB := hB.thru hb hz
  replace hz := Nat.le_trans hz hb.size
  clear HC hb
  have HC := hidE (bCov1 _ _ c w1 h3 h1)
  go_wp2_with fail
  refine HC.out.mono ?_
  rintro e w2 ⟨rfl, hb⟩
  replace h1 := h1.below hb
  replace h2 := h2.below hb
  replace h3 := h3.below hb
  replace hB := hB.thru hb hz
  replace hz := Nat.le_trans hz hb.size
  clear HC hb
  have HC := hidE (bCov2 _ _ w2 h1 h2)
  go_wp2_with fail
  refine HC.out.mono ?_
  rintro e w3 ⟨rfl, hb⟩
  replace h1 := h1.below hb
  replace h3 := h3.below hb
  replace hB := hB.thru hb hz
  replace hz := Nat.le_trans hz hb.size
  clear HC hb h2
  go_upto_region 5 with fail
  have hmk := mk5
  have hW1 : Below w3.heap.size w3 w3.drew := (Below.refl _ _).drew
  have hW2 := hW1.alloc (Nat.le_refl _) (.cells #[.int .i64 0, .int .i64 0, .int .i64 0, .int .i64 0, .int .i64 0] 3)
  have HI := hidE (fun (x : World) => ints_new x 0 0 0 0 0)
  have HN := hidE lawNote_any
  have HR := hidE bReady
  go_region_with (first
    | (go_at_call 24; refine (HN.out _).mono ?_; rintro e w4 ⟨pn, qn, rfl, hn, hbn⟩)
    | (go_at_call 8; refine (HR.out _ pn qn _ ?_ ?_).mono ?_; (first | exact HI.out w4 | exact (HI.out w3.drew).below hbn); (first | exact hn | exact hn.below ((Below.refl _ _).alloc (Nat.le_refl _) _)); rintro e w5 ⟨rfl, hb5⟩; have hb6 : Below w3.heap.size w3 w5 := (by first | exact (hW2.thru hbn hW2.size).thru hb5 (hW2.thru hbn hW2.size).size | exact ((hW1.thru hbn hW1.size).alloc (hW1.thru hbn hW1.size).size _).thru hb5 ((hW1.thru hbn hW1.size).alloc (hW1.thru hbn hW1.size).size _).size)))
  all_goals
    replace h1 := h1.below hb6
    replace h3 := h3.below hb6
    replace hB := hB.thru hb6 hz
    replace hz := Nat.le_trans hz hb6.size
    have HC := hidE (bChk _ w5 h1)
    clear hb6 hn HI HN HR hmk
    go_wp2_with fail
    refine HC.out.mono ?_
    rintro e w6 ⟨rfl, hb⟩
    replace h3 := h3.below hb
    replace hB := hB.thru hb hz
    replace hz := Nat.le_trans hz hb.size
    clear HC hb h1
    have hbA : Below w6.heap.size w6 (w6.alloc (.cells #[.int .i64 1, .int .i64 2, .int .i64 3, .int .i64 0, .int .i64 0] 3)) := (Below.refl _ _).alloc (Nat.le_refl _) _
    have HC := hidE (bSame p ⟨w6.heap.size, 0, none⟩ c _ (h3.below hbA) (ints_new w6 1 2 3 0 0))
    replace hB := hB.thru hbA hz
    replace hz := Nat.le_trans hz hbA.size
    go_wp2_with fail
    refine HC.out.mono ?_
    rintro e w7 ⟨rfl, hb⟩
    replace hB := hB.thru hb hz
    go_wp2_with fail
    go_ret
    rw [HZ.out]
    exact ⟨rfl, hB⟩
end Go.Proofs.Ytlpfnpkmgkbngae
