/- Contracts of run.follows and run.join. -/
import Derived.Test.YtfekbfjfjohofabRunCk
import Derived.Test.YtfekbfjfjohofabFresh
import Derived.Test.YtfekbfjfjohofabText
import Derived.Test.YtfekbfjfjohofabOkChk
namespace Go.Proofs.Ytfekbfjfjohofab
open Go.RowKit

/-- is the second mark what comes next behind the first? -/
def flw (pa : List (Int × Int)) (ca : Int) (pb : List (Int × Int)) (cb : Int) : Bool := ordM (bump pa 1) (ca + 1) pb cb == 0

set_option maxRecDepth 100000 in
set_option maxHeartbeats 2000000 in
theorem follows_any (a a' : Option Addr) (cap cap' : Nat) (l m : List (Int × Int)) (c d : Int) (w : World) (hl : chk l c = 0) (hm : chk m d = 0) (h : StepsAt w a l) (h' : StepsAt w a' m) :
    Calls Try.prog 71 #[.agg #[.slice a l.length cap, .int .i64 c], .agg #[.slice a' m.length cap', .int .i64 d]] w fun e w' => e = .returned (.bool (flw l c m d)) ∧ Below w.heap.size w w' := by
  have hl10 : l.length ≤ maxLen := by have := (chk_ok hl).2.1; unfold maxLen; omega
  have hm10 : m.length ≤ maxLen := by have := (chk_ok hm).2.1; unfold maxLen; omega
  obtain ⟨q0, q1, q2, q3, hz, hb0⟩ := boxes2 w (.slice a l.length cap) (.int .i64 c) (.slice a' m.length cap') (.int .i64 d) 24 24
  have hcase : (nxt l c 1 = ([], 0, 3) ∧ flw l c m d = false) ∨ (nxt l c 1 = (bump l 1, c + 1, 0)) := by
    unfold nxt
    rw [if_neg (by omega), if_neg (by omega)]
    by_cases hk : chk (bump l 1) (c + 1) = 0
    · rw [if_neg (by omega)]; exact Or.inr rfl
    · rw [if_pos hk]
      refine Or.inl ⟨rfl, ?_⟩
      unfold flw
      rw [beq_eq_false_iff_ne]
      intro e
      obtain ⟨e1, e2⟩ := ordM_zero e
      rw [e1, e2] at hk
      exact hk hm
  have HL := hidE hl
  have HM := hidE hm
  clear hl hm
  go_enter Try.func71, Try.ntmps71
  go_upto_region 1 with fail
  generalize (w.alloc (Obj.cells #[.slice a l.length cap, .int .i64 c] 24)).alloc (Obj.cells #[.slice a' m.length cap', .int .i64 d] 24) = W at q0 q1 q2 q3 hz hb0 ⊢
  go_wp2_with fail
  refine (next_any _ _ l _ _ _ hl10 (h.below hb0 (Nat.le_refl _))).mono ?_
  rintro e w2 ⟨na, nc, rfl, hsN, hb1⟩
  have z2 : w.heap.size + 1 < W.heap.size := by omega
  have p2 := (hb1.cell (p := ⟨w.heap.size + 1, 0, none⟩) z2).trans q2
  have p3 := (hb1.cell (p := ⟨w.heap.size + 1, 1, none⟩) z2).trans q3
  have hb := hb0.thru hb1 hb0.size
  have z3 := Nat.lt_of_lt_of_le z2 hb1.size
  clear hb0 hb1 q0 q1 q2 q3 hz z2
  rcases hcase with ⟨hn, hf⟩ | hn
  · rw [hn] at hsN ⊢
    have HF := hidE hf
    clear hf hn
    go_wp2_with fail
    go_ret
    exact ⟨ret_bool HF.out.symm, hb.alloc hb.size _⟩
  · rw [hn] at hsN ⊢
    have HLB := hidE (bump_len' l 1)
    clear hn
    have hbn := (Below.refl w2.heap.size w2).alloc (Nat.le_refl _) (Obj.cells #[.slice na (bump l 1).length nc, .int .i64 (c + 1)] 24)
    have hbm : (bump l 1).length ≤ maxLen := by rw [HLB.out]; exact hl10
    have x2 := (hbn.cell (p := ⟨w.heap.size + 1, 0, none⟩) z3).trans p2
    have x3 := (hbn.cell (p := ⟨w.heap.size + 1, 1, none⟩) z3).trans p3
    go_wp2_with (go_at_call 20; refine (order_any _ _ _ _ (bump l 1) m _ _ _ hbm hm10 (by exact hsN.below hbn (Nat.le_refl _)) (by exact h'.below (hb.thru hbn hb.size) (Nat.le_refl _))).mono ?_; rintro e w3 ⟨rfl, hb3⟩)
    go_ret
    exact ⟨ret_bool rfl, (hb.thru hbn hb.size).thru hb3 (by have := hb.size; simp; omega)⟩
end Go.Proofs.Ytfekbfjfjohofab
