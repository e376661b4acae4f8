/- markBegun answers true. -/
import Derived.Test.YtcggeeejkgndmadPlainB
import Derived.Test.YtcggeeejkgndmadHolds
namespace Go.Proofs.Ytcggeeejkgndmad
open Go.RowKit

theorem between_n (a b : Option Addr) (cap cap' n n' : Nat) (la lb : List (Int × Int)) (ca cb site clock many : Int) (w : World) (hn : n = la.length) (hn' : n' = lb.length) (hla : la.length ≤ maxLen) (hlb : lb.length ≤ maxLen) (hca : la.length ≤ cap) (hcb : lb.length ≤ cap')
   (ha : StepsAt w a la) (hb : StepsAt w b lb) :
    Calls Try.prog 13 #[.agg #[.slice a n cap, .int .i64 ca], .agg #[.slice b n' cap', .int .i64 cb], .int .i64 site, .int .i64 clock, .int .i64 many] w (BtwGives w la ca lb cb site clock many) := by
  subst hn hn'; exact between_fn a b cap cap' la lb ca cb site clock many w hla hlb hca hcb ha hb
theorem isBetween_n (a b p : Option Addr) (cap cap' cp n n' : Nat) (la lb : List (Int × Int)) (ca cb site clock : Int) (many : Nat) (mi : Int) (ms : List (List (Int × Int) × Int)) (w : World) (hn : n = la.length) (hn' : n' = lb.length) (hmi : mi = many) (hla8 : la.length ≤ 1000) (hlb8 : lb.length ≤ 1000)
   (ha : StepsAt w a la) (hb : StepsAt w b lb) (hm : MarksAt w p ms) (hl : ms.length = many) (hmn : many ≤ 1000) (hc0 : 0 ≤ clock) (hc1 : clock ≤ 100000)
   (hall : ∀ i (h : i < ms.length), BtwAt la ca lb cb site clock many ms i h) :
    Calls Try.prog 15 #[.agg #[.slice a n cap, .int .i64 ca], .agg #[.slice b n' cap', .int .i64 cb], .int .i64 site, .int .i64 clock, .int .i64 mi, .slice p many cp] w fun e w' => e = .returned (.bool true) ∧ Below w.heap.size w w' := by
  subst hn hn' hmi; exact isBetween_true a b p cap cap' cp la lb ca cb site clock many ms w (by unfold maxLen; omega) (by unfold maxLen; omega) ha hb hm hl hla8 hlb8 hmn hc0 hc1 hall

theorem begun_nxt : nxt [(3, 0)] 1 1 = ([(4, 0)], 2, 0) := by decide
theorem begun_btw : btwErr [(3, 0)] 1 [(4, 0)] 2 2 7 2 = 0 := by decide

set_option maxRecDepth 100000 in
set_option maxHeartbeats 2000000 in
theorem markBegun_true (w : World) : Calls Try.prog 5 #[] w fun e w' => e = .returned (.bool true) ∧ Below w.heap.size w w' := by
  go_enter Try.func5, Try.ntmps5
  go_wp2_with fail
  refine (at_any _ _ _ _).mono ?_
  rintro e w1 ⟨rfl, hs1, hb1⟩
  go_wp2_with fail
  refine (at_any _ _ _ _).mono ?_
  rintro e w2 ⟨rfl, hs2, hb2⟩
  go_wp2_with fail
  obtain ⟨q0, q1, q2, q3, hz, hb3⟩ := boxes2 w2 (.slice (some ⟨w.heap.size + 1, 0, none⟩) 1 1) (.int .i64 1) (.slice (some ⟨w1.heap.size + 1, 0, none⟩) 1 1) (.int .i64 2) 29 29
  have HZ := hidE hz
  generalize (w2.alloc (Obj.cells #[.slice (some ⟨w.heap.size + 1, 0, none⟩) 1 1, .int .i64 1] 29)).alloc (Obj.cells #[.slice (some ⟨w1.heap.size + 1, 0, none⟩) 1 1, .int .i64 2] 29) = V at q0 q1 q2 q3 hz hb3 HZ ⊢
  have hsA := (hs1.below hb2 (Nat.le_refl _)).below hb3 (Nat.le_refl _)
  have hsB := hs2.below hb3 (Nat.le_refl _)
  have hb0 : Below w.heap.size w V := (hb1.thru hb2 hb1.size).thru hb3 (Nat.le_trans hb1.size hb2.size)
  have zA : w2.heap.size < V.heap.size := by omega
  have zB : w2.heap.size + 1 < V.heap.size := by omega
  clear hz hs1 hs2 hb1 hb2 hb3
  refine (next_n _ _ _ [(3, 0)] _ _ _ rfl (by simp [maxLen]) hsA).mono ?_
  rintro e w3 ⟨na, nc, rfl, hsN, hb3⟩
  rw [begun_nxt] at *
  have hb4 : Below V.heap.size V (w3.alloc (Obj.cells #[.slice na 1 nc, .int .i64 2] 29)) := hb3.alloc hb3.size _
  have n0 : (w3.alloc (Obj.cells #[.slice na 1 nc, .int .i64 2] 29)).cell? ⟨w3.heap.size, 0, none⟩ = some (.slice na 1 nc) := by go_simp
  have n1 : (w3.alloc (Obj.cells #[.slice na 1 nc, .int .i64 2] 29)).cell? ⟨w3.heap.size, 1, none⟩ = some (.int .i64 2) := by go_simp
  have a0 := (hb4.cell (p := ⟨w2.heap.size, 0, none⟩) zA).trans q0
  have a1 := (hb4.cell (p := ⟨w2.heap.size, 1, none⟩) zA).trans q1
  have b0 := (hb4.cell (p := ⟨w2.heap.size + 1, 0, none⟩) zB).trans q2
  have b1 := (hb4.cell (p := ⟨w2.heap.size + 1, 1, none⟩) zB).trans q3
  have hsA4 := hsA.below hb4 (Nat.le_refl _)
  have hsB4 := hsB.below hb4 (Nat.le_refl _)
  have hsN4 := hsN.below ((Below.refl _ w3).alloc (Nat.le_refl _) (Obj.cells #[.slice na 1 nc, .int .i64 2] 29)) (Nat.le_refl _)
  have HH : Holds (w3.alloc (Obj.cells #[.slice na 1 nc, .int .i64 2] 29)) [(w2.heap.size, 0, .slice (some ⟨w.heap.size + 1, 0, none⟩) 1 1), (w2.heap.size, 1, .int .i64 1), (w2.heap.size + 1, 0, .slice (some ⟨w1.heap.size + 1, 0, none⟩) 1 1), (w2.heap.size + 1, 1, .int .i64 2), (w3.heap.size, 0, .slice na 1 nc), (w3.heap.size, 1, .int .i64 2)] := by
    simp only [holds_cons, holds_nil]
    exact ⟨holds_at a0, holds_at a1, holds_at b0, holds_at b1, holds_at n0, holds_at n1, trivial⟩
  have hb5 := hb0.thru hb4 hb0.size
  clear hb4 n0 n1 a0 a1 b0 b1 q0 q1 q2 q3 hb0 hb3 hsA hsB hsN zA zB HZ
  go_upto_region 3 with fail
  generalize w3.alloc (Obj.cells #[.slice na 1 nc, .int .i64 2] 29) = U at hsA4 hsB4 hsN4 HH hb5 ⊢
  have X := HH
  simp only [holds_cons, holds_nil] at X
  obtain ⟨⟨_, a0⟩, ⟨_, a1⟩, ⟨_, b0⟩, ⟨_, b1⟩, ⟨_, n0⟩, ⟨_, n1⟩, _⟩ := X
  go_wp2_with fail
  refine (between_n _ _ _ _ _ _ [(3, 0)] [(4, 0)] _ _ _ _ _ _ rfl rfl (by simp [maxLen]) (by simp [maxLen]) (by simp) (by simp) hsA4 hsB4).mono ?_
  rintro e w4 ⟨hb6, ⟨hne, _⟩ | ⟨he, O, pl, r, rfl, hmk, hcand, r1, r2⟩⟩
  · exact absurd begun_btw hne
  have hall := btw_all (many := 2) he hcand r1 r2
  have hlen := rowOf_length pl r 2 7 2
  clear he hcand r1 r2 a0 a1 b0 b1 n0 n1
  replace hsA4 := hsA4.below hb6 (Nat.le_refl _)
  replace hsB4 := hsB4.below hb6 (Nat.le_refl _)
  replace hsN4 := hsN4.below hb6 (Nat.le_refl _)
  replace HH := HH.below hb6 (Nat.le_refl _)
  have hb7 := hb5.thru hb6 hb5.size
  clear hb5 hb6
  have X := HH
  simp only [holds_cons, holds_nil] at X
  obtain ⟨⟨_, a0⟩, ⟨_, a1⟩, ⟨_, b0⟩, ⟨_, b1⟩, ⟨_, n0⟩, ⟨_, n1⟩, _⟩ := X
  go_wp2_with fail
  refine (check_n _ _ _ [(3, 0)] _ _ rfl (by simp [maxLen]) hsA4).mono ?_
  rintro e w5 ⟨rfl, hb8⟩
  rw [show chk [(3, 0)] 1 = 0 by decide]
  replace hsA4 := hsA4.below hb8 (Nat.le_refl _)
  replace hsB4 := hsB4.below hb8 (Nat.le_refl _)
  replace hsN4 := hsN4.below hb8 (Nat.le_refl _)
  replace hmk := hmk.below hb8 (Nat.le_refl _)
  replace HH := HH.below hb8 (Nat.le_refl _)
  replace hb7 := hb7.thru hb8 hb7.size
  clear hb8 a0 a1 b0 b1 n0 n1
  have X := HH
  simp only [holds_cons, holds_nil] at X
  obtain ⟨⟨_, a0⟩, ⟨_, a1⟩, ⟨_, b0⟩, ⟨_, b1⟩, ⟨_, n0⟩, ⟨_, n1⟩, _⟩ := X
  go_wp2_with fail
  refine (order_n _ _ _ _ _ _ [(3, 0)] [(4, 0)] _ _ _ rfl rfl (by simp [maxLen]) (by simp [maxLen]) hsA4 hsB4).mono ?_
  rintro e w6 ⟨rfl, hb8⟩
  rw [show ordM [(3, 0)] 1 [(4, 0)] 2 = -1 by decide]
  replace hsA4 := hsA4.below hb8 (Nat.le_refl _)
  replace hsB4 := hsB4.below hb8 (Nat.le_refl _)
  replace hsN4 := hsN4.below hb8 (Nat.le_refl _)
  replace hmk := hmk.below hb8 (Nat.le_refl _)
  replace HH := HH.below hb8 (Nat.le_refl _)
  replace hb7 := hb7.thru hb8 hb7.size
  clear hb8 a0 a1 b0 b1 n0 n1
  have X := HH
  simp only [holds_cons, holds_nil] at X
  obtain ⟨⟨_, a0⟩, ⟨_, a1⟩, ⟨_, b0⟩, ⟨_, b1⟩, ⟨_, n0⟩, ⟨_, n1⟩, _⟩ := X
  go_wp2_with fail
  refine (sameMark_n _ _ _ _ _ _ [(4, 0)] [(4, 0)] _ _ _ rfl rfl (by simp [maxLen]) (by simp [maxLen]) hsN4 hsB4).mono ?_
  rintro e w7 ⟨rfl, hb8⟩
  rw [show (ordM [(4, 0)] 2 [(4, 0)] 2 == 0) = true by decide]
  replace hsA4 := hsA4.below hb8 (Nat.le_refl _)
  replace hsB4 := hsB4.below hb8 (Nat.le_refl _)
  replace hsN4 := hsN4.below hb8 (Nat.le_refl _)
  replace hmk := hmk.below hb8 (Nat.le_refl _)
  replace HH := HH.below hb8 (Nat.le_refl _)
  replace hb7 := hb7.thru hb8 hb7.size
  clear hb8 a0 a1 b0 b1 n0 n1
  have X := HH
  simp only [holds_cons, holds_nil] at X
  obtain ⟨⟨_, a0⟩, ⟨_, a1⟩, ⟨_, b0⟩, ⟨_, b1⟩, ⟨_, n0⟩, ⟨_, n1⟩, _⟩ := X
  go_wp2_with fail
  refine (isBetween_n _ _ _ _ _ _ _ _ [(3, 0)] [(4, 0)] _ _ _ _ 2 _ (rowOf pl r 2 7 2) _ rfl rfl rfl (by simp) (by simp) hsA4 hsB4 hmk hlen (by omega) (by omega) (by omega) hall).mono ?_
  rintro e w8 ⟨rfl, hb8⟩
  go_wp2
  go_ret
  exact ⟨rfl, hb7.thru hb8 hb7.size⟩
end Go.Proofs.Ytcggeeejkgndmad
