/- runBegun answers true. -/
import Derived.Test.YtnhjebdlcbhkcaeGreatDeedE
import Derived.Test.YtnhjebdlcbhkcaeGreatPutStep
import Derived.Test.YtnhjebdlcbhkcaeGreatSameR
import Derived.Test.YtnhjebdlcbhkcaeGreatDPut
import Derived.Test.YtnhjebdlcbhkcaeGreatPutLe
import Derived.Test.YtnhjebdlcbhkcaeGreatUsedC
import Derived.Test.YtnhjebdlcbhkcaeGreatAtomCk
import Derived.Test.YtnhjebdlcbhkcaeGreatEnds
import Derived.Test.YtnhjebdlcbhkcaeGreatCaretPu
import Derived.Test.YtnhjebdlcbhkcaeGreatCaretC
import Derived.Test.YtnhjebdlcbhkcaeGreatAllC
import Derived.Test.YtnhjebdlcbhkcaeGreatDoerC
import Derived.Test.YtnhjebdlcbhkcaeGreatDiffX
namespace Go.Proofs.YtnhjebdlcbhkcaeGreat
open Go.RowKit

def hiT : ByteArray := ⟨#[104, 105]⟩
theorem hi_chkRun : chkRun [(3, 0)] 1 hiT = 0 := by decide
theorem hi_atoms : atomsR [(3, 0)] 1 hiT = hiL := by rfl
theorem hi_runs : runsL hiL = [⟨[(3, 0)], 1, hiT⟩] := by rfl

theorem runsAt_one (w : World) (p : Option Addr) (cap : Nat) (x : Rn) (hs : StepsAt w p x.path) (hl : x.path.length ≤ maxLen) (ht : x.text.size ≤ maxLen) :
    RunsAt (w.alloc (.cells #[.slice p x.path.length cap, .int .i64 x.clock, .string x.text] 59)) (some ⟨w.heap.size, 0, none⟩) [x] := by
  have hb := (Below.refl w.heap.size w).alloc (Nat.le_refl _) (Obj.cells #[.slice p x.path.length cap, .int .i64 x.clock, .string x.text] 59)
  refine Or.inr ⟨w.heap.size, 0, rfl, by simp, fun i hi => ?_⟩
  have : i = 0 := by simpa using hi
  subst this
  exact ⟨p, cap, by simp, by simp, by simp, hs.below hb (Nat.le_refl _), hl, ht⟩

set_option maxRecDepth 100000 in
set_option maxHeartbeats 4000000 in
theorem runBegun_true (w : World) : Calls Tryz.prog 8 #[] w fun e w' => e = .returned (.bool true) ∧ Below w.heap.size w w' := by
  have hml : ∀ n, n ≤ 300 → n ≤ maxLen := fun n h => by unfold maxLen; omega
  go_enter Tryz.func8, Tryz.ntmps8
  go_wp2_with fail
  refine (at_any _ _ _ _).mono ?_
  rintro e w1 ⟨rfl, hs, hb1⟩
  have hbA := (Below.refl w1.heap.size w1).alloc (Nat.le_refl _) (Obj.cells #[.slice (some ⟨w.heap.size + 1, 0, none⟩) 1 1, .int .i64 1, .string ⟨#[104, 105]⟩] 59)
  have q0 : (w1.alloc (Obj.cells #[.slice (some ⟨w.heap.size + 1, 0, none⟩) 1 1, .int .i64 1, .string ⟨#[104, 105]⟩] 59)).cell? ⟨w1.heap.size, 0, none⟩ = some (.slice (some ⟨w.heap.size + 1, 0, none⟩) 1 1) := by simp
  have q1 : (w1.alloc (Obj.cells #[.slice (some ⟨w.heap.size + 1, 0, none⟩) 1 1, .int .i64 1, .string ⟨#[104, 105]⟩] 59)).cell? ⟨w1.heap.size, 1, none⟩ = some (.int .i64 1) := by simp
  have q2 : (w1.alloc (Obj.cells #[.slice (some ⟨w.heap.size + 1, 0, none⟩) 1 1, .int .i64 1, .string ⟨#[104, 105]⟩] 59)).cell? ⟨w1.heap.size, 2, none⟩ = some (.string ⟨#[104, 105]⟩) := by simp
  have z : w1.heap.size < (w1.alloc (Obj.cells #[.slice (some ⟨w.heap.size + 1, 0, none⟩) 1 1, .int .i64 1, .string ⟨#[104, 105]⟩] 59)).heap.size := by simp
  go_upto_region 2 with fail
  generalize w1.alloc (Obj.cells #[.slice (some ⟨w.heap.size + 1, 0, none⟩) 1 1, .int .i64 1, .string ⟨#[104, 105]⟩] 59) = W at hbA q0 q1 q2 z ⊢
  have hsW := hs.below hbA (Nat.le_refl _)
  have hB := hb1.thru hbA hb1.size
  clear hbA hb1 hs
  generalize w1.heap.size = B at q0 q1 q2 z
  go_wp2_with fail
  have hra := runAtoms_ok (some ⟨w.heap.size + 1, 0, none⟩) 1 [(3, 0)] 1 hiT W hsW hi_chkRun
  rw [hi_atoms] at hra
  refine hra.mono ?_
  clear hra
  rintro e w3 ⟨pA, kA, rfl, HA, _, hb⟩
  have hsW3 := hsW.below hb (Nat.le_refl _)
  replace q0 := (hb.cell (p := ⟨B, 0, none⟩) z).trans q0
  replace q1 := (hb.cell (p := ⟨B, 1, none⟩) z).trans q1
  replace q2 := (hb.cell (p := ⟨B, 2, none⟩) z).trans q2
  replace z := Nat.lt_of_lt_of_le z hb.size
  replace hB := hB.thru hb hB.size
  clear hb hsW
  go_wp2_with fail
  refine (hi_any _).mono ?_
  rintro e w4 ⟨g, rfl, HH, hb⟩
  replace HA := HA.below hb (Nat.le_refl _)
  have hsW4 := hsW3.below hb (Nat.le_refl _)
  replace q0 := (hb.cell (p := ⟨B, 0, none⟩) z).trans q0
  replace q1 := (hb.cell (p := ⟨B, 1, none⟩) z).trans q1
  replace q2 := (hb.cell (p := ⟨B, 2, none⟩) z).trans q2
  replace z := Nat.lt_of_lt_of_le z hb.size
  replace hB := hB.thru hb hB.size
  clear hb hsW3
  go_wp2_with fail
  have hrn := runs_ok (some ⟨g, 0, none⟩) 2 hiL w4 (Nat.le_refl _) (by unfold maxLen; omega) HH hiL_chk
  rw [hi_runs] at hrn
  refine hrn.mono ?_
  clear hrn
  rintro e w5 ⟨pR, kR, rfl, HR, _, hb⟩
  replace HA := HA.below hb (Nat.le_refl _)
  have hsW5 := hsW4.below hb (Nat.le_refl _)
  replace q0 := (hb.cell (p := ⟨B, 0, none⟩) z).trans q0
  replace q1 := (hb.cell (p := ⟨B, 1, none⟩) z).trans q1
  replace q2 := (hb.cell (p := ⟨B, 2, none⟩) z).trans q2
  replace z := Nat.lt_of_lt_of_le z hb.size
  replace hB := hB.thru hb hB.size
  clear hb hsW4 HH
  go_wp2_with fail
  have hck := runCheck_any (some ⟨w.heap.size + 1, 0, none⟩) 1 [(3, 0)] 1 hiT w5 (hml _ (by simp)) (hml _ (by decide)) hsW5
  rw [hi_chkRun] at hck
  refine hck.mono ?_
  clear hck
  rintro e w6 ⟨rfl, hb⟩
  replace HA := HA.below hb (Nat.le_refl _)
  replace HR := HR.below hb (Nat.le_refl _)
  have hsW6 := hsW5.below hb (Nat.le_refl _)
  replace q0 := (hb.cell (p := ⟨B, 0, none⟩) z).trans q0
  replace q1 := (hb.cell (p := ⟨B, 1, none⟩) z).trans q1
  replace q2 := (hb.cell (p := ⟨B, 2, none⟩) z).trans q2
  replace z := Nat.lt_of_lt_of_le z hb.size
  replace hB := hB.thru hb hB.size
  clear hb hsW5
  go_wp2_with fail
  refine (hi_any _).mono ?_
  rintro e w7 ⟨g2, rfl, HH, hb⟩
  replace HA := HA.below hb (Nat.le_refl _)
  replace HR := HR.below hb (Nat.le_refl _)
  have hsW7 := hsW6.below hb (Nat.le_refl _)
  replace q0 := (hb.cell (p := ⟨B, 0, none⟩) z).trans q0
  replace q1 := (hb.cell (p := ⟨B, 1, none⟩) z).trans q1
  replace q2 := (hb.cell (p := ⟨B, 2, none⟩) z).trans q2
  replace z := Nat.lt_of_lt_of_le z hb.size
  replace hB := hB.thru hb hB.size
  clear hb hsW6
  go_wp2_with fail
  refine (sameAtoms_any _ _ _ _ hiL hiL _ (hml _ (by decide)) (hml _ (by decide)) HA HH).mono ?_
  rintro e w8 ⟨rfl, hb⟩
  rw [sameL_refl]
  replace HR := HR.below hb (Nat.le_refl _)
  have hsW8 := hsW7.below hb (Nat.le_refl _)
  replace q0 := (hb.cell (p := ⟨B, 0, none⟩) z).trans q0
  replace q1 := (hb.cell (p := ⟨B, 1, none⟩) z).trans q1
  replace q2 := (hb.cell (p := ⟨B, 2, none⟩) z).trans q2
  replace z := Nat.lt_of_lt_of_le z hb.size
  replace hB := hB.thru hb hB.size
  clear hb hsW7 HA HH
  go_wp2_with fail
  have hbN := (Below.refl w8.heap.size w8).alloc (Nat.le_refl _) (Obj.cells #[.slice (some ⟨w.heap.size + 1, 0, none⟩) 1 1, .int .i64 1, .string ⟨#[104, 105]⟩] 59)
  have h1 := runsAt_one w8 (some ⟨w.heap.size + 1, 0, none⟩) 1 ⟨[(3, 0)], 1, hiT⟩ hsW8 (hml _ (by simp)) (hml _ (by decide))
  refine (sameRuns_true _ _ _ _ [⟨[(3, 0)], 1, hiT⟩] _ (hml _ (by simp)) (HR.below hbN (Nat.le_refl _)) h1).mono ?_
  rintro e w9 ⟨rfl, hb⟩
  replace hB := hB.thru hbN hB.size
  go_wp2_with fail
  go_ret
  exact ⟨rfl, hB.thru hb hB.size⟩
end Go.Proofs.YtnhjebdlcbhkcaeGreat

namespace Go.Proofs.YtnhjebdlcbhkcaeGreat
open Go.RowKit

theorem PickRow.append {w w' : World} {base : Nat} {v v' : Value} {xs ys : List At} {rs qs : List Raw} (hl : rs.length = xs.length) (hown : w.ownsRow base 108 3 v xs.length (flatR rs)) (hr : ∀ i (h : i < xs.length) (h' : i < rs.length), PickRaw w base rs[i] xs[i]) (hl2 : qs.length = ys.length) (hr2 : ∀ i (h : i < ys.length) (h' : i < qs.length), PickRaw w base qs[i] ys[i]) (hg : w.grownBy w' v.ownBlock) (h : w'.ownsRow base 108 3 v' (xs.length + ys.length) (flatR rs ++ flatR qs)) :
    PickRow w' base v' (xs ++ ys) := by
  refine ⟨rs ++ qs, by simp [hl, hl2], ?_, fun i hi hi' => ?_⟩
  · rw [flatR_append, List.length_append]; exact h
  · by_cases e : i < xs.length
    · rw [List.getElem_append_left (by omega), List.getElem_append_left e]
      exact (hr i e (by omega)).kept hg (fun g cap _ ho => types_ne ho hown)
    · have hi2 : i < xs.length + ys.length := by simpa using hi
      rw [List.getElem_append_right (by omega), List.getElem_append_right (by omega)]
      have := hr2 (i - xs.length) (by omega) (by omega)
      simp only [hl]
      exact this.kept hg (fun g cap _ ho => types_ne ho hown)

theorem next_anyO (a : Option Addr) (cap : Nat) (l : List (Int × Int)) (c n : Int) (w : World) (hl : l.length ≤ maxLen) (h : StepsAt w a l) :
    Calls Tryz.prog 34 #[.agg #[.slice a l.length cap, .int .i64 c], .int .i64 n] w (NextGivesO w l c n) := by
  by_cases hok : chk l c = 0
  · by_cases hr : n < 0 ∨ 60 < n
    · have hn : nxt l c n = ([], 0, 3) := by unfold nxt; rw [if_neg (by omega), if_pos hr]
      refine (next_range a cap l c n w hl h hok hr).mono ?_
      rintro e w' ⟨a', c', h1, h2, h3⟩
      exact ⟨a', c', h1, h2, h3, fun e => by rw [hn] at e; cases e⟩
    · rcases id h with hs | ⟨b, off, rfl, _⟩
      · have := (chk_ok hok).1
        simp [hs] at this
      · exact next_in b off cap l c n w h hok (by omega) (by omega)
  · have hn : nxt l c n = ([], 0, chk l c) := by unfold nxt; rw [if_pos hok]
    refine (next_bad a cap l c n w hl h hok).mono ?_
    rintro e w' ⟨a', c', h1, h2, h3⟩
    exact ⟨a', c', h1, h2, h3, fun e => by rw [hn] at e; exact absurd e hok⟩

end Go.Proofs.YtnhjebdlcbhkcaeGreat

namespace Go.Proofs.YtnhjebdlcbhkcaeGreat
open Go.RowKit

theorem between_n (a b : Option Addr) (cap cap' n n' : Nat) (la lb : List (Int × Int)) (ca cb site clock many : Int) (w : World) (hn : n = la.length) (hn' : n' = lb.length) (hla : la.length ≤ maxLen) (hlb : lb.length ≤ maxLen) (hca : la.length ≤ cap) (hcb : lb.length ≤ cap')
   (ha : StepsAt w a la) (hb : StepsAt w b lb) :
    Calls Tryz.prog 59 #[.agg #[.slice a n cap, .int .i64 ca], .agg #[.slice b n' cap', .int .i64 cb], .int .i64 site, .int .i64 clock, .int .i64 many] w (BtwGives w la ca lb cb site clock many) := by
  subst hn hn'; exact between_fn a b cap cap' la lb ca cb site clock many w hla hlb hca hcb ha hb
theorem isBetween_n (a b p : Option Addr) (cap cap' cp n n' : Nat) (la lb : List (Int × Int)) (ca cb site clock : Int) (many : Nat) (mi : Int) (ms : List (List (Int × Int) × Int)) (w : World) (hn : n = la.length) (hn' : n' = lb.length) (hmi : mi = many) (hla8 : la.length ≤ 1000) (hlb8 : lb.length ≤ 1000)
   (ha : StepsAt w a la) (hb : StepsAt w b lb) (hm : MarksAt w p ms) (hl : ms.length = many) (hmn : many ≤ 1000) (hc0 : 0 ≤ clock) (hc1 : clock ≤ 100000)
   (hall : ∀ i (h : i < ms.length), BtwAt la ca lb cb site clock many ms i h) :
    Calls Tryz.prog 62 #[.agg #[.slice a n cap, .int .i64 ca], .agg #[.slice b n' cap', .int .i64 cb], .int .i64 site, .int .i64 clock, .int .i64 mi, .slice p many cp] w fun e w' => e = .returned (.bool true) ∧ Below w.heap.size w w' := by
  subst hn hn' hmi; exact isBetween_true a b p cap cap' cp la lb ca cb site clock many ms w (by unfold maxLen; omega) (by unfold maxLen; omega) ha hb hm hl hla8 hlb8 hmn hc0 hc1 hall

theorem begun_nxt : nxt [(3, 0)] 1 1 = ([(4, 0)], 2, 0) := by decide
theorem begun_btw : btwErr [(3, 0)] 1 [(4, 0)] 2 2 7 2 = 0 := by decide

set_option maxRecDepth 100000 in
set_option maxHeartbeats 2000000 in
theorem markBegun_true (w : World) : Calls Tryz.prog 11 #[] w fun e w' => e = .returned (.bool true) ∧ Below w.heap.size w w' := by
  go_enter Tryz.func11, Tryz.ntmps11
  go_wp2_with fail
  refine (at_any _ _ _ _).mono ?_
  rintro e w1 ⟨rfl, hs1, hb1⟩
  go_wp2_with fail
  refine (at_any _ _ _ _).mono ?_
  rintro e w2 ⟨rfl, hs2, hb2⟩
  go_wp2_with fail
  obtain ⟨q0, q1, q2, q3, hz, hb3⟩ := boxes2 w2 (.slice (some ⟨w.heap.size + 1, 0, none⟩) 1 1) (.int .i64 1) (.slice (some ⟨w1.heap.size + 1, 0, none⟩) 1 1) (.int .i64 2) 42 42
  have HZ := hidE hz
  generalize (w2.alloc (Obj.cells #[.slice (some ⟨w.heap.size + 1, 0, none⟩) 1 1, .int .i64 1] 42)).alloc (Obj.cells #[.slice (some ⟨w1.heap.size + 1, 0, none⟩) 1 1, .int .i64 2] 42) = V at q0 q1 q2 q3 hz hb3 HZ ⊢
  have hsA := (hs1.below hb2 (Nat.le_refl _)).below hb3 (Nat.le_refl _)
  have hsB := hs2.below hb3 (Nat.le_refl _)
  have hb0 : Below w.heap.size w V := (hb1.thru hb2 hb1.size).thru hb3 (Nat.le_trans hb1.size hb2.size)
  have zA : w2.heap.size < V.heap.size := by omega
  have zB : w2.heap.size + 1 < V.heap.size := by omega
  clear hz hs1 hs2 hb1 hb2 hb3
  refine (next_n _ _ _ [(3, 0)] _ _ _ rfl (by simp [maxLen]) hsA).mono ?_
  rintro e w3 ⟨na, nc, rfl, hsN, hb3⟩
  rw [begun_nxt] at *
  have hb4 : Below V.heap.size V (w3.alloc (Obj.cells #[.slice na 1 nc, .int .i64 2] 42)) := hb3.alloc hb3.size _
  have n0 : (w3.alloc (Obj.cells #[.slice na 1 nc, .int .i64 2] 42)).cell? ⟨w3.heap.size, 0, none⟩ = some (.slice na 1 nc) := by go_simp
  have n1 : (w3.alloc (Obj.cells #[.slice na 1 nc, .int .i64 2] 42)).cell? ⟨w3.heap.size, 1, none⟩ = some (.int .i64 2) := by go_simp
  have a0 := (hb4.cell (p := ⟨w2.heap.size, 0, none⟩) zA).trans q0
  have a1 := (hb4.cell (p := ⟨w2.heap.size, 1, none⟩) zA).trans q1
  have b0 := (hb4.cell (p := ⟨w2.heap.size + 1, 0, none⟩) zB).trans q2
  have b1 := (hb4.cell (p := ⟨w2.heap.size + 1, 1, none⟩) zB).trans q3
  have hsA4 := hsA.below hb4 (Nat.le_refl _)
  have hsB4 := hsB.below hb4 (Nat.le_refl _)
  have hsN4 := hsN.below ((Below.refl _ w3).alloc (Nat.le_refl _) (Obj.cells #[.slice na 1 nc, .int .i64 2] 42)) (Nat.le_refl _)
  have HH : Holds (w3.alloc (Obj.cells #[.slice na 1 nc, .int .i64 2] 42)) [(w2.heap.size, 0, .slice (some ⟨w.heap.size + 1, 0, none⟩) 1 1), (w2.heap.size, 1, .int .i64 1), (w2.heap.size + 1, 0, .slice (some ⟨w1.heap.size + 1, 0, none⟩) 1 1), (w2.heap.size + 1, 1, .int .i64 2), (w3.heap.size, 0, .slice na 1 nc), (w3.heap.size, 1, .int .i64 2)] := by
    simp only [holds_cons, holds_nil]
    exact ⟨holds_at a0, holds_at a1, holds_at b0, holds_at b1, holds_at n0, holds_at n1, trivial⟩
  have hb5 := hb0.thru hb4 hb0.size
  clear hb4 n0 n1 a0 a1 b0 b1 q0 q1 q2 q3 hb0 hb3 hsA hsB hsN zA zB HZ
  go_upto_region 3 with fail
  generalize w3.alloc (Obj.cells #[.slice na 1 nc, .int .i64 2] 42) = U at hsA4 hsB4 hsN4 HH hb5 ⊢
  have X := HH
  simp only [holds_cons, holds_nil] at X
  obtain ⟨⟨_, a0⟩, ⟨_, a1⟩, ⟨_, b0⟩, ⟨_, b1⟩, ⟨_, n0⟩, ⟨_, n1⟩, _⟩ := X
  go_wp2_with fail
  refine (between_n _ _ _ _ _ _ [(3, 0)] [(4, 0)] _ _ _ _ _ _ rfl rfl (by simp [maxLen]) (by simp [maxLen]) (by simp) (by simp) hsA4 hsB4).mono ?_
  rintro e w4 ⟨hb6, ⟨hne, _⟩ | ⟨he, O, pl, r, rfl, hmk, hcand, r1, r2⟩⟩
  · exact absurd begun_btw hne
  have hall := btw_all (many := 2) he hcand r1 r2
  have hlen := rowOf_length pl r 2 7 2
  clear he hcand r1 r2 a0 a1 b0 b1 n0 n1
  replace hsA4 := hsA4.below hb6 (Nat.le_refl _)
  replace hsB4 := hsB4.below hb6 (Nat.le_refl _)
  replace hsN4 := hsN4.below hb6 (Nat.le_refl _)
  replace HH := HH.below hb6 (Nat.le_refl _)
  have hb7 := hb5.thru hb6 hb5.size
  clear hb5 hb6
  have X := HH
  simp only [holds_cons, holds_nil] at X
  obtain ⟨⟨_, a0⟩, ⟨_, a1⟩, ⟨_, b0⟩, ⟨_, b1⟩, ⟨_, n0⟩, ⟨_, n1⟩, _⟩ := X
  go_wp2_with fail
  refine (check_n _ _ _ [(3, 0)] _ _ rfl (by simp [maxLen]) hsA4).mono ?_
  rintro e w5 ⟨rfl, hb8⟩
  rw [show chk [(3, 0)] 1 = 0 by decide]
  replace hsA4 := hsA4.below hb8 (Nat.le_refl _)
  replace hsB4 := hsB4.below hb8 (Nat.le_refl _)
  replace hsN4 := hsN4.below hb8 (Nat.le_refl _)
  replace hmk := hmk.below hb8 (Nat.le_refl _)
  replace HH := HH.below hb8 (Nat.le_refl _)
  replace hb7 := hb7.thru hb8 hb7.size
  clear hb8 a0 a1 b0 b1 n0 n1
  have X := HH
  simp only [holds_cons, holds_nil] at X
  obtain ⟨⟨_, a0⟩, ⟨_, a1⟩, ⟨_, b0⟩, ⟨_, b1⟩, ⟨_, n0⟩, ⟨_, n1⟩, _⟩ := X
  go_wp2_with fail
  refine (order_n _ _ _ _ _ _ [(3, 0)] [(4, 0)] _ _ _ rfl rfl (by simp [maxLen]) (by simp [maxLen]) hsA4 hsB4).mono ?_
  rintro e w6 ⟨rfl, hb8⟩
  rw [show ordM [(3, 0)] 1 [(4, 0)] 2 = -1 by decide]
  replace hsA4 := hsA4.below hb8 (Nat.le_refl _)
  replace hsB4 := hsB4.below hb8 (Nat.le_refl _)
  replace hsN4 := hsN4.below hb8 (Nat.le_refl _)
  replace hmk := hmk.below hb8 (Nat.le_refl _)
  replace HH := HH.below hb8 (Nat.le_refl _)
  replace hb7 := hb7.thru hb8 hb7.size
  clear hb8 a0 a1 b0 b1 n0 n1
  have X := HH
  simp only [holds_cons, holds_nil] at X
  obtain ⟨⟨_, a0⟩, ⟨_, a1⟩, ⟨_, b0⟩, ⟨_, b1⟩, ⟨_, n0⟩, ⟨_, n1⟩, _⟩ := X
  go_wp2_with fail
  refine (sameMark_n _ _ _ _ _ _ [(4, 0)] [(4, 0)] _ _ _ rfl rfl (by simp [maxLen]) (by simp [maxLen]) hsN4 hsB4).mono ?_
  rintro e w7 ⟨rfl, hb8⟩
  rw [show (ordM [(4, 0)] 2 [(4, 0)] 2 == 0) = true by decide]
  replace hsA4 := hsA4.below hb8 (Nat.le_refl _)
  replace hsB4 := hsB4.below hb8 (Nat.le_refl _)
  replace hsN4 := hsN4.below hb8 (Nat.le_refl _)
  replace hmk := hmk.below hb8 (Nat.le_refl _)
  replace HH := HH.below hb8 (Nat.le_refl _)
  replace hb7 := hb7.thru hb8 hb7.size
  clear hb8 a0 a1 b0 b1 n0 n1
  have X := HH
  simp only [holds_cons, holds_nil] at X
  obtain ⟨⟨_, a0⟩, ⟨_, a1⟩, ⟨_, b0⟩, ⟨_, b1⟩, ⟨_, n0⟩, ⟨_, n1⟩, _⟩ := X
  go_wp2_with fail
  refine (isBetween_n _ _ _ _ _ _ _ _ [(3, 0)] [(4, 0)] _ _ _ _ 2 _ (rowOf pl r 2 7 2) _ rfl rfl rfl (by simp) (by simp) hsA4 hsB4 hmk hlen (by omega) (by omega) (by omega) hall).mono ?_
  rintro e w8 ⟨rfl, hb8⟩
  go_wp2
  go_ret
  exact ⟨rfl, hb7.thru hb8 hb7.size⟩
end Go.Proofs.YtnhjebdlcbhkcaeGreat

namespace Go.Proofs.YtnhjebdlcbhkcaeGreat
open Go.RowKit

theorem bump_eq {l : List (Int × Int)} (h : 0 < l.length) (n : Int) : bump l n = l.take (l.length - 1) ++ [((lastS l).1 + n, (lastS l).2)] := by
  unfold bump setL
  rw [List.set_eq_take_append_cons_drop, if_pos (by omega), List.drop_eq_nil_of_le (by omega)]
theorem snoc_eq {l : List (Int × Int)} (h : 0 < l.length) : l = l.take (l.length - 1) ++ [lastS l] := by
  rw [lastS_eq h]
  have := List.take_append_drop (l.length - 1) l
  rw [List.drop_eq_getElem_cons (by omega), List.drop_eq_nil_of_le (by omega)] at this
  exact this.symm
theorem bump_length (l : List (Int × Int)) (n : Int) : (bump l n).length = l.length := by unfold bump setL; simp
theorem nxt_cases (l : List (Int × Int)) (c n : Int) : (∃ e, e ≠ 0 ∧ nxt l c n = ([], 0, e)) ∨ (chk l c = 0 ∧ 0 ≤ n ∧ n ≤ 60 ∧ chk (bump l n) (c + n) = 0 ∧ nxt l c n = (bump l n, c + n, 0)) := by
  unfold nxt
  split
  · rename_i h; exact Or.inl ⟨_, h, rfl⟩
  · rename_i h1
    split
    · exact Or.inl ⟨3, by decide, rfl⟩
    · rename_i h2
      split
      · exact Or.inl ⟨3, by decide, rfl⟩
      · rename_i h3
        exact Or.inr ⟨by omega, by omega, by omega, by omega, rfl⟩

end Go.Proofs.YtnhjebdlcbhkcaeGreat

namespace Go.Proofs.YtnhjebdlcbhkcaeGreat
open Go.RowKit

def TellSh (Sh : World → Nat → Option Addr → Nat → Prop) (w : World) (e : Ending) (w' : World) : Prop :=
  ∃ p n c er, e = .returned (.tuple #[.slice p n c, .int .i64 er]) ∧ Sh w' w.heap.size p n ∧ n ≤ maxLen ∧ Below w.heap.size w w'
def TellM (w : World) (e : Ending) (w' : World) : Prop :=
  ∃ p n c ck er, e = .returned (.tuple #[.agg #[.slice p n c, .int .i64 ck], .int .i64 er]) ∧ ShS w' w.heap.size p n ∧ n ≤ maxLen ∧ Below w.heap.size w w'
theorem small_max {n : Nat} (h : n ≤ 1000) : n ≤ maxLen := by unfold maxLen; omega

theorem put_sh (a a' : Option Addr) (cap cap' : Nat) (l m : List At) (w : World) (hl : l.length ≤ maxLen) (hm : m.length ≤ maxLen) (h : AtomsAt w a l) (h' : AtomsAt w a' m) :
    Calls Tryz.prog 20 #[.slice a l.length cap, .slice a' m.length cap'] w (TellSh ShA w) := by
  by_cases h0 : orI (chkL l) (chkL m) = 0
  · have h1 : chkL l = 0 := by
      unfold orI at h0
      split at h0
      · assumption
      · next h2 => exact absurd h0 h2
    have h2 : chkL m = 0 := by
      unfold orI at h0
      rw [if_pos h1] at h0
      exact h0
    refine (put_ok a a' cap cap' l m w h h' h1 h2).mono ?_
    rintro e w' ⟨⟨_, rfl⟩ | ⟨hn, p, c, rfl, _, hr⟩, hb⟩
    · exact ⟨none, 0, 0, _, rfl, Or.inl rfl, Nat.zero_le _, hb⟩
    · exact ⟨p, _, c, _, rfl, ShA.pick hr rfl, small_max (by omega), hb⟩
  · refine (put_bad a a' cap cap' l m w hl hm h h' h0).mono ?_
    rintro e w' ⟨rfl, hb⟩
    exact ⟨none, 0, 0, _, rfl, Or.inl rfl, Nat.zero_le _, hb⟩

theorem take_sh (a a' : Option Addr) (cap cap' : Nat) (l : List At) (ms : List (List (Int × Int) × Int)) (w : World) (hl : l.length ≤ maxLen) (hm : ms.length ≤ maxLen) (h : AtomsAt w a l) (h' : MarksAt w a' ms) :
    Calls Tryz.prog 22 #[.slice a l.length cap, .slice a' ms.length cap'] w (TellSh ShA w) := by
  by_cases h0 : chkL l = 0
  · refine (take_ok a a' cap cap' l ms w h h0 hm h').mono ?_
    rintro e w' ⟨p, c, rfl, _, hr, hb⟩
    have hlen : (takeL l ms).length ≤ l.length := List.length_filter_le _ _
    exact ⟨p, _, c, _, rfl, ShA.pick hr rfl, Nat.le_trans hlen hl, hb⟩
  · refine (take_bad a a' cap cap' l ms w hl h h0).mono ?_
    rintro e w' ⟨rfl, hb⟩
    exact ⟨none, 0, 0, _, rfl, Or.inl rfl, Nat.zero_le _, hb⟩

theorem runs_sh (a : Option Addr) (cap : Nat) (l : List At) (w : World) (hl : l.length ≤ cap) (hc : cap ≤ maxLen) (h : AtomsAt w a l) :
    Calls Tryz.prog 24 #[.slice a l.length cap] w (TellSh ShR w) := by
  by_cases h0 : chkL l = 0
  · refine (runs_ok a cap l w hl hc h h0).mono ?_
    rintro e w' ⟨p, k, rfl, _, hr, hb⟩
    have hlen := runsL_lenE l
    exact ⟨p, _, k, _, rfl, ShR.run hr rfl, Nat.le_trans hlen (Nat.le_trans hl hc), hb⟩
  · refine (runs_bad a cap l w (Nat.le_trans hl hc) h h0).mono ?_
    rintro e w' ⟨rfl, hb⟩
    exact ⟨none, 0, 0, _, rfl, Or.inl rfl, Nat.zero_le _, hb⟩

theorem editPut_sh (a b : Option Addr) (cap cap' : Nat) (l : List At) (g : List (List (Int × Int) × Int)) (n : Int) (t : ByteArray) (site clock : Int) (w : World) (hl : l.length ≤ maxLen) (ht : t.size ≤ maxLen) (h : AtomsAt w a l) (h' : MarksAt w b g) :
    Calls Tryz.prog 25 #[.agg #[.slice a l.length cap, .slice b g.length cap'], .int .i64 n, .string t, .int .i64 site, .int .i64 clock] w (TellSh ShD w) := by
  refine (editPut_anyS a b cap cap' l g n t site clock w hl ht h h').mono ?_
  rintro e w' ⟨hb, ⟨_, rfl⟩ | ⟨_, ax, p, k, hax, rfl, _, hs⟩⟩
  · exact ⟨none, 0, 0, _, rfl, Or.inl rfl, Nat.zero_le _, hb⟩
  · have hlen := runsL_lenE ax
    have := hax.ok.len
    exact ⟨p, _, k, _, rfl, hs, small_max (by omega), hb⟩

theorem editTake_sh (a b : Option Addr) (cap cap' : Nat) (l : List At) (g : List (List (Int × Int) × Int)) (n m : Int) (w : World) (hl : l.length ≤ maxLen) (hcap : l.length ≤ cap) (hcm : cap ≤ maxLen) (hmn : m ≤ 9223372036854775807) (h : AtomsAt w a l) (h' : MarksAt w b g) :
    Calls Tryz.prog 26 #[.agg #[.slice a l.length cap, .slice b g.length cap'], .int .i64 n, .int .i64 m] w (TellSh ShD w) := by
  refine (editTake_anyS a b cap cap' l g n m w hl hcap hcm hmn h h').mono ?_
  rintro e w' ⟨hb, ⟨_, rfl⟩ | ⟨_, p, k, rfl, _, hs⟩⟩
  · exact ⟨none, 0, 0, _, rfl, Or.inl rfl, Nat.zero_le _, hb⟩
  · have hlen := runsL_lenE (part l n.toNat m.toNat)
    have hp : (part l n.toNat m.toNat).length ≤ l.length := by unfold part; simp; omega
    exact ⟨p, _, k, _, rfl, hs, Nat.le_trans hlen (Nat.le_trans hp hl), hb⟩

theorem caretOf_sh (a b : Option Addr) (cap cap' : Nat) (l : List At) (g : List (List (Int × Int) × Int)) (n : Int) (w : World) (hl : l.length ≤ maxLen) (h : AtomsAt w a l) (hG : MarksAt w b g) :
    Calls Tryz.prog 27 #[.agg #[.slice a l.length cap, .slice b g.length cap'], .int .i64 n] w (TellM w) := by
  refine (caretOf_anyS a b cap cap' l g n w hl h hG).mono ?_
  rintro e w' ⟨p, c, rfl, _, hb, hs⟩
  refine ⟨p, _, c, _, _, rfl, hs, ?_, hb⟩
  unfold ofL
  split
  · exact Nat.zero_le _
  · next h0 =>
    split
    · exact Nat.zero_le _
    · split
      · exact Nat.zero_le _
      · split
        · exact Nat.zero_le _
        · next x hx =>
          obtain ⟨hi, e⟩ := List.getElem?_eq_some_iff.1 hx
          have := (okPath (chkS_okL (by simpa using h0)) _ hi).2
          rw [e] at this
          exact small_max (by show x.path.length ≤ 1000; omega)

theorem ShE.own {w : World} {base n c : Nat} {p : Option Addr} {l : List Ed} (h : OwnsE w base (.slice p n c) l) (hn : l.length = n) : ShE w base p n := by
  subst hn
  have hown' := h
  rcases h.2 with ⟨e, h0⟩ | ⟨g, cc, cur, e, hb, _⟩
  · exact Or.inl h0
  simp only [Value.slice.injEq] at e
  obtain ⟨rfl, _, _⟩ := e
  refine Or.inr ⟨g, 0, rfl, hb, fun i hi => ?_⟩
  have k : w.cell? ⟨g, 0 + i * 4 + 0, none⟩ = (edCells l[i])[0]? := by
    rw [Nat.zero_add]
    exact (World.ownsRow.cellAt hown' (i * 4 + 0) (by omega)).trans (flat_at edCells 4 (fun _ => rfl) l i hi 0 (by decide))
  exact ⟨⟨_, k⟩, World.ownsRow.frozenAt hown' _⟩

theorem diff_sh (a b : ByteArray) (w : World) :
    Calls Tryz.prog 28 #[.string a, .string b] w (TellSh ShE w) := by
  by_cases h0 : diffE a b = 0
  · obtain ⟨h1, h2, h3, h4⟩ := diffE_zero h0
    refine (diff_ok a b w h1 h2 h3 h4).mono ?_
    rintro e w' ⟨v, rfl, hO, hb⟩
    obtain ⟨p, c, rfl⟩ := owns_sliceE hO
    have := (diff_is h0).len
    exact ⟨p, _, c, _, rfl, ShE.own hO rfl, small_max (by omega), hb⟩
  · refine (diff_err a b w h0).mono ?_
    rintro e w' ⟨rfl, hb⟩
    exact ⟨none, 0, 0, _, rfl, Or.inl rfl, Nat.zero_le _, hb⟩

theorem runAtoms_sh (a : Option Addr) (cap : Nat) (l : List (Int × Int)) (c : Int) (t : ByteArray) (w : World) (hl : l.length ≤ maxLen) (ht : t.size ≤ maxLen) (h : StepsAt w a l) :
    Calls Tryz.prog 32 #[.agg #[.slice a l.length cap, .int .i64 c, .string t]] w (TellSh ShA w) := by
  by_cases h0 : chkRun l c t = 0
  · refine (runAtoms_ok a cap l c t w h h0).mono ?_
    rintro e w' ⟨p, k, rfl, _, hr, hb⟩
    exact ⟨p, _, k, _, rfl, ShA.pick hr rfl, by rw [atomsR_len]; exact ht, hb⟩
  · refine (runAtoms_bad a cap l c t w hl ht h h0).mono ?_
    rintro e w' ⟨rfl, hb⟩
    exact ⟨none, 0, 0, _, rfl, Or.inl rfl, Nat.zero_le _, hb⟩

theorem next_sh (a : Option Addr) (cap : Nat) (l : List (Int × Int)) (c n : Int) (w : World) (hl : l.length ≤ maxLen) (h : StepsAt w a l) :
    Calls Tryz.prog 34 #[.agg #[.slice a l.length cap, .int .i64 c], .int .i64 n] w (TellM w) := by
  refine (next_anyO a cap l c n w hl h).mono ?_
  rintro e w' ⟨p, k, rfl, _, hb, ho⟩
  rcases nxt_cases l c n with ⟨er, _, hx⟩ | ⟨_, _, _, _, hx⟩
  · rw [hx]
    exact ⟨p, 0, k, 0, er, rfl, Or.inl rfl, Nat.zero_le _, hb⟩
  · rw [hx] at ho ⊢
    exact ⟨p, _, k, _, _, rfl, ShS.own (ho rfl) rfl, by rw [bump_length]; exact hl, hb⟩
end Go.Proofs.YtnhjebdlcbhkcaeGreat
