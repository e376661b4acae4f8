/- Contract of run.each and its iterator. -/
import Derived.Test.YtnhjebdlcbhkcafRfLaw
import Derived.Test.YtnhjebdlcbhkcafRunCk
import Derived.Test.YtnhjebdlcbhkcafPickR
import Derived.Test.YtnhjebdlcbhkcafWrNote
namespace Go.Proofs.Ytnhjebdlcbhkcaf
open Go.RowKit Go.Shelf
attribute [local go_sem] Oper.semAt_some

/-- the i-th atom of a run -/
def runAt (l : List (Int × Int)) (c : Int) (t : ByteArray) (i : Nat) : At := ⟨bump l i, c + i, (t.data.toList.getD i 0).toNat⟩
/-- its atoms -/
def atomsR (l : List (Int × Int)) (c : Int) (t : ByteArray) : List At := (List.range t.size).map (runAt l c t)

theorem bump_len (l : List (Int × Int)) (n : Int) : (bump l n).length = l.length := bump_len' l n
theorem lastS_bump {l : List (Int × Int)} (h : 0 < l.length) (n : Int) : lastS (bump l n) = ((lastS l).1 + n, (lastS l).2) := by
  unfold lastS bump setL
  rw [List.length_set, List.getD_eq_getElem?_getD, List.getElem?_set_self (by omega)]; rfl

theorem okSteps_bump {l : List (Int × Int)} {n m : Int} (h : 0 < l.length) (h0 : okSteps l = true) (hm : okSteps (bump l m) = true) (hn0 : 0 ≤ n) (hnm : n ≤ m) : okSteps (bump l n) = true := by
  refine okSteps_true (fun i hi => ?_)
  rw [bump_len] at hi
  by_cases e : i = l.length - 1
  · subst e
    have h1 := okStep_iff.1 (okSteps_get h0 (i := l.length - 1) (by omega))
    have h2 := okStep_iff.1 (okSteps_get hm (i := l.length - 1) (by rw [bump_len]; omega))
    have e1 : (bump l m)[l.length - 1]'(by rw [bump_len]; omega) = ((lastS l).1 + m, (lastS l).2) := by unfold bump setL; simp
    have e2 : (bump l n)[l.length - 1]'(by rw [bump_len]; omega) = ((lastS l).1 + n, (lastS l).2) := by unfold bump setL; simp
    have e3 : l[l.length - 1]'(by omega) = lastS l := (lastS_eq h).symm
    rw [e1] at h2
    rw [e3] at h1
    rw [e2]
    exact okStep_iff.2 ⟨by simp only; omega, by simp only at h2 ⊢; omega, h2.2.2.1, h2.2.2.2⟩
  · have e2 : (bump l n)[i]'(by rw [bump_len]; omega) = l[i] := by unfold bump setL; rw [List.getElem_set_ne (by omega)]
    rw [e2]
    exact okSteps_get h0 hi

theorem chk_mk {l : List (Int × Int)} {c : Int} (h1 : 0 < l.length) (h2 : l.length ≤ 10) (h3 : okSteps l = true) (h4 : (lastS l).1 ≠ 0) (h5 : 1 ≤ c) (h6 : c ≤ 10000) : chk l c = 0 := by
  unfold chk
  rw [if_neg (by omega), if_neg (by omega), if_pos]
  simp [h3, h4, inB, h5, h6]

theorem chk_bump {l : List (Int × Int)} {c n m : Int} (h : chk l c = 0) (hm : chk (bump l m) (c + m) = 0) (h0 : 0 ≤ n) (hnm : n ≤ m) : chk (bump l n) (c + n) = 0 := by
  obtain ⟨a1, a2, a3, a4, a5, a6⟩ := chk_ok h
  obtain ⟨b1, b2, b3, b4, b5, b6⟩ := chk_ok hm
  refine chk_mk (by rw [bump_len]; exact a1) (by rw [bump_len]; exact a2) (okSteps_bump a1 a3 b3 h0 hnm) ?_ (by omega) (by omega)
  rw [lastS_bump a1]
  have h1 := okStep_iff.1 (okSteps_get a3 (i := l.length - 1) (by omega))
  rw [← lastS_eq a1] at h1
  simp only
  omega

/-- what Check of a run lets through -/
structure OkRun (l : List (Int × Int)) (c : Int) (t : ByteArray) : Prop where
  mark : chk l c = 0
  len0 : 0 < t.size
  len : t.size ≤ 60
  signs : allS t.data.toList = true
  each : ∀ i : Nat, i < t.size → chk (bump l i) (c + i) = 0

theorem okRun_of {l : List (Int × Int)} {c : Int} {t : ByteArray} (h : chkRun l c t = 0) : OkRun l c t := by
  unfold chkRun at h
  by_cases h0 : chk l c = 0
  rotate_left
  · rw [if_pos h0] at h; exact absurd h h0
  rw [if_neg (by omega)] at h
  by_cases h1 : t.size = 0
  · rw [if_pos h1] at h; exact absurd h (by decide)
  rw [if_neg h1] at h
  by_cases h2 : 60 < t.size
  · rw [if_pos h2] at h; exact absurd h (by decide)
  rw [if_neg h2] at h
  cases h3 : allS t.data.toList
  · rw [if_pos h3] at h; exact absurd h (by decide)
  rw [if_neg (by rw [h3]; decide)] at h
  unfold nxt at h
  rw [if_neg (by omega), if_neg (by omega)] at h
  by_cases h4 : chk (bump l ((t.size : Int) - 1)) (c + ((t.size : Int) - 1)) = 0
  rotate_left
  · rw [if_pos h4] at h; exact absurd h (by decide)
  exact ⟨h0, by omega, by omega, h3, fun i hi => chk_bump h0 h4 (by omega) (by omega)⟩

/-- an atom as one value -/
def encA (r : Raw) : Array Value := #[.agg #[.slice r.p r.n r.cap, .int .i64 r.clock, .int .u8 r.sign]]

theorem cell_of {W : World} {B j : Nat} {cs : Array Value} {t : TypeId} {v : Value} (h : W.heap[B]? = some (.cells cs t (0, 0))) (hj : cs[j]? = some v) : W.cell? ⟨B, j, none⟩ = some v := by
  simp [World.cell?, h, hj]

theorem below_grown {W W' : World} (hb : Below W.heap.size W W') : W.grownBy W' none := ⟨hb.os, hb.tape, hb.output, hb.size, fun k hk _ => hb.block k hk⟩

end Go.Proofs.Ytnhjebdlcbhkcaf

namespace Go.Proofs.Ytnhjebdlcbhkcaf
open Go.RowKit

theorem roomM_of {p : List (Int × Int)} {c : Int} (h : chk p c = 0) : RoomM p c := by
  obtain ⟨a1, a2, a3, _, a5, a6⟩ := chk_ok h
  refine ⟨by omega, fun s hs => ?_, by omega, by omega⟩
  obtain ⟨i, hi, rfl⟩ := List.getElem_of_mem hs
  have := okStep_iff.1 (okSteps_get a3 (i := i) hi)
  omega
theorem anyM_none {p : List (Int × Int)} {c : Int} (h : anyM p c = false) : p = [] ∧ c = 0 := by
  unfold anyM at h
  simp only [Bool.or_eq_false_iff, decide_eq_false_iff_not, bne_eq_false_iff_eq] at h
  exact ⟨List.length_eq_zero_iff.1 (by omega), h.2⟩
theorem roomD_of {d : Dd} (h : chkD d = 0) : RoomD d := by
  unfold chkD at h
  split at h
  · rename_i hk
    unfold chkPutD at h
    split at h
    · rename_i h1; exact absurd h h1
    · rename_i h1
      split at h
      · cases h
      · rename_i h2
        have h1' : chkRun d.rp d.rc d.rt = 0 := by simpa using h1
        obtain ⟨o1, o2, o3, _, _⟩ := okRun_of h1'
        simp only [Bool.or_eq_true, not_or, Bool.not_eq_true, bne_eq_false_iff_eq] at h2
        obtain ⟨e1, e2⟩ := anyM_none h2.1
        exact Or.inl ⟨hk, roomM_of o1, by omega, e1, e2, h2.2⟩
  · split at h
    · rename_i hk
      unfold chkTakeD at h
      split at h
      · rename_i h1; exact absurd h h1
      · rename_i h1
        split at h
        · cases h
        · rename_i h2
          split at h
          · cases h
          · rename_i h3
            have h1' : chk d.mp d.mc = 0 := by simpa using h1
            simp only [Bool.or_eq_true, not_or, Bool.not_eq_true, decide_eq_true_eq, ne_eq, Decidable.not_not] at h2
            obtain ⟨e1, e2⟩ := anyM_none h2.1
            refine Or.inr ⟨hk, roomM_of h1', by omega, by omega, e1, e2, ?_⟩
            have hs := h2.2
            rcases hrt : d.rt with ⟨⟨l⟩⟩
            rw [hrt] at hs
            cases l with
            | nil => rfl
            | cons x l => simp [ByteArray.size] at hs
    · cases h
theorem chkDl_zero : ∀ {l : List Dd}, chkDl l = 0 → ∀ d ∈ l, chkD d = 0
  | x :: l, h, d, hd => by
    unfold chkDl at h
    split at h
    · rename_i h1; exact absurd h h1
    · rename_i h1
      rcases List.mem_cons.1 hd with rfl | hd
      · simpa using h1
      · exact chkDl_zero h d hd
theorem roomN_of {n : Nt} (h : chkN n = 0) : RoomN n := by
  unfold chkN at h
  split at h
  · cases h
  rename_i h1
  split at h
  · cases h
  rename_i h2
  split at h
  · cases h
  rename_i h3
  split at h
  · cases h
  split at h
  · cases h
  split at h
  · cases h
  rename_i h6
  simp only [siteBad, Bool.or_eq_true, decide_eq_true_eq, not_or] at h1
  refine ⟨by omega, by omega, by omega, by omega, by simpa using h2, fun x hx => ?_, by omega, fun d hd => roomD_of (chkDl_zero h d hd)⟩
  have h4 : okNums n.needs = true := by simpa using h3
  unfold okNums at h4
  have := List.all_eq_true.1 h4 x hx
  unfold okNum inB at this
  simp only [Bool.and_eq_true, decide_eq_true_eq] at this
  omega
theorem encN_pos (n : Nt) : 0 < (encN n).length := by unfold encN; simp
theorem encN_len {n : Nt} (h : RoomN n) : (encN n).length ≤ 300000 := by
  have e1 := eNeeds_len n.needs
  have e2' := eDeeds_len h.deeds
  have e3 := h.dl
  have e4 := h.nl
  unfold encN
  simp only [List.length_append, List.length_cons, e2, List.length_nil]
  omega

end Go.Proofs.Ytnhjebdlcbhkcaf
