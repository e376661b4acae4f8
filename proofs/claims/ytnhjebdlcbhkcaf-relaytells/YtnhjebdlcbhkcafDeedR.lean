/- Contract of the reference's CheckDeed. -/
import Derived.Test.YtnhjebdlcbhkcafDeedC
import Derived.Test.YtnhjebdlcbhkcafNextOf
namespace Go.Proofs.Ytnhjebdlcbhkcaf
open Go.RowKit

theorem none_any (l : List (Int × Int)) (c : Int) : (l.length == 0 && c == 0) = !anyM l c := by
  unfold anyM
  cases l with
  | nil => simp [bne]
  | cons x l => simp

set_option maxRecDepth 100000 in
set_option maxHeartbeats 4000000 in
theorem checkDeed_any (d : Dd) (p q : Option Addr) (cp cq : Nat) (w : World) (h : DdAt w d p q) (hi : -9223372036854775808 ≤ d.many) (hi' : d.many ≤ 9223372036854775807) :
    Calls Try.prog 18 #[ddV d p q cp cq] w fun e w' => e = .returned (.int .i64 (chkD d)) ∧ Below w.heap.size w w' := by
  obtain ⟨kind, rp, rc, rt, mp, mc, many⟩ := d
  obtain ⟨h1, h2, h3, h4, h5⟩ := h
  unfold ddV
  simp only at h1 h2 h3 h4 h5 hi hi' ⊢
  have hB := (Below.refl w.heap.size w).alloc (Nat.le_refl _) (Obj.cells #[.int .i64 kind, .slice p rp.length cp, .int .i64 rc, .string rt, .slice q mp.length cq, .int .i64 mc, .int .i64 many] 54)
  have hc : ∀ i, i < 7 → (w.alloc (Obj.cells #[.int .i64 kind, .slice p rp.length cp, .int .i64 rc, .string rt, .slice q mp.length cq, .int .i64 mc, .int .i64 many] 54)).cell? ⟨w.heap.size, i, none⟩ = #[.int .i64 kind, .slice p rp.length cp, .int .i64 rc, .string rt, .slice q mp.length cq, .int .i64 mc, .int .i64 many][i]? := fun i hi => by simp
  have q0 := hc 0 (by decide)
  have q1 := hc 1 (by decide)
  have q2 := hc 2 (by decide)
  have q3 := hc 3 (by decide)
  have q4 := hc 4 (by decide)
  have q5 := hc 5 (by decide)
  have q6 := hc 6 (by decide)
  simp only [List.getElem?_toArray, List.getElem?_cons_succ, List.getElem?_cons_zero] at q0 q1 q2 q3 q4 q5 q6
  have z : w.heap.size < (w.alloc (Obj.cells #[.int .i64 kind, .slice p rp.length cp, .int .i64 rc, .string rt, .slice q mp.length cq, .int .i64 mc, .int .i64 many] 54)).heap.size := by simp
  clear hc
  replace h1 := h1.below hB (Nat.le_refl _)
  replace h2 := h2.below hB (Nat.le_refl _)
  have HC : Hid (∀ n, (if kind = 1 then chkPutD ⟨kind, rp, rc, rt, mp, mc, many⟩ else if kind = 2 then chkTakeD ⟨kind, rp, rc, rt, mp, mc, many⟩ else 7) = n → chkD ⟨kind, rp, rc, rt, mp, mc, many⟩ = n) := fun n e => e
  generalize chkD ⟨kind, rp, rc, rt, mp, mc, many⟩ = cD at HC ⊢
  go_enter Try.func18, Try.ntmps18
  go_upto_region 1 with fail
  generalize w.alloc (Obj.cells #[.int .i64 kind, .slice p rp.length cp, .int .i64 rc, .string rt, .slice q mp.length cq, .int .i64 mc, .int .i64 many] 54) = W at hB q0 q1 q2 q3 q4 q5 q6 z h1 h2 ⊢
  generalize hzz : w.heap.size = Z at hB q0 q1 q2 q3 q4 q5 q6 z ⊢
  have HZ := hidE hzz
  clear hzz
  have hZW := Nat.le_of_lt z
  by_cases hk1 : kind = 1
  · subst hk1
    have e1 := HC.out _ (if_pos rfl)
    subst e1
    clear HC
    have HCR := hidE (checkRun_any p cp rp rc rt W h3 h5 h1)
    go_wp2_with fail
    refine HCR.out.mono ?_
    rintro e w1 ⟨rfl, hb⟩
    replace q4 := (hb.cell (p := ⟨Z, 4, none⟩) z).trans q4
    replace q5 := (hb.cell (p := ⟨Z, 5, none⟩) z).trans q5
    replace q6 := (hb.cell (p := ⟨Z, 6, none⟩) z).trans q6
    replace z := Nat.lt_of_lt_of_le z hb.size
    replace hB := hB.thru hb hZW
    clear hb HCR
    by_cases hr : chkRun rp rc rt = 0
    case neg =>
      have hrb : (chkRun rp rc rt == 0) = false := by rw [beq_eq_false_iff_ne]; exact hr
      have HA : Hid (chkPutD ⟨1, rp, rc, rt, mp, mc, many⟩ = chkRun rp rc rt) := by show _ = _; unfold chkPutD; rw [if_pos hr]
      clear hr
      go_wp2_with fail
      go_ret
      rw [HZ.out]
      exact ⟨ret_int HA.out.symm, hB⟩
    have HA : Hid (chkPutD ⟨1, rp, rc, rt, mp, mc, many⟩ = if anyM mp mc || many != 0 then 1 else 0) := by show _ = _; unfold chkPutD; rw [if_neg (by simpa using hr)]
    rw [hr]
    clear hr
    have HIN := hidE (show Calls Try.prog 29 #[.agg #[.slice q mp.length cq, .int .i64 mc]] w1 fun e w' => e = .returned (.bool (!anyM mp mc)) ∧ Below w1.heap.size w1 w' from by have := isNone_any q cq mp.length mc w1; rw [none_any] at this; exact this)
    go_wp2_with fail
    refine HIN.out.mono ?_
    rintro e w2 ⟨rfl, hb⟩
    replace q6 := (hb.cell (p := ⟨Z, 6, none⟩) z).trans q6
    replace hB := hB.thru hb (Nat.le_of_lt z)
    clear hb HIN
    cases ha : anyM mp mc
    · cases hm : many != 0
      · have HF : Hid (chkPutD ⟨1, rp, rc, rt, mp, mc, many⟩ = 0) := by show _ = _; rw [HA.out, ha, hm]; rfl
        clear ha
        go_wp2_with fail
        go_ret
        rw [HZ.out]
        exact ⟨ret_int HF.out.symm, hB⟩
      · have HF : Hid (chkPutD ⟨1, rp, rc, rt, mp, mc, many⟩ = 1) := by show _ = _; rw [HA.out, ha, hm]; rfl
        clear ha
        go_wp2_with fail
        go_ret
        rw [HZ.out]
        exact ⟨ret_int HF.out.symm, hB⟩
    · have HF : Hid (chkPutD ⟨1, rp, rc, rt, mp, mc, many⟩ = 1) := by show _ = _; rw [HA.out, ha]; rfl
      clear ha
      go_wp2_with fail
      go_ret
      rw [HZ.out]
      exact ⟨ret_int HF.out.symm, hB⟩
  have hkb : (kind == 1) = false := by rw [beq_eq_false_iff_ne]; exact hk1
  by_cases hk2 : kind = 2
  case neg =>
    have hkb2 : (kind != 2) = true := by rw [bne_iff_ne]; exact hk2
    have e1 := HC.out _ (by rw [if_neg hk1, if_neg hk2])
    subst e1
    go_wp2_with fail
    go_ret
    rw [HZ.out]
    exact ⟨rfl, hB⟩
  subst hk2
  have e1 := HC.out _ (by rw [if_neg hk1, if_pos rfl])
  subst e1
  clear HC hk1
  have HCM := hidE (checkMark_any q cq mp mc W h4 h2)
  go_wp2_with fail
  refine HCM.out.mono ?_
  rintro e w1 ⟨rfl, hb⟩
  replace q1 := (hb.cell (p := ⟨Z, 1, none⟩) z).trans q1
  replace q2 := (hb.cell (p := ⟨Z, 2, none⟩) z).trans q2
  replace q3 := (hb.cell (p := ⟨Z, 3, none⟩) z).trans q3
  replace q4 := (hb.cell (p := ⟨Z, 4, none⟩) z).trans q4
  replace q5 := (hb.cell (p := ⟨Z, 5, none⟩) z).trans q5
  replace q6 := (hb.cell (p := ⟨Z, 6, none⟩) z).trans q6
  replace h2 := h2.below hb (Nat.le_refl _)
  replace hB := hB.thru hb hZW
  replace z := Nat.lt_of_lt_of_le z hb.size
  clear hb HCM q0 hZW
  by_cases hr : chk mp mc = 0
  case neg =>
    have hrb : (chk mp mc != 0) = true := by rw [bne_iff_ne]; exact hr
    have HA : Hid (chkTakeD ⟨2, rp, rc, rt, mp, mc, many⟩ = chk mp mc) := by show _ = _; unfold chkTakeD; rw [if_pos hr]
    clear hr
    go_wp2_with fail
    go_ret
    rw [HZ.out]
    exact ⟨ret_int HA.out.symm, hB⟩
  have HA : Hid (chkTakeD ⟨2, rp, rc, rt, mp, mc, many⟩ = if anyM rp rc || decide (rt.size ≠ 0) then 1 else if many < 1 ∨ 60 < many then 3 else (nxt mp mc (many - 1)).2.2) := by show _ = _; unfold chkTakeD; rw [if_neg (by simpa using hr)]
  rw [hr]
  clear hr
  have HIN := hidE (show Calls Try.prog 29 #[.agg #[.slice p rp.length cp, .int .i64 rc]] w1 fun e w' => e = .returned (.bool (!anyM rp rc)) ∧ Below w1.heap.size w1 w' from by have := isNone_any p cp rp.length rc w1; rw [none_any] at this; exact this)
  go_wp2_with fail
  refine HIN.out.mono ?_
  rintro e w2 ⟨rfl, hb⟩
  replace q3 := (hb.cell (p := ⟨Z, 3, none⟩) z).trans q3
  replace q4 := (hb.cell (p := ⟨Z, 4, none⟩) z).trans q4
  replace q5 := (hb.cell (p := ⟨Z, 5, none⟩) z).trans q5
  replace q6 := (hb.cell (p := ⟨Z, 6, none⟩) z).trans q6
  replace h2 := h2.below hb (Nat.le_refl _)
  replace hB := hB.thru hb (Nat.le_of_lt z)
  replace z := Nat.lt_of_lt_of_le z hb.size
  clear hb HIN q1 q2
  cases ha : anyM rp rc
  case true =>
    have HF : Hid (chkTakeD ⟨2, rp, rc, rt, mp, mc, many⟩ = 1) := by show _ = _; rw [HA.out, ha]; rfl
    clear ha
    go_wp2_with fail
    go_ret
    rw [HZ.out]
    exact ⟨ret_int HF.out.symm, hB⟩
  by_cases ht : rt.size = 0
  case neg =>
    have HF : Hid (chkTakeD ⟨2, rp, rc, rt, mp, mc, many⟩ = 1) := by show _ = _; rw [HA.out, ha, decide_eq_true ht]; rfl
    have hte : rt.toList.isEmpty = false := by rw [isEmpty_size]; simpa using ht
    clear ha
    go_wp2_with fail
    go_ret
    rw [HZ.out]
    exact ⟨ret_int HF.out.symm, hB⟩
  have hte : rt.toList.isEmpty = true := by rw [isEmpty_size, ht]; rfl
  have HA2 : Hid (chkTakeD ⟨2, rp, rc, rt, mp, mc, many⟩ = if many < 1 ∨ 60 < many then 3 else (nxt mp mc (many - 1)).2.2) := by show _ = _; rw [HA.out, ha, ht]; rfl
  clear ha ht HA
  have HBT := hidE (between_any many 1 60)
  by_cases hr : many < 1 ∨ 60 < many
  · have HF : Hid (chkTakeD ⟨2, rp, rc, rt, mp, mc, many⟩ = 3) := by show _ = _; rw [HA2.out, if_pos hr]
    have hin : inB many 1 60 = false := by unfold inB; simp; omega
    rw [hin] at HBT
    clear hin hr
    go_wp2_with fail
    refine (HBT.out w2).mono ?_
    rintro e w3 ⟨rfl, rfl⟩
    go_wp2_with fail
    go_ret
    rw [HZ.out]
    exact ⟨ret_int HF.out.symm, hB⟩
  have HF : Hid (chkTakeD ⟨2, rp, rc, rt, mp, mc, many⟩ = (nxt mp mc (many - 1)).2.2) := by show _ = _; rw [HA2.out, if_neg hr]
  have hin : inB many 1 60 = true := by unfold inB; simp; omega
  rw [hin] at HBT
  clear hin HA2
  go_wp2_with fail
  refine (HBT.out w2).mono ?_
  rintro e w3 ⟨rfl, hw⟩
  subst hw
  have hsub : IntKind.i64.wrap (many - 1) = many - 1 := by rw [IntKind.wrap_i64] <;> omega
  have HNX := hidE (nextOf_any q cq mp mc (many - 1) w3 h4 h2)
  go_wp2_with fail
  refine HNX.out.mono ?_
  rintro e w4 ⟨na, nc, rfl, _, hb⟩
  go_wp2_with fail
  go_ret
  rw [HZ.out]
  exact ⟨ret_int HF.out.symm, hB.thru hb (Nat.le_of_lt z)⟩
end Go.Proofs.Ytnhjebdlcbhkcaf
