/- Contract of the reference's CheckDeed. -/
import Derived.Test.YtnhjebdlcbhkcaeGreatDoD
import Derived.Test.YtnhjebdlcbhkcaeGreatNextOf
import Derived.Test.YtnhjebdlcbhkcaeGreatStateCk
import Derived.Test.YtnhjebdlcbhkcaeGreatRunCk
import Derived.Test.YtnhjebdlcbhkcaeGreatPutLe
namespace Go.Proofs.YtnhjebdlcbhkcaeGreat
open Go.RowKit

theorem none_any (l : List (Int × Int)) (c : Int) : (l.length == 0 && c == 0) = !anyM l c := by
  unfold anyM
  cases l with
  | nil => simp [bne]
  | cons x l => simp

set_option maxRecDepth 100000 in
set_option maxHeartbeats 4000000 in
theorem checkDeed_any (d : Dd) (p q : Option Addr) (cp cq : Nat) (w : World) (h : DdAt w d p q) (hi : -9223372036854775808 ≤ d.many) (hi' : d.many ≤ 9223372036854775807) :
    Calls Tryz.prog 66 #[ddV d p q cp cq] w fun e w' => e = .returned (.int .i64 (chkD d)) ∧ Below w.heap.size w w' := by
  obtain ⟨kind, rp, rc, rt, mp, mc, many⟩ := d
  obtain ⟨h1, h2, h3, h4, h5⟩ := h
  unfold ddV
  simp only at h1 h2 h3 h4 h5 hi hi' ⊢
  have hB := (Below.refl w.heap.size w).alloc (Nat.le_refl _) (Obj.cells #[.int .i64 kind, .slice p rp.length cp, .int .i64 rc, .string rt, .slice q mp.length cq, .int .i64 mc, .int .i64 many] 64)
  have hc : ∀ i, i < 7 → (w.alloc (Obj.cells #[.int .i64 kind, .slice p rp.length cp, .int .i64 rc, .string rt, .slice q mp.length cq, .int .i64 mc, .int .i64 many] 64)).cell? ⟨w.heap.size, i, none⟩ = #[.int .i64 kind, .slice p rp.length cp, .int .i64 rc, .string rt, .slice q mp.length cq, .int .i64 mc, .int .i64 many][i]? := fun i hi => by simp
  have q0 := hc 0 (by decide)
  have q1 := hc 1 (by decide)
  have q2 := hc 2 (by decide)
  have q3 := hc 3 (by decide)
  have q4 := hc 4 (by decide)
  have q5 := hc 5 (by decide)
  have q6 := hc 6 (by decide)
  simp only [List.getElem?_toArray, List.getElem?_cons_succ, List.getElem?_cons_zero] at q0 q1 q2 q3 q4 q5 q6
  have z : w.heap.size < (w.alloc (Obj.cells #[.int .i64 kind, .slice p rp.length cp, .int .i64 rc, .string rt, .slice q mp.length cq, .int .i64 mc, .int .i64 many] 64)).heap.size := by simp
  clear hc
  replace h1 := h1.below hB (Nat.le_refl _)
  replace h2 := h2.below hB (Nat.le_refl _)
  have HC : Hid (∀ n, (if kind = 1 then chkPutD ⟨kind, rp, rc, rt, mp, mc, many⟩ else if kind = 2 then chkTakeD ⟨kind, rp, rc, rt, mp, mc, many⟩ else 7) = n → chkD ⟨kind, rp, rc, rt, mp, mc, many⟩ = n) := fun n e => e
  generalize chkD ⟨kind, rp, rc, rt, mp, mc, many⟩ = cD at HC ⊢
  go_enter Tryz.func66, Tryz.ntmps66
  go_upto_region 1 with fail
  generalize w.alloc (Obj.cells #[.int .i64 kind, .slice p rp.length cp, .int .i64 rc, .string rt, .slice q mp.length cq, .int .i64 mc, .int .i64 many] 64) = W at hB q0 q1 q2 q3 q4 q5 q6 z h1 h2 ⊢
  generalize hzz : w.heap.size = Z at hB q0 q1 q2 q3 q4 q5 q6 z ⊢
  have HZ := hidE hzz
  clear hzz
  have hZW := Nat.le_of_lt z
  by_cases hk1 : kind = 1
  · subst hk1
    have e1 := HC.out _ (if_pos rfl)
    subst e1
    clear HC
    have HCR := hidE (checkRun_any p cp rp rc rt W h3 h5 h1)
    go_wp2_with fail
    refine HCR.out.mono ?_
    rintro e w1 ⟨rfl, hb⟩
    replace q4 := (hb.cell (p := ⟨Z, 4, none⟩) z).trans q4
    replace q5 := (hb.cell (p := ⟨Z, 5, none⟩) z).trans q5
    replace q6 := (hb.cell (p := ⟨Z, 6, none⟩) z).trans q6
    replace z := Nat.lt_of_lt_of_le z hb.size
    replace hB := hB.thru hb hZW
    clear hb HCR
    by_cases hr : chkRun rp rc rt = 0
    case neg =>
      have hrb : (chkRun rp rc rt == 0) = false := by rw [beq_eq_false_iff_ne]; exact hr
      have HA : Hid (chkPutD ⟨1, rp, rc, rt, mp, mc, many⟩ = chkRun rp rc rt) := by show _ = _; unfold chkPutD; rw [if_pos hr]
      clear hr
      go_wp2_with fail
      go_ret
      rw [HZ.out]
      exact ⟨ret_int HA.out.symm, hB⟩
    have HA : Hid (chkPutD ⟨1, rp, rc, rt, mp, mc, many⟩ = if anyM mp mc || many != 0 then 1 else 0) := by show _ = _; unfold chkPutD; rw [if_neg (by simpa using hr)]
    rw [hr]
    clear hr
    have HIN := hidE (show Calls Tryz.prog 157 #[.agg #[.slice q mp.length cq, .int .i64 mc]] w1 fun e w' => e = .returned (.bool (!anyM mp mc)) ∧ Below w1.heap.size w1 w' from by have := isNone_any q cq mp.length mc w1; rw [none_any] at this; exact this)
    go_wp2_with fail
    refine HIN.out.mono ?_
    rintro e w2 ⟨rfl, hb⟩
    replace q6 := (hb.cell (p := ⟨Z, 6, none⟩) z).trans q6
    replace hB := hB.thru hb (Nat.le_of_lt z)
    clear hb HIN
    cases ha : anyM mp mc
    · cases hm : many != 0
      · have HF : Hid (chkPutD ⟨1, rp, rc, rt, mp, mc, many⟩ = 0) := by show _ = _; rw [HA.out, ha, hm]; rfl
        clear ha
        go_wp2_with fail
        go_ret
        rw [HZ.out]
        exact ⟨ret_int HF.out.symm, hB⟩
      · have HF : Hid (chkPutD ⟨1, rp, rc, rt, mp, mc, many⟩ = 1) := by show _ = _; rw [HA.out, ha, hm]; rfl
        clear ha
        go_wp2_with fail
        go_ret
        rw [HZ.out]
        exact ⟨ret_int HF.out.symm, hB⟩
    · have HF : Hid (chkPutD ⟨1, rp, rc, rt, mp, mc, many⟩ = 1) := by show _ = _; rw [HA.out, ha]; rfl
      clear ha
      go_wp2_with fail
      go_ret
      rw [HZ.out]
      exact ⟨ret_int HF.out.symm, hB⟩
  have hkb : (kind == 1) = false := by rw [beq_eq_false_iff_ne]; exact hk1
  by_cases hk2 : kind = 2
  case neg =>
    have hkb2 : (kind != 2) = true := by rw [bne_iff_ne]; exact hk2
    have e1 := HC.out _ (by rw [if_neg hk1, if_neg hk2])
    subst e1
    go_wp2_with fail
    go_ret
    rw [HZ.out]
    exact ⟨rfl, hB⟩
  subst hk2
  have e1 := HC.out _ (by rw [if_neg hk1, if_pos rfl])
  subst e1
  clear HC hk1
  have HCM := hidE (checkMark_any q cq mp mc W h4 h2)
  go_wp2_with fail
  refine HCM.out.mono ?_
  rintro e w1 ⟨rfl, hb⟩
  replace q1 := (hb.cell (p := ⟨Z, 1, none⟩) z).trans q1
  replace q2 := (hb.cell (p := ⟨Z, 2, none⟩) z).trans q2
  replace q3 := (hb.cell (p := ⟨Z, 3, none⟩) z).trans q3
  replace q4 := (hb.cell (p := ⟨Z, 4, none⟩) z).trans q4
  replace q5 := (hb.cell (p := ⟨Z, 5, none⟩) z).trans q5
  replace q6 := (hb.cell (p := ⟨Z, 6, none⟩) z).trans q6
  replace h2 := h2.below hb (Nat.le_refl _)
  replace hB := hB.thru hb hZW
  replace z := Nat.lt_of_lt_of_le z hb.size
  clear hb HCM q0 hZW
  by_cases hr : chk mp mc = 0
  case neg =>
    have hrb : (chk mp mc != 0) = true := by rw [bne_iff_ne]; exact hr
    have HA : Hid (chkTakeD ⟨2, rp, rc, rt, mp, mc, many⟩ = chk mp mc) := by show _ = _; unfold chkTakeD; rw [if_pos hr]
    clear hr
    go_wp2_with fail
    go_ret
    rw [HZ.out]
    exact ⟨ret_int HA.out.symm, hB⟩
  have HA : Hid (chkTakeD ⟨2, rp, rc, rt, mp, mc, many⟩ = if anyM rp rc || decide (rt.size ≠ 0) then 1 else if many < 1 ∨ 60 < many then 3 else (nxt mp mc (many - 1)).2.2) := by show _ = _; unfold chkTakeD; rw [if_neg (by simpa using hr)]
  rw [hr]
  clear hr
  have HIN := hidE (show Calls Tryz.prog 157 #[.agg #[.slice p rp.length cp, .int .i64 rc]] w1 fun e w' => e = .returned (.bool (!anyM rp rc)) ∧ Below w1.heap.size w1 w' from by have := isNone_any p cp rp.length rc w1; rw [none_any] at this; exact this)
  go_wp2_with fail
  refine HIN.out.mono ?_
  rintro e w2 ⟨rfl, hb⟩
  replace q3 := (hb.cell (p := ⟨Z, 3, none⟩) z).trans q3
  replace q4 := (hb.cell (p := ⟨Z, 4, none⟩) z).trans q4
  replace q5 := (hb.cell (p := ⟨Z, 5, none⟩) z).trans q5
  replace q6 := (hb.cell (p := ⟨Z, 6, none⟩) z).trans q6
  replace h2 := h2.below hb (Nat.le_refl _)
  replace hB := hB.thru hb (Nat.le_of_lt z)
  replace z := Nat.lt_of_lt_of_le z hb.size
  clear hb HIN q1 q2
  cases ha : anyM rp rc
  case true =>
    have HF : Hid (chkTakeD ⟨2, rp, rc, rt, mp, mc, many⟩ = 1) := by show _ = _; rw [HA.out, ha]; rfl
    clear ha
    go_wp2_with fail
    go_ret
    rw [HZ.out]
    exact ⟨ret_int HF.out.symm, hB⟩
  by_cases ht : rt.size = 0
  case neg =>
    have HF : Hid (chkTakeD ⟨2, rp, rc, rt, mp, mc, many⟩ = 1) := by show _ = _; rw [HA.out, ha, decide_eq_true ht]; rfl
    have hte : rt.toList.isEmpty = false := by rw [isEmpty_size]; simpa using ht
    clear ha
    go_wp2_with fail
    go_ret
    rw [HZ.out]
    exact ⟨ret_int HF.out.symm, hB⟩
  have hte : rt.toList.isEmpty = true := by rw [isEmpty_size, ht]; rfl
  have HA2 : Hid (chkTakeD ⟨2, rp, rc, rt, mp, mc, many⟩ = if many < 1 ∨ 60 < many then 3 else (nxt mp mc (many - 1)).2.2) := by show _ = _; rw [HA.out, ha, ht]; rfl
  clear ha ht HA
  have HBT := hidE (between_any many 1 60)
  by_cases hr : many < 1 ∨ 60 < many
  · have HF : Hid (chkTakeD ⟨2, rp, rc, rt, mp, mc, many⟩ = 3) := by show _ = _; rw [HA2.out, if_pos hr]
    have hin : inB many 1 60 = false := by unfold inB; simp; omega
    rw [hin] at HBT
    clear hin hr
    go_wp2_with fail
    refine (HBT.out w2).mono ?_
    rintro e w3 ⟨rfl, rfl⟩
    go_wp2_with fail
    go_ret
    rw [HZ.out]
    exact ⟨ret_int HF.out.symm, hB⟩
  have HF : Hid (chkTakeD ⟨2, rp, rc, rt, mp, mc, many⟩ = (nxt mp mc (many - 1)).2.2) := by show _ = _; rw [HA2.out, if_neg hr]
  have hin : inB many 1 60 = true := by unfold inB; simp; omega
  rw [hin] at HBT
  clear hin HA2
  go_wp2_with fail
  refine (HBT.out w2).mono ?_
  rintro e w3 ⟨rfl, hw⟩
  subst hw
  have hsub : IntKind.i64.wrap (many - 1) = many - 1 := by rw [IntKind.wrap_i64] <;> omega
  have HNX := hidE (nextOf_any q cq mp mc (many - 1) w3 h4 h2)
  go_wp2_with fail
  refine HNX.out.mono ?_
  rintro e w4 ⟨na, nc, rfl, _, hb⟩
  go_wp2_with fail
  go_ret
  rw [HZ.out]
  exact ⟨ret_int HF.out.symm, hB.thru hb (Nat.le_of_lt z)⟩
end Go.Proofs.YtnhjebdlcbhkcaeGreat

namespace Go.Proofs.YtnhjebdlcbhkcaeGreat
open Go.RowKit

set_option maxRecDepth 100000 in
set_option maxHeartbeats 4000000 in
theorem checkState_any (a b : Option Addr) (cap cap' : Nat) (l : List At) (g : List (List (Int × Int) × Int)) (w : World) (hl : l.length ≤ maxLen) (h : AtomsAt w a l) (h' : MarksAt w b g) :
    Calls Tryz.prog 65 #[.agg #[.slice a l.length cap, .slice b g.length cap']] w fun e w' => e = .returned (.int .i64 (chkS l g)) ∧ Below w.heap.size w w' := by
  have hB := (Below.refl w.heap.size w).alloc (Nat.le_refl _) (Obj.cells #[.slice a l.length cap, .slice b g.length cap'] 25)
  have q0 : (w.alloc (Obj.cells #[.slice a l.length cap, .slice b g.length cap'] 25)).cell? ⟨w.heap.size, 0, none⟩ = some (.slice a l.length cap) := by simp
  have q1 : (w.alloc (Obj.cells #[.slice a l.length cap, .slice b g.length cap'] 25)).cell? ⟨w.heap.size, 1, none⟩ = some (.slice b g.length cap') := by simp
  have z : w.heap.size < (w.alloc (Obj.cells #[.slice a l.length cap, .slice b g.length cap'] 25)).heap.size := by simp
  replace h := h.below hB (Nat.le_refl _)
  replace h' := h'.below hB (Nat.le_refl _)
  go_enter Tryz.func65, Tryz.ntmps65
  go_upto_region 1 with fail
  generalize w.alloc (Obj.cells #[.slice a l.length cap, .slice b g.length cap'] 25) = W at hB q0 q1 z h h' ⊢
  generalize w.heap.size = Z at q0 q1 z
  go_wp2_with fail
  refine (checkAtoms_any _ _ l _ hl h).mono ?_
  rintro e w1 ⟨rfl, hb⟩
  replace q0 := (hb.cell (p := ⟨Z, 0, none⟩) z).trans q0
  replace q1 := (hb.cell (p := ⟨Z, 1, none⟩) z).trans q1
  replace z := Nat.lt_of_lt_of_le z hb.size
  replace h := h.below hb (Nat.le_refl _)
  replace h' := h'.below hb (Nat.le_refl _)
  replace hB := hB.thru hb hB.size
  clear hb
  by_cases hc : chkL l = 0
  case neg =>
    have hcb : (chkL l != 0) = true := by rw [bne_iff_ne]; exact hc
    have HA : Hid (chkS l g = chkL l) := by show _ = _; unfold chkS; rw [if_pos hc]
    clear hc
    go_wp2_with fail
    go_ret
    exact ⟨ret_int HA.out.symm, hB⟩
  have HC0 := hidE hc
  rw [hc]
  clear hc
  by_cases h600 : 600 < g.length
  · have hd : ((g.length : Int) > 600) := by omega
    have HA : Hid (chkS l g = 2) := by show _ = _; unfold chkS; rw [if_neg (by rw [HC0.out]; decide), if_pos h600]
    go_wp2_with fail
    go_ret
    exact ⟨ret_int HA.out.symm, hB⟩
  have hd : ¬ ((g.length : Int) > 600) := by omega
  have HC : Hid (chkS l g = chkGF l none g) := by show _ = _; unfold chkS; rw [if_neg (by rw [HC0.out]; decide), if_neg h600]
  go_wp2_with fail
  go_loopw [4] (fun i wr => ∃ k : Nat, k ≤ g.length ∧ i = .int .i64 k ∧ chkGF l (prevM g k) (g.drop k) = chkGF l none g ∧ Below w1.heap.size w1 wr) (fun i _ => g.length - (intOf i).toNat)
  case atStart => exact ⟨0, Nat.zero_le _, rfl, rfl, Below.refl _ _⟩
  case round =>
    obtain ⟨k, hk, rfl, hck, hb⟩ := hrel
    have HK := hidE hck
    clear hck
    replace hB := hB.thru hb hB.size
    replace q0 := (hb.cell (p := ⟨Z, 0, none⟩) z).trans q0
    replace q1 := (hb.cell (p := ⟨Z, 1, none⟩) z).trans q1
    replace z := Nat.lt_of_lt_of_le z hb.size
    replace h := h.below hb (Nat.le_refl _)
    by_cases hlt : k < g.length
    · rcases h'.below hb (Nat.le_refl _) with hs | ⟨ab, ao, rfl, hab, hc⟩
      · simp [hs] at hlt
      have hcons : Hid (chkGF l (prevM g k) (g.drop k) = if chkGn l (prevM g k) g[k] ≠ 0 then chkGn l (prevM g k) g[k] else chkGF l (some g[k]) (g.drop (k + 1))) := by
        show _ = _
        rw [List.drop_eq_getElem_cons hlt, chkGF_cons]
      have hnext : Hid (prevM g (k + 1) = some g[k]) := by
        show _ = _
        unfold prevM; rw [if_neg (by omega), Nat.add_sub_cancel, List.getElem?_eq_getElem hlt]
      obtain ⟨p, cp, c0, c1, hst, hle⟩ := hc k hlt
      have HP : Hid (chkGn l (prevM g k) g[k] = chkGn l (prevM g k) (g[k].1, g[k].2)) := rfl
      have hi1 : (k : Int) < g.length := by omega
      have HAll := hidE hc
      generalize g[k].1 = pk at *
      generalize g[k].2 = ck at *
      clear hc h'
      go_wp2_with fail
      refine (checkMark_any _ _ pk _ _ hle hst).mono ?_
      rintro e w2 ⟨rfl, hbW⟩
      have m0 := (hbW.cell (p := ⟨ab, ao + k * 2, none⟩) hab).trans c0
      have m1 := (hbW.cell (p := ⟨ab, ao + k * 2 + 1, none⟩) hab).trans c1
      replace q0 := (hbW.cell (p := ⟨Z, 0, none⟩) z).trans q0
      replace q1 := (hbW.cell (p := ⟨Z, 1, none⟩) z).trans q1
      replace h := h.below hbW (Nat.le_refl _)
      have hB2 := hB.thru hbW hB.size
      have hb2w := hb.thru hbW hb.size
      replace hst := hst.below hbW (Nat.le_refl _)
      clear hb c0 c1
      have HR : Hid (chkS l g = if chkGn l (prevM g k) (pk, ck) ≠ 0 then chkGn l (prevM g k) (pk, ck) else chkGF l (some g[k]) (g.drop (k + 1))) := by
        show _ = _
        rw [HC.out, ← HK.out, hcons.out, HP.out]
      have HCC := hidE HC.out
      clear HC HP hcons
      by_cases hc0 : chk pk ck = 0
      case neg =>
        have hcb : (chk pk ck != 0) = true := by rw [bne_iff_ne]; exact hc0
        have HA : Hid (chkS l g = chk pk ck) := by
          show _ = _
          have : chkGn l (prevM g k) (pk, ck) = chk pk ck := by unfold chkGn; rw [if_pos hc0]
          rw [HR.out, this, if_pos hc0]
        clear hc0
        go_wp2_with fail
        go_ret
        exact ⟨ret_int HA.out.symm, hB2⟩
      rw [hc0]
      have HA : Hid (chkGn l (prevM g k) (pk, ck) = if (match prevM g k with | none => false | some y => decide (0 ≤ ordM y.1 y.2 pk ck)) || hasMk l pk ck then 4 else 0) := by
        show _ = _
        unfold chkGn
        rw [if_neg (by simpa using hc0)]
        rfl
      clear hc0
      have k2 := cell_regrown m0
      have k3 := cell_regrown m1
      have k4 := cell_regrown q0
      have k5 := cell_regrown q1
      have S2 := hidE (fun d os => hst.below (below_regrown w2 d os) (Nat.le_refl _))
      have S3 := hidE (fun d os => h.below (below_regrown w2 d os) (Nat.le_refl _))
      rcases Nat.eq_zero_or_pos k with rfl | hk0
      · have hgz : decide ((0 : Int) > 0) = false := by decide
        simp only [Nat.zero_mul, Nat.add_zero] at k2 k3
        go_wp2_with fail
        refine wp_region_quiet_below (by kernel_rfl) (by kernel_rfl) ?_
        repeat (first | go_big_quiet_step ((go_at_call 121; exact Calls.regrown_of (hasMark_any _ _ _ _ l pk _ _ hl hle (S3.out _ _) (S2.out _ _)))) | quiet_step ((go_at_call 121; exact Calls.regrown_of (hasMark_any _ _ _ _ l pk _ _ hl hle (S3.out _ _) (S2.out _ _)))))
        refine wpQuiet_nil ?_
        intro _ hw'
        obtain ⟨⟨dq, osq⟩, hw''⟩ := hw'
        subst hw''
        clear k2 k3 k4 k5
        cases hhas : hasMk l pk ck
        · have HF : Hid (chkGF l (some g[0]) (g.drop 1) = chkGF l none g) := by
            show _ = _
            rw [← HCC.out, HR.out, HA.out, hhas]
            rfl
          clear hhas
          go_wp2
          go_roundw
          case rel => exact ⟨1, by omega, by go_num, by rw [hnext.out, HF.out], hb2w.thru (below_regrown _ _ _) hb2w.size⟩
          case measure => simp [intOf]; omega
        · have HF : Hid (chkS l g = 4) := by show _ = _; rw [HR.out, HA.out, hhas]; rfl
          clear hhas
          go_wp2
          go_ret
          exact ⟨ret_int HF.out.symm, hB2.thru (below_regrown _ _ _) hB2.size⟩
      · obtain ⟨j, rfl⟩ : ∃ j, k = j + 1 := ⟨k - 1, by omega⟩
        obtain ⟨py, cy, c0, c1, hsy, hly⟩ := HAll.out j (by omega)
        have d0 := (hbW.cell (p := ⟨ab, ao + j * 2, none⟩) hab).trans c0
        have d1 := (hbW.cell (p := ⟨ab, ao + j * 2 + 1, none⟩) hab).trans c1
        have hpv : Hid (prevM g (j + 1) = some g[j]) := by
          show _ = _
          unfold prevM; rw [if_neg (by omega), Nat.add_sub_cancel, List.getElem?_eq_getElem (by omega)]
        have HA3 : Hid (chkGn l (prevM g (j + 1)) (pk, ck) = if decide (0 ≤ ordM g[j].1 g[j].2 pk ck) || hasMk l pk ck then 4 else 0) := by
          show _ = _
          rw [HA.out, hpv.out]
        have k0 := cell_regrown d0
        have k1 := cell_regrown d1
        have S1 := hidE (fun d os => (hsy.below hbW (Nat.le_refl _)).below (below_regrown w2 d os) (Nat.le_refl _))
        clear c0 c1 HA hsy hst
        generalize g[j].1 = lp at d0 d1 hly HA3 k0 S1
        generalize g[j].2 = lc at d0 d1 HA3 k1
        have hw1 : IntKind.i64.wrap (((j + 1 : Nat) : Int) - 1) = (j : Int) := by rw [IntKind.wrap_i64] <;> omega
        have hgz : decide (((j + 1 : Nat) : Int) > 0) = true := by simp
        have hj1 : (j : Int) < g.length := by omega
        go_wp2_with fail
        by_cases ho : 0 ≤ ordM lp lc pk ck
        · have ho' : decide (ordM lp lc pk ck ≥ 0) = true := decide_eq_true ho
          have HF : Hid (chkS l g = 4) := by show _ = _; rw [HR.out, HA3.out, decide_eq_true ho, Bool.true_or, if_pos rfl, if_pos (by decide)]
          clear ho
          refine wp_region_quiet_below (by kernel_rfl) (by kernel_rfl) ?_
          repeat (first | go_big_quiet_step ((go_at_call 141; exact Calls.regrown_of (orderOf_any _ _ _ _ lp pk _ _ _ hly hle (S1.out _ _) (S2.out _ _)))) | quiet_step ((go_at_call 141; exact Calls.regrown_of (orderOf_any _ _ _ _ lp pk _ _ _ hly hle (S1.out _ _) (S2.out _ _)))))
          refine wpQuiet_nil ?_
          intro _ hw'
          obtain ⟨⟨dq, osq⟩, hw''⟩ := hw'
          subst hw''
          go_wp2
          go_ret
          exact ⟨ret_int HF.out.symm, hB2.thru (below_regrown _ _ _) hB2.size⟩
        · have ho' : decide (ordM lp lc pk ck ≥ 0) = false := decide_eq_false ho
          have HNO := hidE (decide_eq_false ho)
          clear ho
          refine wp_region_quiet_below (by kernel_rfl) (by kernel_rfl) ?_
          repeat (first | go_big_quiet_step (first | (go_at_call 141; exact Calls.regrown_of (orderOf_any _ _ _ _ lp pk _ _ _ hly hle (S1.out _ _) (S2.out _ _))) | (go_at_call 121; exact Calls.regrown_of (hasMark_any _ _ _ _ l pk _ _ hl hle (S3.out _ _) (S2.out _ _)))) | quiet_step (first | (go_at_call 141; exact Calls.regrown_of (orderOf_any _ _ _ _ lp pk _ _ _ hly hle (S1.out _ _) (S2.out _ _))) | (go_at_call 121; exact Calls.regrown_of (hasMark_any _ _ _ _ l pk _ _ hl hle (S3.out _ _) (S2.out _ _)))))
          refine wpQuiet_nil ?_
          intro _ hw'
          obtain ⟨⟨dq, osq⟩, hw''⟩ := hw'
          subst hw''
          clear k0 k1 k2 k3 k4 k5
          cases hhas : hasMk l pk ck
          · have HF : Hid (chkGF l (some g[j + 1]) (g.drop (j + 1 + 1)) = chkGF l none g) := by
              show _ = _
              rw [← HCC.out, HR.out, HA3.out, hhas, HNO.out]
              rfl
            clear hhas
            go_wp2
            go_roundw
            case rel => exact ⟨j + 1 + 1, by omega, by go_num, by rw [hnext.out, HF.out], hb2w.thru (below_regrown _ _ _) hb2w.size⟩
            case measure => simp [intOf]; omega
          · have HF : Hid (chkS l g = 4) := by show _ = _; rw [HR.out, HA3.out, hhas, HNO.out]; rfl
            clear hhas
            go_wp2
            go_ret
            exact ⟨ret_int HF.out.symm, hB2.thru (below_regrown _ _ _) hB2.size⟩
    · have HF : Hid (chkS l g = 0) := by show _ = _; rw [HC.out, ← HK.out, List.drop_eq_nil_of_le (by omega)]; rfl
      go_wp2
      go_ret
      exact ⟨ret_int HF.out.symm, hB⟩
end Go.Proofs.YtnhjebdlcbhkcaeGreat
