/- Contract of state.Deed. -/
import Derived.Test.YtnhjebdlcbhkcafRunCk
namespace Go.Proofs.Ytnhjebdlcbhkcaf
open Go.RowKit

/-- a deed -/
structure Dd where
  kind : Int
  rp : List (Int × Int)
  rc : Int
  rt : ByteArray
  mp : List (Int × Int)
  mc : Int
  many : Int

def anyM (p : List (Int × Int)) (c : Int) : Bool := decide (0 < p.length) || c != 0
/-- what Deed answers -/
def chkPutD (d : Dd) : Int := if chkRun d.rp d.rc d.rt ≠ 0 then chkRun d.rp d.rc d.rt else if anyM d.mp d.mc || d.many != 0 then 1 else 0
def chkTakeD (d : Dd) : Int := if chk d.mp d.mc ≠ 0 then chk d.mp d.mc else if anyM d.rp d.rc || decide (d.rt.size ≠ 0) then 1 else if d.many < 1 ∨ 60 < d.many then 3 else (nxt d.mp d.mc (d.many - 1)).2.2
def chkD (d : Dd) : Int := if d.kind = 1 then chkPutD d else if d.kind = 2 then chkTakeD d else 7

/-- a deed's value -/
def ddV (d : Dd) (p q : Option Addr) (cp cq : Nat) : Value := .agg #[.int .i64 d.kind, .slice p d.rp.length cp, .int .i64 d.rc, .string d.rt, .slice q d.mp.length cq, .int .i64 d.mc, .int .i64 d.many]
/-- its marks lie where it says -/
structure DdAt (w : World) (d : Dd) (p q : Option Addr) : Prop where
  run : StepsAt w p d.rp
  mark : StepsAt w q d.mp
  rl : d.rp.length ≤ maxLen
  ml : d.mp.length ≤ maxLen
  tl : d.rt.size ≤ maxLen
theorem DdAt.below {w w' : World} {d : Dd} {p q : Option Addr} (h : DdAt w d p q) (hb : Below w.heap.size w w') : DdAt w' d p q := ⟨h.run.below hb (Nat.le_refl _), h.mark.below hb (Nat.le_refl _), h.rl, h.ml, h.tl⟩

set_option maxHeartbeats 1000000 in
theorem hasAnything_any (a : Option Addr) (cap : Nat) (l : List (Int × Int)) (c : Int) (w : World) :
    Calls Try.prog 46 #[.agg #[.slice a l.length cap, .int .i64 c]] w fun e w' => e = .returned (.bool (anyM l c)) ∧ Below w.heap.size w w' := by
  unfold anyM
  generalize l.length = n
  rcases n with _ | k
  · go_enter Try.func46, Try.ntmps46
    go_wp2_with fail
    go_ret
    exact ⟨ret_bool (by simp), (Below.refl _ _).alloc (Nat.le_refl _) _⟩
  · have hd : decide (((k + 1 : Nat) : Int) > 0) = true := by simp
    go_enter Try.func46, Try.ntmps46
    go_wp2_with fail
    go_ret
    exact ⟨ret_bool (by simp), (Below.refl _ _).alloc (Nat.le_refl _) _⟩

set_option maxRecDepth 100000 in
set_option maxHeartbeats 4000000 in
theorem checkPutD_any (d : Dd) (p q : Option Addr) (cp cq : Nat) (w : World) (h : DdAt w d p q) :
    Calls Try.prog 36 #[ddV d p q cp cq] w fun e w' => e = .returned (.int .i64 (chkPutD d)) ∧ Below w.heap.size w w' := by
  obtain ⟨kind, rp, rc, rt, mp, mc, many⟩ := d
  obtain ⟨h1, h2, h3, h4, h5⟩ := h
  unfold ddV
  simp only at h1 h2 h3 h4 h5 ⊢
  have hB := (Below.refl w.heap.size w).alloc (Nat.le_refl _) (Obj.cells #[.int .i64 kind, .slice p rp.length cp, .int .i64 rc, .string rt, .slice q mp.length cq, .int .i64 mc, .int .i64 many] 54)
  have hc : ∀ i, i < 7 → (w.alloc (Obj.cells #[.int .i64 kind, .slice p rp.length cp, .int .i64 rc, .string rt, .slice q mp.length cq, .int .i64 mc, .int .i64 many] 54)).cell? ⟨w.heap.size, i, none⟩ = #[.int .i64 kind, .slice p rp.length cp, .int .i64 rc, .string rt, .slice q mp.length cq, .int .i64 mc, .int .i64 many][i]? := fun i hi => by simp
  have q4 := hc 4 (by decide)
  have q5 := hc 5 (by decide)
  have q6 := hc 6 (by decide)
  simp only [List.getElem?_toArray, List.getElem?_cons_succ, List.getElem?_cons_zero] at q4 q5 q6
  have z : w.heap.size < (w.alloc (Obj.cells #[.int .i64 kind, .slice p rp.length cp, .int .i64 rc, .string rt, .slice q mp.length cq, .int .i64 mc, .int .i64 many] 54)).heap.size := by simp
  clear hc
  go_enter Try.func36, Try.ntmps36
  go_wp2_with fail
  refine (runCheck_any _ _ rp rc rt _ h3 h5 (h1.below hB (Nat.le_refl _))).mono ?_
  rintro e w1 ⟨rfl, hb⟩
  replace q4 := (hb.cell (p := ⟨w.heap.size, 4, none⟩) z).trans q4
  replace q5 := (hb.cell (p := ⟨w.heap.size, 5, none⟩) z).trans q5
  replace q6 := (hb.cell (p := ⟨w.heap.size, 6, none⟩) z).trans q6
  replace z := Nat.lt_of_lt_of_le z hb.size
  replace hB := hB.thru hb hB.size
  clear hb
  by_cases hr : chkRun rp rc rt = 0
  case neg =>
    have hrb : (chkRun rp rc rt != 0) = true := by rw [bne_iff_ne]; exact hr
    have HA : Hid (chkPutD ⟨kind, rp, rc, rt, mp, mc, many⟩ = chkRun rp rc rt) := by show _ = _; unfold chkPutD; rw [if_pos hr]
    clear hr
    go_wp2_with fail
    go_ret
    exact ⟨ret_int HA.out.symm, hB⟩
  have HA : Hid (chkPutD ⟨kind, rp, rc, rt, mp, mc, many⟩ = if anyM mp mc || many != 0 then 1 else 0) := by show _ = _; unfold chkPutD; rw [if_neg (by simpa using hr)]
  rw [hr]
  clear hr
  go_wp2_with fail
  refine (hasAnything_any _ _ mp _ _).mono ?_
  rintro e w2 ⟨rfl, hb⟩
  replace q6 := (hb.cell (p := ⟨w.heap.size, 6, none⟩) z).trans q6
  replace hB := hB.thru hb hB.size
  clear hb
  cases ha : anyM mp mc
  · cases hm : many != 0
    · have HF : Hid (chkPutD ⟨kind, rp, rc, rt, mp, mc, many⟩ = 0) := by show _ = _; rw [HA.out, ha, hm]; rfl
      clear ha
      go_wp2_with fail
      go_ret
      exact ⟨ret_int HF.out.symm, hB⟩
    · have HF : Hid (chkPutD ⟨kind, rp, rc, rt, mp, mc, many⟩ = 1) := by show _ = _; rw [HA.out, ha, hm]; rfl
      clear ha
      go_wp2_with fail
      go_ret
      exact ⟨ret_int HF.out.symm, hB⟩
  · have HF : Hid (chkPutD ⟨kind, rp, rc, rt, mp, mc, many⟩ = 1) := by show _ = _; rw [HA.out, ha]; rfl
    clear ha
    go_wp2_with fail
    go_ret
    exact ⟨ret_int HF.out.symm, hB⟩

set_option maxRecDepth 100000 in
set_option maxHeartbeats 4000000 in
theorem checkTake_any (d : Dd) (p q : Option Addr) (cp cq : Nat) (w : World) (h : DdAt w d p q) (hi : -9223372036854775808 ≤ d.many) (hi' : d.many ≤ 9223372036854775807) :
    Calls Try.prog 37 #[ddV d p q cp cq] w fun e w' => e = .returned (.int .i64 (chkTakeD d)) ∧ Below w.heap.size w w' := by
  obtain ⟨kind, rp, rc, rt, mp, mc, many⟩ := d
  obtain ⟨h1, h2, h3, h4, h5⟩ := h
  unfold ddV
  simp only at h1 h2 h3 h4 h5 hi hi' ⊢
  have hB := (Below.refl w.heap.size w).alloc (Nat.le_refl _) (Obj.cells #[.int .i64 kind, .slice p rp.length cp, .int .i64 rc, .string rt, .slice q mp.length cq, .int .i64 mc, .int .i64 many] 54)
  have hc : ∀ i, i < 7 → (w.alloc (Obj.cells #[.int .i64 kind, .slice p rp.length cp, .int .i64 rc, .string rt, .slice q mp.length cq, .int .i64 mc, .int .i64 many] 54)).cell? ⟨w.heap.size, i, none⟩ = #[.int .i64 kind, .slice p rp.length cp, .int .i64 rc, .string rt, .slice q mp.length cq, .int .i64 mc, .int .i64 many][i]? := fun i hi => by simp
  have q1 := hc 1 (by decide)
  have q2 := hc 2 (by decide)
  have q3 := hc 3 (by decide)
  have q4 := hc 4 (by decide)
  have q5 := hc 5 (by decide)
  have q6 := hc 6 (by decide)
  simp only [List.getElem?_toArray, List.getElem?_cons_succ, List.getElem?_cons_zero] at q1 q2 q3 q4 q5 q6
  have z : w.heap.size < (w.alloc (Obj.cells #[.int .i64 kind, .slice p rp.length cp, .int .i64 rc, .string rt, .slice q mp.length cq, .int .i64 mc, .int .i64 many] 54)).heap.size := by simp
  clear hc
  replace h2 := h2.below hB (Nat.le_refl _)
  go_enter Try.func37, Try.ntmps37
  go_wp2_with fail
  refine (check_any _ _ mp _ _ h4 h2).mono ?_
  rintro e w1 ⟨rfl, hb⟩
  replace q1 := (hb.cell (p := ⟨w.heap.size, 1, none⟩) z).trans q1
  replace q2 := (hb.cell (p := ⟨w.heap.size, 2, none⟩) z).trans q2
  replace q3 := (hb.cell (p := ⟨w.heap.size, 3, none⟩) z).trans q3
  replace q4 := (hb.cell (p := ⟨w.heap.size, 4, none⟩) z).trans q4
  replace q5 := (hb.cell (p := ⟨w.heap.size, 5, none⟩) z).trans q5
  replace q6 := (hb.cell (p := ⟨w.heap.size, 6, none⟩) z).trans q6
  replace z := Nat.lt_of_lt_of_le z hb.size
  replace h2 := h2.below hb (Nat.le_refl _)
  replace hB := hB.thru hb hB.size
  clear hb
  by_cases hr : chk mp mc = 0
  case neg =>
    have hrb : (chk mp mc != 0) = true := by rw [bne_iff_ne]; exact hr
    have HA : Hid (chkTakeD ⟨kind, rp, rc, rt, mp, mc, many⟩ = chk mp mc) := by show _ = _; unfold chkTakeD; rw [if_pos hr]
    clear hr
    go_wp2_with fail
    go_ret
    exact ⟨ret_int HA.out.symm, hB⟩
  have HA : Hid (chkTakeD ⟨kind, rp, rc, rt, mp, mc, many⟩ = if anyM rp rc || decide (rt.size ≠ 0) then 1 else if many < 1 ∨ 60 < many then 3 else (nxt mp mc (many - 1)).2.2) := by show _ = _; unfold chkTakeD; rw [if_neg (by simpa using hr)]
  rw [hr]
  clear hr
  go_wp2_with fail
  refine (hasAnything_any _ _ rp _ _).mono ?_
  rintro e w2 ⟨rfl, hb⟩
  replace q1 := (hb.cell (p := ⟨w.heap.size, 1, none⟩) z).trans q1
  replace q2 := (hb.cell (p := ⟨w.heap.size, 2, none⟩) z).trans q2
  replace q3 := (hb.cell (p := ⟨w.heap.size, 3, none⟩) z).trans q3
  replace q4 := (hb.cell (p := ⟨w.heap.size, 4, none⟩) z).trans q4
  replace q5 := (hb.cell (p := ⟨w.heap.size, 5, none⟩) z).trans q5
  replace q6 := (hb.cell (p := ⟨w.heap.size, 6, none⟩) z).trans q6
  replace z := Nat.lt_of_lt_of_le z hb.size
  replace h2 := h2.below hb (Nat.le_refl _)
  replace hB := hB.thru hb hB.size
  clear hb
  cases ha : anyM rp rc
  case true =>
    have HF : Hid (chkTakeD ⟨kind, rp, rc, rt, mp, mc, many⟩ = 1) := by show _ = _; rw [HA.out, ha]; rfl
    clear ha
    go_wp2_with fail
    go_ret
    exact ⟨ret_int HF.out.symm, hB⟩
  by_cases ht : rt.size = 0
  case neg =>
    have HF : Hid (chkTakeD ⟨kind, rp, rc, rt, mp, mc, many⟩ = 1) := by show _ = _; rw [HA.out, ha, decide_eq_true ht]; rfl
    have hte : rt.toList.isEmpty = false := by rw [isEmpty_size]; simpa using ht
    clear ha
    go_wp2_with fail
    go_ret
    exact ⟨ret_int HF.out.symm, hB⟩
  have hte : rt.toList.isEmpty = true := by rw [isEmpty_size, ht]; rfl
  have HA2 : Hid (chkTakeD ⟨kind, rp, rc, rt, mp, mc, many⟩ = if many < 1 ∨ 60 < many then 3 else (nxt mp mc (many - 1)).2.2) := by show _ = _; rw [HA.out, ha, ht]; rfl
  clear ha ht HA
  by_cases hr : many < 1 ∨ 60 < many
  · have HF : Hid (chkTakeD ⟨kind, rp, rc, rt, mp, mc, many⟩ = 3) := by show _ = _; rw [HA2.out, if_pos hr]
    by_cases hm1 : many < 1
    · have hd : decide (many < 1) = true := decide_eq_true hm1
      clear hr
      go_wp2_with fail
      go_ret
      exact ⟨ret_int HF.out.symm, hB⟩
    · have hd : decide (many < 1) = false := decide_eq_false hm1
      have hd2 : decide (many > 60) = true := decide_eq_true (by omega)
      clear hr
      go_wp2_with fail
      go_ret
      exact ⟨ret_int HF.out.symm, hB⟩
  have HF : Hid (chkTakeD ⟨kind, rp, rc, rt, mp, mc, many⟩ = (nxt mp mc (many - 1)).2.2) := by show _ = _; rw [HA2.out, if_neg hr]
  have hd : decide (many < 1) = false := decide_eq_false (by omega)
  have hd2 : decide (many > 60) = false := decide_eq_false (by omega)
  clear HA2
  go_wp2_with fail
  refine (next_any _ _ mp _ _ _ h4 h2).mono ?_
  rintro e w3 ⟨na, nc, rfl, hn, hb⟩
  go_wp2_with fail
  go_ret
  exact ⟨ret_int HF.out.symm, hB.thru (hb.alloc hb.size _) hB.size⟩

set_option maxRecDepth 100000 in
set_option maxHeartbeats 4000000 in
theorem deed_any (d : Dd) (p q : Option Addr) (cp cq : Nat) (w : World) (h : DdAt w d p q) (hi : -9223372036854775808 ≤ d.many) (hi' : d.many ≤ 9223372036854775807) :
    Calls Try.prog 23 #[ddV d p q cp cq] w fun e w' => e = .returned (.int .i64 (chkD d)) ∧ Below w.heap.size w w' := by
  have hP := fun (W : World) (hh : DdAt W d p q) => checkPutD_any d p q cp cq W hh
  have hT := fun (W : World) (hh : DdAt W d p q) => checkTake_any d p q cp cq W hh hi hi'
  have HP := hidE hP
  have HT := hidE hT
  clear hP hT
  have HK1 : Hid (d.kind = 1 → chkD d = chkPutD d) := fun e => by unfold chkD; rw [if_pos e]
  have HK2 : Hid (d.kind = 2 → chkD d = chkTakeD d) := fun e => by unfold chkD; rw [if_neg (by omega), if_pos e]
  have HK3 : Hid (d.kind ≠ 1 → d.kind ≠ 2 → chkD d = 7) := fun e f => by unfold chkD; rw [if_neg e, if_neg f]
  generalize chkPutD d = cP at HP HK1
  generalize chkTakeD d = cT at HT HK2
  generalize chkD d = cD at HK1 HK2 HK3 ⊢
  obtain ⟨kind, rp, rc, rt, mp, mc, many⟩ := d
  unfold ddV at HP HT ⊢
  simp only at HP HT HK1 HK2 HK3 ⊢
  have hB := (Below.refl w.heap.size w).alloc (Nat.le_refl _) (Obj.cells #[.int .i64 kind, .slice p rp.length cp, .int .i64 rc, .string rt, .slice q mp.length cq, .int .i64 mc, .int .i64 many] 54)
  replace h := h.below hB
  by_cases h1 : kind = 1
  · subst h1
    have e1 := HK1.out rfl
    subst e1
    go_enter Try.func23, Try.ntmps23
    go_wp2_with fail
    refine (HP.out _ h).mono ?_
    rintro e w1 ⟨rfl, hb⟩
    go_wp2_with fail
    go_ret
    exact ⟨rfl, hB.thru hb hB.size⟩
  by_cases h2 : kind = 2
  · subst h2
    have e1 := HK2.out rfl
    subst e1
    go_enter Try.func23, Try.ntmps23
    go_wp2_with fail
    refine (HT.out _ h).mono ?_
    rintro e w1 ⟨rfl, hb⟩
    go_wp2_with fail
    go_ret
    exact ⟨rfl, hB.thru hb hB.size⟩
  · have e1 := HK3.out h1 h2
    subst e1
    have hk1 : (kind == 1) = false := by rw [beq_eq_false_iff_ne]; exact h1
    have hk2 : (kind == 2) = false := by rw [beq_eq_false_iff_ne]; exact h2
    go_enter Try.func23, Try.ntmps23
    go_wp2_with fail
    go_ret
    exact ⟨rfl, hB⟩
end Go.Proofs.Ytnhjebdlcbhkcaf
