/- Contract of state.Deed. -/
import Derived.Test.YtnhjebdlcbhkcaeGreatRunCk
import Derived.Test.YtnhjebdlcbhkcaeGreatDelI
import Derived.Test.YtnhjebdlcbhkcaeGreatDPut
import Derived.Test.YtnhjebdlcbhkcaeGreatStateCk
import Derived.Test.YtnhjebdlcbhkcaeGreatPutLe
namespace Go.Proofs.YtnhjebdlcbhkcaeGreat
open Go.RowKit

structure Dd where
  kind : Int
  rp : List (Int × Int)
  rc : Int
  rt : ByteArray
  mp : List (Int × Int)
  mc : Int
  many : Int

def anyM (p : List (Int × Int)) (c : Int) : Bool := decide (0 < p.length) || c != 0
def chkPutD (d : Dd) : Int := if chkRun d.rp d.rc d.rt ≠ 0 then chkRun d.rp d.rc d.rt else if anyM d.mp d.mc || d.many != 0 then 1 else 0
def chkTakeD (d : Dd) : Int := if chk d.mp d.mc ≠ 0 then chk d.mp d.mc else if anyM d.rp d.rc || decide (d.rt.size ≠ 0) then 1 else if d.many < 1 ∨ 60 < d.many then 3 else (nxt d.mp d.mc (d.many - 1)).2.2
def chkD (d : Dd) : Int := if d.kind = 1 then chkPutD d else if d.kind = 2 then chkTakeD d else 7

def ddV (d : Dd) (p q : Option Addr) (cp cq : Nat) : Value := .agg #[.int .i64 d.kind, .slice p d.rp.length cp, .int .i64 d.rc, .string d.rt, .slice q d.mp.length cq, .int .i64 d.mc, .int .i64 d.many]
structure DdAt (w : World) (d : Dd) (p q : Option Addr) : Prop where
  run : StepsAt w p d.rp
  mark : StepsAt w q d.mp
  rl : d.rp.length ≤ maxLen
  ml : d.mp.length ≤ maxLen
  tl : d.rt.size ≤ maxLen
theorem DdAt.below {w w' : World} {d : Dd} {p q : Option Addr} (h : DdAt w d p q) (hb : Below w.heap.size w w') : DdAt w' d p q := ⟨h.run.below hb (Nat.le_refl _), h.mark.below hb (Nat.le_refl _), h.rl, h.ml, h.tl⟩

set_option maxHeartbeats 1000000 in
theorem hasAnything_any (a : Option Addr) (cap : Nat) (l : List (Int × Int)) (c : Int) (w : World) :
    Calls Tryz.prog 199 #[.agg #[.slice a l.length cap, .int .i64 c]] w fun e w' => e = .returned (.bool (anyM l c)) ∧ Below w.heap.size w w' := by
  unfold anyM
  generalize l.length = n
  rcases n with _ | k
  · go_enter Tryz.func199, Tryz.ntmps199
    go_wp2_with fail
    go_ret
    exact ⟨ret_bool (by simp), (Below.refl _ _).alloc (Nat.le_refl _) _⟩
  · have hd : decide (((k + 1 : Nat) : Int) > 0) = true := by simp
    go_enter Tryz.func199, Tryz.ntmps199
    go_wp2_with fail
    go_ret
    exact ⟨ret_bool (by simp), (Below.refl _ _).alloc (Nat.le_refl _) _⟩

set_option maxRecDepth 100000 in
set_option maxHeartbeats 4000000 in
theorem checkPutD_any (d : Dd) (p q : Option Addr) (cp cq : Nat) (w : World) (h : DdAt w d p q) :
    Calls Tryz.prog 132 #[ddV d p q cp cq] w fun e w' => e = .returned (.int .i64 (chkPutD d)) ∧ Below w.heap.size w w' := by
  obtain ⟨kind, rp, rc, rt, mp, mc, many⟩ := d
  obtain ⟨h1, h2, h3, h4, h5⟩ := h
  unfold ddV
  simp only at h1 h2 h3 h4 h5 ⊢
  have hB := (Below.refl w.heap.size w).alloc (Nat.le_refl _) (Obj.cells #[.int .i64 kind, .slice p rp.length cp, .int .i64 rc, .string rt, .slice q mp.length cq, .int .i64 mc, .int .i64 many] 64)
  have hc : ∀ i, i < 7 → (w.alloc (Obj.cells #[.int .i64 kind, .slice p rp.length cp, .int .i64 rc, .string rt, .slice q mp.length cq, .int .i64 mc, .int .i64 many] 64)).cell? ⟨w.heap.size, i, none⟩ = #[.int .i64 kind, .slice p rp.length cp, .int .i64 rc, .string rt, .slice q mp.length cq, .int .i64 mc, .int .i64 many][i]? := fun i hi => by simp
  have q4 := hc 4 (by decide)
  have q5 := hc 5 (by decide)
  have q6 := hc 6 (by decide)
  simp only [List.getElem?_toArray, List.getElem?_cons_succ, List.getElem?_cons_zero] at q4 q5 q6
  have z : w.heap.size < (w.alloc (Obj.cells #[.int .i64 kind, .slice p rp.length cp, .int .i64 rc, .string rt, .slice q mp.length cq, .int .i64 mc, .int .i64 many] 64)).heap.size := by simp
  clear hc
  go_enter Tryz.func132, Tryz.ntmps132
  go_wp2_with fail
  refine (runCheck_any _ _ rp rc rt _ h3 h5 (h1.below hB (Nat.le_refl _))).mono ?_
  rintro e w1 ⟨rfl, hb⟩
  replace q4 := (hb.cell (p := ⟨w.heap.size, 4, none⟩) z).trans q4
  replace q5 := (hb.cell (p := ⟨w.heap.size, 5, none⟩) z).trans q5
  replace q6 := (hb.cell (p := ⟨w.heap.size, 6, none⟩) z).trans q6
  replace z := Nat.lt_of_lt_of_le z hb.size
  replace hB := hB.thru hb hB.size
  clear hb
  by_cases hr : chkRun rp rc rt = 0
  case neg =>
    have hrb : (chkRun rp rc rt != 0) = true := by rw [bne_iff_ne]; exact hr
    have HA : Hid (chkPutD ⟨kind, rp, rc, rt, mp, mc, many⟩ = chkRun rp rc rt) := by show _ = _; unfold chkPutD; rw [if_pos hr]
    clear hr
    go_wp2_with fail
    go_ret
    exact ⟨ret_int HA.out.symm, hB⟩
  have HA : Hid (chkPutD ⟨kind, rp, rc, rt, mp, mc, many⟩ = if anyM mp mc || many != 0 then 1 else 0) := by show _ = _; unfold chkPutD; rw [if_neg (by simpa using hr)]
  rw [hr]
  clear hr
  go_wp2_with fail
  refine (hasAnything_any _ _ mp _ _).mono ?_
  rintro e w2 ⟨rfl, hb⟩
  replace q6 := (hb.cell (p := ⟨w.heap.size, 6, none⟩) z).trans q6
  replace hB := hB.thru hb hB.size
  clear hb
  cases ha : anyM mp mc
  · cases hm : many != 0
    · have HF : Hid (chkPutD ⟨kind, rp, rc, rt, mp, mc, many⟩ = 0) := by show _ = _; rw [HA.out, ha, hm]; rfl
      clear ha
      go_wp2_with fail
      go_ret
      exact ⟨ret_int HF.out.symm, hB⟩
    · have HF : Hid (chkPutD ⟨kind, rp, rc, rt, mp, mc, many⟩ = 1) := by show _ = _; rw [HA.out, ha, hm]; rfl
      clear ha
      go_wp2_with fail
      go_ret
      exact ⟨ret_int HF.out.symm, hB⟩
  · have HF : Hid (chkPutD ⟨kind, rp, rc, rt, mp, mc, many⟩ = 1) := by show _ = _; rw [HA.out, ha]; rfl
    clear ha
    go_wp2_with fail
    go_ret
    exact ⟨ret_int HF.out.symm, hB⟩

set_option maxRecDepth 100000 in
set_option maxHeartbeats 4000000 in
theorem checkTake_any (d : Dd) (p q : Option Addr) (cp cq : Nat) (w : World) (h : DdAt w d p q) (hi : -9223372036854775808 ≤ d.many) (hi' : d.many ≤ 9223372036854775807) :
    Calls Tryz.prog 133 #[ddV d p q cp cq] w fun e w' => e = .returned (.int .i64 (chkTakeD d)) ∧ Below w.heap.size w w' := by
  obtain ⟨kind, rp, rc, rt, mp, mc, many⟩ := d
  obtain ⟨h1, h2, h3, h4, h5⟩ := h
  unfold ddV
  simp only at h1 h2 h3 h4 h5 hi hi' ⊢
  have hB := (Below.refl w.heap.size w).alloc (Nat.le_refl _) (Obj.cells #[.int .i64 kind, .slice p rp.length cp, .int .i64 rc, .string rt, .slice q mp.length cq, .int .i64 mc, .int .i64 many] 64)
  have hc : ∀ i, i < 7 → (w.alloc (Obj.cells #[.int .i64 kind, .slice p rp.length cp, .int .i64 rc, .string rt, .slice q mp.length cq, .int .i64 mc, .int .i64 many] 64)).cell? ⟨w.heap.size, i, none⟩ = #[.int .i64 kind, .slice p rp.length cp, .int .i64 rc, .string rt, .slice q mp.length cq, .int .i64 mc, .int .i64 many][i]? := fun i hi => by simp
  have q1 := hc 1 (by decide)
  have q2 := hc 2 (by decide)
  have q3 := hc 3 (by decide)
  have q4 := hc 4 (by decide)
  have q5 := hc 5 (by decide)
  have q6 := hc 6 (by decide)
  simp only [List.getElem?_toArray, List.getElem?_cons_succ, List.getElem?_cons_zero] at q1 q2 q3 q4 q5 q6
  have z : w.heap.size < (w.alloc (Obj.cells #[.int .i64 kind, .slice p rp.length cp, .int .i64 rc, .string rt, .slice q mp.length cq, .int .i64 mc, .int .i64 many] 64)).heap.size := by simp
  clear hc
  replace h2 := h2.below hB (Nat.le_refl _)
  go_enter Tryz.func133, Tryz.ntmps133
  go_wp2_with fail
  refine (check_any _ _ mp _ _ h4 h2).mono ?_
  rintro e w1 ⟨rfl, hb⟩
  replace q1 := (hb.cell (p := ⟨w.heap.size, 1, none⟩) z).trans q1
  replace q2 := (hb.cell (p := ⟨w.heap.size, 2, none⟩) z).trans q2
  replace q3 := (hb.cell (p := ⟨w.heap.size, 3, none⟩) z).trans q3
  replace q4 := (hb.cell (p := ⟨w.heap.size, 4, none⟩) z).trans q4
  replace q5 := (hb.cell (p := ⟨w.heap.size, 5, none⟩) z).trans q5
  replace q6 := (hb.cell (p := ⟨w.heap.size, 6, none⟩) z).trans q6
  replace z := Nat.lt_of_lt_of_le z hb.size
  replace h2 := h2.below hb (Nat.le_refl _)
  replace hB := hB.thru hb hB.size
  clear hb
  by_cases hr : chk mp mc = 0
  case neg =>
    have hrb : (chk mp mc != 0) = true := by rw [bne_iff_ne]; exact hr
    have HA : Hid (chkTakeD ⟨kind, rp, rc, rt, mp, mc, many⟩ = chk mp mc) := by show _ = _; unfold chkTakeD; rw [if_pos hr]
    clear hr
    go_wp2_with fail
    go_ret
    exact ⟨ret_int HA.out.symm, hB⟩
  have HA : Hid (chkTakeD ⟨kind, rp, rc, rt, mp, mc, many⟩ = if anyM rp rc || decide (rt.size ≠ 0) then 1 else if many < 1 ∨ 60 < many then 3 else (nxt mp mc (many - 1)).2.2) := by show _ = _; unfold chkTakeD; rw [if_neg (by simpa using hr)]
  rw [hr]
  clear hr
  go_wp2_with fail
  refine (hasAnything_any _ _ rp _ _).mono ?_
  rintro e w2 ⟨rfl, hb⟩
  replace q1 := (hb.cell (p := ⟨w.heap.size, 1, none⟩) z).trans q1
  replace q2 := (hb.cell (p := ⟨w.heap.size, 2, none⟩) z).trans q2
  replace q3 := (hb.cell (p := ⟨w.heap.size, 3, none⟩) z).trans q3
  replace q4 := (hb.cell (p := ⟨w.heap.size, 4, none⟩) z).trans q4
  replace q5 := (hb.cell (p := ⟨w.heap.size, 5, none⟩) z).trans q5
  replace q6 := (hb.cell (p := ⟨w.heap.size, 6, none⟩) z).trans q6
  replace z := Nat.lt_of_lt_of_le z hb.size
  replace h2 := h2.below hb (Nat.le_refl _)
  replace hB := hB.thru hb hB.size
  clear hb
  cases ha : anyM rp rc
  case true =>
    have HF : Hid (chkTakeD ⟨kind, rp, rc, rt, mp, mc, many⟩ = 1) := by show _ = _; rw [HA.out, ha]; rfl
    clear ha
    go_wp2_with fail
    go_ret
    exact ⟨ret_int HF.out.symm, hB⟩
  by_cases ht : rt.size = 0
  case neg =>
    have HF : Hid (chkTakeD ⟨kind, rp, rc, rt, mp, mc, many⟩ = 1) := by show _ = _; rw [HA.out, ha, decide_eq_true ht]; rfl
    have hte : rt.toList.isEmpty = false := by rw [isEmpty_size]; simpa using ht
    clear ha
    go_wp2_with fail
    go_ret
    exact ⟨ret_int HF.out.symm, hB⟩
  have hte : rt.toList.isEmpty = true := by rw [isEmpty_size, ht]; rfl
  have HA2 : Hid (chkTakeD ⟨kind, rp, rc, rt, mp, mc, many⟩ = if many < 1 ∨ 60 < many then 3 else (nxt mp mc (many - 1)).2.2) := by show _ = _; rw [HA.out, ha, ht]; rfl
  clear ha ht HA
  by_cases hr : many < 1 ∨ 60 < many
  · have HF : Hid (chkTakeD ⟨kind, rp, rc, rt, mp, mc, many⟩ = 3) := by show _ = _; rw [HA2.out, if_pos hr]
    by_cases hm1 : many < 1
    · have hd : decide (many < 1) = true := decide_eq_true hm1
      clear hr
      go_wp2_with fail
      go_ret
      exact ⟨ret_int HF.out.symm, hB⟩
    · have hd : decide (many < 1) = false := decide_eq_false hm1
      have hd2 : decide (many > 60) = true := decide_eq_true (by omega)
      clear hr
      go_wp2_with fail
      go_ret
      exact ⟨ret_int HF.out.symm, hB⟩
  have HF : Hid (chkTakeD ⟨kind, rp, rc, rt, mp, mc, many⟩ = (nxt mp mc (many - 1)).2.2) := by show _ = _; rw [HA2.out, if_neg hr]
  have hd : decide (many < 1) = false := decide_eq_false (by omega)
  have hd2 : decide (many > 60) = false := decide_eq_false (by omega)
  clear HA2
  go_wp2_with fail
  refine (next_any _ _ mp _ _ _ h4 h2).mono ?_
  rintro e w3 ⟨na, nc, rfl, hn, hb⟩
  go_wp2_with fail
  go_ret
  exact ⟨ret_int HF.out.symm, hB.thru (hb.alloc hb.size _) hB.size⟩

set_option maxRecDepth 100000 in
set_option maxHeartbeats 4000000 in
theorem deed_any (d : Dd) (p q : Option Addr) (cp cq : Nat) (w : World) (h : DdAt w d p q) (hi : -9223372036854775808 ≤ d.many) (hi' : d.many ≤ 9223372036854775807) :
    Calls Tryz.prog 49 #[ddV d p q cp cq] w fun e w' => e = .returned (.int .i64 (chkD d)) ∧ Below w.heap.size w w' := by
  have hP := fun (W : World) (hh : DdAt W d p q) => checkPutD_any d p q cp cq W hh
  have hT := fun (W : World) (hh : DdAt W d p q) => checkTake_any d p q cp cq W hh hi hi'
  have HP := hidE hP
  have HT := hidE hT
  clear hP hT
  have HK1 : Hid (d.kind = 1 → chkD d = chkPutD d) := fun e => by unfold chkD; rw [if_pos e]
  have HK2 : Hid (d.kind = 2 → chkD d = chkTakeD d) := fun e => by unfold chkD; rw [if_neg (by omega), if_pos e]
  have HK3 : Hid (d.kind ≠ 1 → d.kind ≠ 2 → chkD d = 7) := fun e f => by unfold chkD; rw [if_neg e, if_neg f]
  generalize chkPutD d = cP at HP HK1
  generalize chkTakeD d = cT at HT HK2
  generalize chkD d = cD at HK1 HK2 HK3 ⊢
  obtain ⟨kind, rp, rc, rt, mp, mc, many⟩ := d
  unfold ddV at HP HT ⊢
  simp only at HP HT HK1 HK2 HK3 ⊢
  have hB := (Below.refl w.heap.size w).alloc (Nat.le_refl _) (Obj.cells #[.int .i64 kind, .slice p rp.length cp, .int .i64 rc, .string rt, .slice q mp.length cq, .int .i64 mc, .int .i64 many] 64)
  replace h := h.below hB
  by_cases h1 : kind = 1
  · subst h1
    have e1 := HK1.out rfl
    subst e1
    go_enter Tryz.func49, Tryz.ntmps49
    go_wp2_with fail
    refine (HP.out _ h).mono ?_
    rintro e w1 ⟨rfl, hb⟩
    go_wp2_with fail
    go_ret
    exact ⟨rfl, hB.thru hb hB.size⟩
  by_cases h2 : kind = 2
  · subst h2
    have e1 := HK2.out rfl
    subst e1
    go_enter Tryz.func49, Tryz.ntmps49
    go_wp2_with fail
    refine (HT.out _ h).mono ?_
    rintro e w1 ⟨rfl, hb⟩
    go_wp2_with fail
    go_ret
    exact ⟨rfl, hB.thru hb hB.size⟩
  · have e1 := HK3.out h1 h2
    subst e1
    have hk1 : (kind == 1) = false := by rw [beq_eq_false_iff_ne]; exact h1
    have hk2 : (kind == 2) = false := by rw [beq_eq_false_iff_ne]; exact h2
    go_enter Tryz.func49, Tryz.ntmps49
    go_wp2_with fail
    go_ret
    exact ⟨rfl, hB⟩
end Go.Proofs.YtnhjebdlcbhkcaeGreat

namespace Go.Proofs.YtnhjebdlcbhkcaeGreat
open Go.RowKit

def nextsL (mp : List (Int × Int)) (mc : Int) (n : Nat) : List Mk := (List.range n).map fun (i : Nat) => (bump mp (i : Int), mc + (i : Int))
theorem nextsL_succ (mp : List (Int × Int)) (mc : Int) (n : Nat) : nextsL mp mc (n + 1) = nextsL mp mc n ++ [(bump mp n, mc + n)] := by
  unfold nextsL; rw [List.range_succ, List.map_append]; rfl
theorem nextsL_len (mp : List (Int × Int)) (mc : Int) (n : Nat) : (nextsL mp mc n).length = n := by unfold nextsL; simp
theorem nextsL_mem {mp : List (Int × Int)} {mc : Int} {n : Nat} {x : Mk} (h : x ∈ nextsL mp mc n) : ∃ i : Nat, i < n ∧ x = (bump mp (i : Int), mc + (i : Int)) := by
  unfold nextsL at h
  obtain ⟨i, hi, rfl⟩ := List.mem_map.1 h
  exact ⟨i, List.mem_range.1 hi, rfl⟩

def putsD (g : List Mk) (d : Dd) : List At := keepG g (atomsR d.rp d.rc d.rt)
def takesD (d : Dd) : List Mk := nextsL d.mp d.mc d.many.toNat
def doD (l : List At) (g : List Mk) (d : Dd) : Option (List At × List Mk) :=
  if d.kind = 1 then (if 300 < (putL l (putsD g d)).length then none else some (putL l (putsD g d), g))
  else if 600 < ((takesD d).foldl insG g).length then none else some (takeL l (takesD d), (takesD d).foldl insG g)
def doAll (l : List At) (g : List Mk) : List Dd → Option (List At × List Mk)
  | [] => some (l, g)
  | d :: ds => (doD l g d).bind fun s => doAll s.1 s.2 ds
def chkDs : List Dd → Int
  | [] => 0
  | d :: ds => if chkD d ≠ 0 then chkD d else chkDs ds
def errAll (l : List At) (g : List Mk) (ds : List Dd) : Int := if chkS l g ≠ 0 then chkS l g else if chkDs ds ≠ 0 then chkDs ds else if (doAll l g ds).isSome then 0 else 2

theorem doAll_append (ds es : List Dd) : ∀ (l : List At) (g : List Mk), doAll l g (ds ++ es) = (doAll l g ds).bind fun s => doAll s.1 s.2 es := by
  induction ds with
  | nil => intro l g; rfl
  | cons d ds ih =>
    intro l g
    simp only [List.cons_append, doAll, Option.bind_assoc]
    congr 1
    funext s
    exact ih s.1 s.2
theorem doAll_snoc {l : List At} {g : List Mk} {ds : List Dd} {k : Nat} (h : k < ds.length) : doAll l g (ds.take (k + 1)) = (doAll l g (ds.take k)).bind fun s => doD s.1 s.2 ds[k] := by
  rw [List.take_succ_eq_append_getElem h, doAll_append]
  congr 1
  funext s
  simp only [doAll]
  cases doD s.1 s.2 ds[k] <;> rfl
theorem doAll_none {l : List At} {g : List Mk} {ds : List Dd} {k : Nat} (h : doAll l g (ds.take k) = none) : doAll l g ds = none := by
  rw [← List.take_append_drop k ds, doAll_append, h]; rfl
theorem chkDs_all {ds : List Dd} (h : chkDs ds = 0) : ∀ d ∈ ds, chkD d = 0 := by
  induction ds with
  | nil => intro d hd; simp at hd
  | cons x ds ih =>
    unfold chkDs at h
    by_cases h0 : chkD x = 0
    · rw [if_neg (by simpa using h0)] at h
      intro d hd
      rcases List.mem_cons.1 hd with rfl | hd
      · exact h0
      · exact ih h d hd
    · rw [if_pos h0] at h; exact absurd h h0
theorem chkDs_drop {ds : List Dd} {k : Nat} (h : k < ds.length) : chkDs (ds.drop k) = if chkD ds[k] ≠ 0 then chkD ds[k] else chkDs (ds.drop (k + 1)) := by
  rw [List.drop_eq_getElem_cons h]; rfl

structure OkS (l : List At) (g : List Mk) : Prop where
  atoms : OkL l
  len : g.length ≤ 600
  each : ∀ x ∈ g, chk x.1 x.2 = 0
  up : Up g
  apart : ∀ x ∈ g, hasMk l x.1 x.2 = false

theorem chkGF_of {l : List At} : ∀ {g : List Mk} {prev : Option Mk}, chkGF l prev g = 0 → (∀ x ∈ g, chk x.1 x.2 = 0 ∧ hasMk l x.1 x.2 = false) ∧ Up g ∧ ∀ y, prev = some y → ∀ x ∈ g, ordM y.1 y.2 x.1 x.2 < 0
  | [], _, _ => ⟨by simp, List.Pairwise.nil, by simp⟩
  | x :: g, prev, h => by
    rw [chkGF_cons] at h
    by_cases h0 : chkGn l prev x = 0
    · rw [if_neg (by simpa using h0)] at h
      obtain ⟨h1, h2, h3⟩ := chkGF_of h
      have hx : chk x.1 x.2 = 0 ∧ hasMk l x.1 x.2 = false ∧ ∀ y, prev = some y → ordM y.1 y.2 x.1 x.2 < 0 := by
        unfold chkGn at h0
        by_cases hc : chk x.1 x.2 = 0
        · rw [if_neg (by simpa using hc)] at h0
          cases hm : hasMk l x.1 x.2
          · rw [hm, Bool.or_false] at h0
            refine ⟨hc, rfl, fun y hy => ?_⟩
            subst hy
            simp only at h0
            by_cases ho : 0 ≤ ordM y.1 y.2 x.1 x.2
            · rw [if_pos (by simpa using ho)] at h0; exact absurd h0 (by decide)
            · omega
          · rw [hm, Bool.or_true, if_pos rfl] at h0; exact absurd h0 (by decide)
        · rw [if_pos hc] at h0; exact absurd h0 hc
      refine ⟨fun y hy => ?_, List.pairwise_cons.2 ⟨fun y hy => h3 x rfl y hy, h2⟩, fun y hy z hz => ?_⟩
      · rcases List.mem_cons.1 hy with rfl | hy
        · exact ⟨hx.1, hx.2.1⟩
        · exact h1 y hy
      · rcases List.mem_cons.1 hz with rfl | hz
        · exact hx.2.2 y hy
        · have e1 := hx.2.2 y hy
          have e2 := h3 x rfl z hz
          exact cmpM.lt_le (a := y) (b := x) (c := z) e1 (Int.le_of_lt e2)
    · rw [if_pos h0] at h; exact absurd h h0

theorem okS_of {l : List At} {g : List Mk} (h : chkS l g = 0) : OkS l g := by
  unfold chkS at h
  by_cases h0 : chkL l = 0
  · rw [if_neg (by simpa using h0)] at h
    by_cases h6 : 600 < g.length
    · rw [if_pos h6] at h; exact absurd h (by decide)
    · rw [if_neg h6] at h
      have := chkGF_of h
      exact ⟨okL_of h0, by omega, fun x hx => (this.1 x hx).1, this.2.1, fun x hx => (this.1 x hx).2⟩
  · rw [if_pos h0] at h; exact absurd h h0
theorem mem_insG {g : List Mk} {m x : Mk} (h : x ∈ insG g m) : x ∈ g ∨ x = m := by
  unfold insG at h
  split at h
  · exact Or.inl h
  · rcases List.mem_append.1 h with h | h
    · exact Or.inl (List.mem_of_mem_take h)
    · rcases List.mem_cons.1 h with h | h
      · exact Or.inr h
      · exact Or.inl (List.mem_of_mem_drop h)
theorem mem_insAll {x : Mk} : ∀ {ms g : List Mk}, x ∈ ms.foldl insG g → x ∈ g ∨ x ∈ ms
  | [], _, h => Or.inl h
  | m :: ms, g, h => by
    rcases mem_insAll (ms := ms) (g := insG g m) h with h | h
    · rcases mem_insG h with h | rfl
      · exact Or.inl h
      · exact Or.inr (List.mem_cons_self ..)
    · exact Or.inr (List.mem_cons_of_mem _ h)

theorem takeL_ok {l : List At} {ms : List Mk} (h : OkL l) : OkL (takeL l ms) := by
  refine ⟨?_, fun x hx => h.each x (List.mem_filter.1 hx).1, h.rise.filter _⟩
  have := List.length_filter_le (fun (x : At) => !hasGone ms x.path x.clock) l
  unfold takeL
  have := h.len
  omega

theorem okTake_of {d : Dd} (hk : d.kind = 2) (h : chkD d = 0) : chk d.mp d.mc = 0 ∧ 1 ≤ d.many ∧ d.many ≤ 60 ∧ ∀ i : Nat, i < d.many.toNat → chk (bump d.mp i) (d.mc + i) = 0 := by
  unfold chkD at h
  rw [if_neg (by omega), if_pos hk] at h
  unfold chkTakeD at h
  by_cases h0 : chk d.mp d.mc = 0
  · rw [if_neg (by simpa using h0)] at h
    split at h
    · exact absurd h (by decide)
    · split at h
      · exact absurd h (by decide)
      · rename_i h1 h2
        have h3 : chk (bump d.mp (d.many - 1)) (d.mc + (d.many - 1)) = 0 := by
          unfold nxt at h
          rw [if_neg (by simpa using h0), if_neg (by omega)] at h
          by_cases h4 : chk (bump d.mp (d.many - 1)) (d.mc + (d.many - 1)) = 0
          · exact h4
          · rw [if_pos h4] at h; exact absurd h (by decide)
        exact ⟨h0, by omega, by omega, fun i hi => chk_bump h0 h3 (by omega) (by omega)⟩
  · rw [if_pos h0] at h; exact absurd h h0
theorem okPut_of {d : Dd} (hk : d.kind = 1) (h : chkD d = 0) : chkRun d.rp d.rc d.rt = 0 := by
  unfold chkD at h
  rw [if_pos hk] at h
  unfold chkPutD at h
  by_cases h0 : chkRun d.rp d.rc d.rt = 0
  · exact h0
  · rw [if_pos h0] at h; exact absurd h h0
theorem kind_of {d : Dd} (h : chkD d = 0) : d.kind = 1 ∨ d.kind = 2 := by
  unfold chkD at h
  split at h
  · left; assumption
  · split at h
    · right; assumption
    · exact absurd h (by decide)

theorem hasMk_false {l : List At} {p : List (Int × Int)} {c : Int} : hasMk l p c = false ↔ ∀ x ∈ l, ordM x.path x.clock p c ≠ 0 := by
  unfold hasMk; simp

theorem doD_ok {l l' : List At} {g g' : List Mk} {d : Dd} (h : OkS l g) (hc : chkD d = 0) (hd : doD l g d = some (l', g')) : OkS l' g' := by
  unfold doD at hd
  by_cases hk : d.kind = 1
  · rw [if_pos hk] at hd
    have hR := atomsR_ok (okRun_of (okPut_of hk hc))
    split at hd
    · simp at hd
    · rename_i hn
      simp only [Option.some.injEq, Prod.mk.injEq] at hd
      obtain ⟨rfl, rfl⟩ := hd
      refine ⟨putL_ok h.atoms (keepG_ok hR) (by unfold putsD at hn ⊢; omega), h.len, h.each, h.up, fun x hx => ?_⟩
      rw [hasMk_false]
      intro z hz h0
      have hz' := ((putL_least h.atoms.rise (putsD g d)).2 z).1 hz
      rcases List.mem_append.1 hz'.1 with hz1 | hz1
      · exact hasMk_false.1 (h.apart x hx) z hz1 h0
      · obtain ⟨_, hz2⟩ := List.mem_filter.1 hz1
        have : goneA g z = true := by
          unfold goneA hasGone
          rw [List.any_eq_true]
          refine ⟨x, hx, ?_⟩
          have := cmpM.anti (z.path, z.clock) x
          simp at this ⊢
          omega
        rw [this] at hz2
        simp at hz2
  · have hk2 : d.kind = 2 := by rcases kind_of hc with h | h <;> omega
    rw [if_neg hk] at hd
    obtain ⟨h0, _, _, hn⟩ := okTake_of hk2 hc
    split at hd
    · simp at hd
    · rename_i hl
      simp only [Option.some.injEq, Prod.mk.injEq] at hd
      obtain ⟨rfl, rfl⟩ := hd
      refine ⟨takeL_ok h.atoms, by omega, fun x hx => ?_, insAll_up h.up _, fun x hx => ?_⟩
      · rcases mem_insAll hx with hx | hx
        · exact h.each x hx
        · obtain ⟨i, hi, rfl⟩ := nextsL_mem hx
          exact hn i hi
      · rw [hasMk_false]
        intro z hz hz0
        obtain ⟨hz1, hz2⟩ := List.mem_filter.1 hz
        rcases mem_insAll hx with hx | hx
        · exact hasMk_false.1 (h.apart x hx) z hz1 hz0
        · have : hasGone (takesD d) z.path z.clock = true := by
            unfold hasGone
            rw [List.any_eq_true]
            refine ⟨x, hx, ?_⟩
            have := (cmpM.anti (z.path, z.clock) x)
            simp at this ⊢
            omega
          rw [this] at hz2
          simp at hz2
end Go.Proofs.YtnhjebdlcbhkcaeGreat
