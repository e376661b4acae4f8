/- SameRun and SameRuns of what is the same. -/
import Derived.Test.YtnhjebdlcbhkcacGreatEach
import Derived.Test.YtnhjebdlcbhkcacGreatPutLe
import Derived.Test.YtnhjebdlcbhkcacGreatDoD
import Derived.Test.YtnhjebdlcbhkcacGreatNextOf
import Derived.Test.YtnhjebdlcbhkcacGreatMarksOf
import Derived.Test.YtnhjebdlcbhkcacGreatPutStep
import Derived.Test.YtnhjebdlcbhkcacGreatAtomCk
namespace Go.Proofs.YtnhjebdlcbhkcacGreat
open Go.RowKit

set_option maxRecDepth 100000 in
set_option maxHeartbeats 2000000 in
theorem sameRun_true (a a' : Option Addr) (cap cap' : Nat) (x : Rn) (w : World) (hl : x.path.length ≤ maxLen) (h : StepsAt w a x.path) (h' : StepsAt w a' x.path) :
    Calls Tryz.prog 63 #[.agg #[.slice a x.path.length cap, .int .i64 x.clock, .string x.text], .agg #[.slice a' x.path.length cap', .int .i64 x.clock, .string x.text]] w fun e w' => e = .returned (.bool true) ∧ Below w.heap.size w w' := by
  have hz : ordM x.path x.clock x.path x.clock = 0 := cmpM.refl (x.path, x.clock)
  have hb0 := ((Below.refl w.heap.size w).alloc (Nat.le_refl _) (Obj.cells #[.slice a x.path.length cap, .int .i64 x.clock, .string x.text] 48)).alloc (by simp) (Obj.cells #[.slice a' x.path.length cap', .int .i64 x.clock, .string x.text] 48)
  have HZ := hidE hz
  clear hz
  go_enter Tryz.func63, Tryz.ntmps63
  go_wp2_with (go_at_call 43; refine (sameMark_n _ _ _ _ _ _ x.path x.path _ _ _ rfl rfl hl hl (by exact h.below hb0 (Nat.le_refl _)) (by exact h'.below hb0 (Nat.le_refl _))).mono ?_; rintro e w3 ⟨rfl, hb3⟩; rw [HZ.out])
  go_ret
  exact ⟨rfl, hb0.thru hb3 hb0.size⟩

set_option maxRecDepth 100000 in
set_option maxHeartbeats 2000000 in
theorem sameRuns_true (a a' : Option Addr) (cap cap' : Nat) (xs : List Rn) (w : World) (hl : xs.length ≤ maxLen) (h : RunsAt w a xs) (h' : RunsAt w a' xs) :
    Calls Tryz.prog 60 #[.slice a xs.length cap, .slice a' xs.length cap'] w fun e w' => e = .returned (.bool true) ∧ Below w.heap.size w w' := by
  unfold maxLen at hl
  go_enter Tryz.func60, Tryz.ntmps60
  go_wp2
  go_loopw [5] (fun i wr => ∃ k : Nat, k ≤ xs.length ∧ i = .int .i64 k ∧ Below w.heap.size w wr) (fun i _ => xs.length - (intOf i).toNat)
  case atStart => exact ⟨0, Nat.zero_le _, rfl, Below.refl _ _⟩
  case round =>
    obtain ⟨k, hk, rfl, hb⟩ := hrel
    by_cases hlt : k < xs.length
    · have hi1 : (k : Int) < xs.length := by omega
      rcases h.below hb (Nat.le_refl _) with hs | ⟨ab, ao, rfl, hab, hc⟩
      · simp [hs] at hlt
      rcases h'.below hb (Nat.le_refl _) with hs | ⟨bb, bo, rfl, hbb, hd⟩
      · simp [hs] at hlt
      obtain ⟨p, cp, c0, c1, c2, hst, hle, _⟩ := hc k hlt
      obtain ⟨p', cp', d0, d1, d2, hst', _⟩ := hd k hlt
      clear hc hd h h'
      generalize xs[k] = x at *
      have k0 := cell_regrown c0
      have k1 := cell_regrown c1
      have k2 := cell_regrown c2
      have k3 := cell_regrown d0
      have k4 := cell_regrown d1
      have k5 := cell_regrown d2
      have S1 := hidE (fun d os => hst.below (below_regrown wr d os) (Nat.le_refl _))
      have S2 := hidE (fun d os => hst'.below (below_regrown wr d os) (Nat.le_refl _))
      clear hst hst' c0 c1 c2 d0 d1 d2
      go_upto_region 6 with fail
      refine wp_region_quiet_below (by kernel_rfl) (by kernel_rfl) ?_
      repeat (first | go_big_quiet_step ((go_at_call 63; exact Calls.regrown_of (sameRun_true _ _ _ _ x _ hle (S1.out _ _) (S2.out _ _)))) | quiet_step ((go_at_call 63; exact Calls.regrown_of (sameRun_true _ _ _ _ x _ hle (S1.out _ _) (S2.out _ _)))))
      refine wpQuiet_nil ?_
      intro W2 hw'
      obtain ⟨⟨dq, osq⟩, hw''⟩ := hw'
      have hb2 : Below wr.heap.size wr W2 := by rw [hw'']; exact below_regrown wr dq osq
      clear hw''
      go_wp2
      go_roundw
      case rel => exact ⟨k + 1, by omega, by go_num, hb.thru hb2 hb.size⟩
      case measure => simp [intOf]; omega
    · go_wp2
      go_ret
      exact ⟨rfl, hb⟩
end Go.Proofs.YtnhjebdlcbhkcacGreat

namespace Go.Proofs.YtnhjebdlcbhkcacGreat
open Go.RowKit

theorem none_any (l : List (Int × Int)) (c : Int) : (l.length == 0 && c == 0) = !anyM l c := by
  unfold anyM
  cases l with
  | nil => simp [bne]
  | cons x l => simp

set_option maxRecDepth 100000 in
set_option maxHeartbeats 4000000 in
theorem checkDeed_any (d : Dd) (p q : Option Addr) (cp cq : Nat) (w : World) (h : DdAt w d p q) (hi : -9223372036854775808 ≤ d.many) (hi' : d.many ≤ 9223372036854775807) :
    Calls Tryz.prog 58 #[ddV d p q cp cq] w fun e w' => e = .returned (.int .i64 (chkD d)) ∧ Below w.heap.size w w' := by
  obtain ⟨kind, rp, rc, rt, mp, mc, many⟩ := d
  obtain ⟨h1, h2, h3, h4, h5⟩ := h
  unfold ddV
  simp only at h1 h2 h3 h4 h5 hi hi' ⊢
  have hB := (Below.refl w.heap.size w).alloc (Nat.le_refl _) (Obj.cells #[.int .i64 kind, .slice p rp.length cp, .int .i64 rc, .string rt, .slice q mp.length cq, .int .i64 mc, .int .i64 many] 50)
  have hc : ∀ i, i < 7 → (w.alloc (Obj.cells #[.int .i64 kind, .slice p rp.length cp, .int .i64 rc, .string rt, .slice q mp.length cq, .int .i64 mc, .int .i64 many] 50)).cell? ⟨w.heap.size, i, none⟩ = #[.int .i64 kind, .slice p rp.length cp, .int .i64 rc, .string rt, .slice q mp.length cq, .int .i64 mc, .int .i64 many][i]? := fun i hi => by simp
  have q0 := hc 0 (by decide)
  have q1 := hc 1 (by decide)
  have q2 := hc 2 (by decide)
  have q3 := hc 3 (by decide)
  have q4 := hc 4 (by decide)
  have q5 := hc 5 (by decide)
  have q6 := hc 6 (by decide)
  simp only [List.getElem?_toArray, List.getElem?_cons_succ, List.getElem?_cons_zero] at q0 q1 q2 q3 q4 q5 q6
  have z : w.heap.size < (w.alloc (Obj.cells #[.int .i64 kind, .slice p rp.length cp, .int .i64 rc, .string rt, .slice q mp.length cq, .int .i64 mc, .int .i64 many] 50)).heap.size := by simp
  clear hc
  replace h1 := h1.below hB (Nat.le_refl _)
  replace h2 := h2.below hB (Nat.le_refl _)
  have HC : Hid (∀ n, (if kind = 1 then chkPutD ⟨kind, rp, rc, rt, mp, mc, many⟩ else if kind = 2 then chkTakeD ⟨kind, rp, rc, rt, mp, mc, many⟩ else 7) = n → chkD ⟨kind, rp, rc, rt, mp, mc, many⟩ = n) := fun n e => e
  generalize chkD ⟨kind, rp, rc, rt, mp, mc, many⟩ = cD at HC ⊢
  go_enter Tryz.func58, Tryz.ntmps58
  go_upto_region 1 with fail
  generalize w.alloc (Obj.cells #[.int .i64 kind, .slice p rp.length cp, .int .i64 rc, .string rt, .slice q mp.length cq, .int .i64 mc, .int .i64 many] 50) = W at hB q0 q1 q2 q3 q4 q5 q6 z h1 h2 ⊢
  generalize hzz : w.heap.size = Z at hB q0 q1 q2 q3 q4 q5 q6 z ⊢
  have HZ := hidE hzz
  clear hzz
  have hZW := Nat.le_of_lt z
  by_cases hk1 : kind = 1
  · subst hk1
    have e1 := HC.out _ (if_pos rfl)
    subst e1
    clear HC
    have HCR := hidE (checkRun_any p cp rp rc rt W h3 h5 h1)
    go_wp2_with fail
    refine HCR.out.mono ?_
    rintro e w1 ⟨rfl, hb⟩
    replace q4 := (hb.cell (p := ⟨Z, 4, none⟩) z).trans q4
    replace q5 := (hb.cell (p := ⟨Z, 5, none⟩) z).trans q5
    replace q6 := (hb.cell (p := ⟨Z, 6, none⟩) z).trans q6
    replace z := Nat.lt_of_lt_of_le z hb.size
    replace hB := hB.thru hb hZW
    clear hb HCR
    by_cases hr : chkRun rp rc rt = 0
    case neg =>
      have hrb : (chkRun rp rc rt == 0) = false := by rw [beq_eq_false_iff_ne]; exact hr
      have HA : Hid (chkPutD ⟨1, rp, rc, rt, mp, mc, many⟩ = chkRun rp rc rt) := by show _ = _; unfold chkPutD; rw [if_pos hr]
      clear hr
      go_wp2_with fail
      go_ret
      rw [HZ.out]
      exact ⟨ret_int HA.out.symm, hB⟩
    have HA : Hid (chkPutD ⟨1, rp, rc, rt, mp, mc, many⟩ = if anyM mp mc || many != 0 then 1 else 0) := by show _ = _; unfold chkPutD; rw [if_neg (by simpa using hr)]
    rw [hr]
    clear hr
    have HIN := hidE (show Calls Tryz.prog 94 #[.agg #[.slice q mp.length cq, .int .i64 mc]] w1 fun e w' => e = .returned (.bool (!anyM mp mc)) ∧ Below w1.heap.size w1 w' from by have := isNone_any q cq mp.length mc w1; rw [none_any] at this; exact this)
    go_wp2_with fail
    refine HIN.out.mono ?_
    rintro e w2 ⟨rfl, hb⟩
    replace q6 := (hb.cell (p := ⟨Z, 6, none⟩) z).trans q6
    replace hB := hB.thru hb (Nat.le_of_lt z)
    clear hb HIN
    cases ha : anyM mp mc
    · cases hm : many != 0
      · have HF : Hid (chkPutD ⟨1, rp, rc, rt, mp, mc, many⟩ = 0) := by show _ = _; rw [HA.out, ha, hm]; rfl
        clear ha
        go_wp2_with fail
        go_ret
        rw [HZ.out]
        exact ⟨ret_int HF.out.symm, hB⟩
      · have HF : Hid (chkPutD ⟨1, rp, rc, rt, mp, mc, many⟩ = 1) := by show _ = _; rw [HA.out, ha, hm]; rfl
        clear ha
        go_wp2_with fail
        go_ret
        rw [HZ.out]
        exact ⟨ret_int HF.out.symm, hB⟩
    · have HF : Hid (chkPutD ⟨1, rp, rc, rt, mp, mc, many⟩ = 1) := by show _ = _; rw [HA.out, ha]; rfl
      clear ha
      go_wp2_with fail
      go_ret
      rw [HZ.out]
      exact ⟨ret_int HF.out.symm, hB⟩
  have hkb : (kind == 1) = false := by rw [beq_eq_false_iff_ne]; exact hk1
  by_cases hk2 : kind = 2
  case neg =>
    have hkb2 : (kind != 2) = true := by rw [bne_iff_ne]; exact hk2
    have e1 := HC.out _ (by rw [if_neg hk1, if_neg hk2])
    subst e1
    go_wp2_with fail
    go_ret
    rw [HZ.out]
    exact ⟨rfl, hB⟩
  subst hk2
  have e1 := HC.out _ (by rw [if_neg hk1, if_pos rfl])
  subst e1
  clear HC hk1
  have HCM := hidE (checkMark_any q cq mp mc W h4 h2)
  go_wp2_with fail
  refine HCM.out.mono ?_
  rintro e w1 ⟨rfl, hb⟩
  replace q1 := (hb.cell (p := ⟨Z, 1, none⟩) z).trans q1
  replace q2 := (hb.cell (p := ⟨Z, 2, none⟩) z).trans q2
  replace q3 := (hb.cell (p := ⟨Z, 3, none⟩) z).trans q3
  replace q4 := (hb.cell (p := ⟨Z, 4, none⟩) z).trans q4
  replace q5 := (hb.cell (p := ⟨Z, 5, none⟩) z).trans q5
  replace q6 := (hb.cell (p := ⟨Z, 6, none⟩) z).trans q6
  replace h2 := h2.below hb (Nat.le_refl _)
  replace hB := hB.thru hb hZW
  replace z := Nat.lt_of_lt_of_le z hb.size
  clear hb HCM q0 hZW
  by_cases hr : chk mp mc = 0
  case neg =>
    have hrb : (chk mp mc != 0) = true := by rw [bne_iff_ne]; exact hr
    have HA : Hid (chkTakeD ⟨2, rp, rc, rt, mp, mc, many⟩ = chk mp mc) := by show _ = _; unfold chkTakeD; rw [if_pos hr]
    clear hr
    go_wp2_with fail
    go_ret
    rw [HZ.out]
    exact ⟨ret_int HA.out.symm, hB⟩
  have HA : Hid (chkTakeD ⟨2, rp, rc, rt, mp, mc, many⟩ = if anyM rp rc || decide (rt.size ≠ 0) then 1 else if many < 1 ∨ 60 < many then 3 else (nxt mp mc (many - 1)).2.2) := by show _ = _; unfold chkTakeD; rw [if_neg (by simpa using hr)]
  rw [hr]
  clear hr
  have HIN := hidE (show Calls Tryz.prog 94 #[.agg #[.slice p rp.length cp, .int .i64 rc]] w1 fun e w' => e = .returned (.bool (!anyM rp rc)) ∧ Below w1.heap.size w1 w' from by have := isNone_any p cp rp.length rc w1; rw [none_any] at this; exact this)
  go_wp2_with fail
  refine HIN.out.mono ?_
  rintro e w2 ⟨rfl, hb⟩
  replace q3 := (hb.cell (p := ⟨Z, 3, none⟩) z).trans q3
  replace q4 := (hb.cell (p := ⟨Z, 4, none⟩) z).trans q4
  replace q5 := (hb.cell (p := ⟨Z, 5, none⟩) z).trans q5
  replace q6 := (hb.cell (p := ⟨Z, 6, none⟩) z).trans q6
  replace h2 := h2.below hb (Nat.le_refl _)
  replace hB := hB.thru hb (Nat.le_of_lt z)
  replace z := Nat.lt_of_lt_of_le z hb.size
  clear hb HIN q1 q2
  cases ha : anyM rp rc
  case true =>
    have HF : Hid (chkTakeD ⟨2, rp, rc, rt, mp, mc, many⟩ = 1) := by show _ = _; rw [HA.out, ha]; rfl
    clear ha
    go_wp2_with fail
    go_ret
    rw [HZ.out]
    exact ⟨ret_int HF.out.symm, hB⟩
  by_cases ht : rt.size = 0
  case neg =>
    have HF : Hid (chkTakeD ⟨2, rp, rc, rt, mp, mc, many⟩ = 1) := by show _ = _; rw [HA.out, ha, decide_eq_true ht]; rfl
    have hte : rt.toList.isEmpty = false := by rw [isEmpty_size]; simpa using ht
    clear ha
    go_wp2_with fail
    go_ret
    rw [HZ.out]
    exact ⟨ret_int HF.out.symm, hB⟩
  have hte : rt.toList.isEmpty = true := by rw [isEmpty_size, ht]; rfl
  have HA2 : Hid (chkTakeD ⟨2, rp, rc, rt, mp, mc, many⟩ = if many < 1 ∨ 60 < many then 3 else (nxt mp mc (many - 1)).2.2) := by show _ = _; rw [HA.out, ha, ht]; rfl
  clear ha ht HA
  have HBT := hidE (between_any many 1 60)
  by_cases hr : many < 1 ∨ 60 < many
  · have HF : Hid (chkTakeD ⟨2, rp, rc, rt, mp, mc, many⟩ = 3) := by show _ = _; rw [HA2.out, if_pos hr]
    have hin : inB many 1 60 = false := by unfold inB; simp; omega
    rw [hin] at HBT
    clear hin hr
    go_wp2_with fail
    refine (HBT.out w2).mono ?_
    rintro e w3 ⟨rfl, rfl⟩
    go_wp2_with fail
    go_ret
    rw [HZ.out]
    exact ⟨ret_int HF.out.symm, hB⟩
  have HF : Hid (chkTakeD ⟨2, rp, rc, rt, mp, mc, many⟩ = (nxt mp mc (many - 1)).2.2) := by show _ = _; rw [HA2.out, if_neg hr]
  have hin : inB many 1 60 = true := by unfold inB; simp; omega
  rw [hin] at HBT
  clear hin HA2
  go_wp2_with fail
  refine (HBT.out w2).mono ?_
  rintro e w3 ⟨rfl, hw⟩
  subst hw
  have hsub : IntKind.i64.wrap (many - 1) = many - 1 := by rw [IntKind.wrap_i64] <;> omega
  have HNX := hidE (nextOf_any q cq mp mc (many - 1) w3 h4 h2)
  go_wp2_with fail
  refine HNX.out.mono ?_
  rintro e w4 ⟨na, nc, rfl, _, hb⟩
  go_wp2_with fail
  go_ret
  rw [HZ.out]
  exact ⟨ret_int HF.out.symm, hB.thru hb (Nat.le_of_lt z)⟩
end Go.Proofs.YtnhjebdlcbhkcacGreat

namespace Go.Proofs.YtnhjebdlcbhkcacGreat
open Go.RowKit

/-- the atoms when the first k signs of a run have been put -/
def putTo (l : List At) (g : List Mk) (d : Dd) (k : Nat) : List At := putL l (keepG g ((atomsR d.rp d.rc d.rt).take k))
theorem putTo_zero (l : List At) (g : List Mk) (d : Dd) : putTo l g d 0 = l := by unfold putTo keepG; simp [putL]
theorem putTo_all (l : List At) (g : List Mk) (d : Dd) : putTo l g d d.rt.size = putL l (putsD g d) := by
  unfold putTo putsD
  rw [List.take_of_length_le (by rw [atomsR_len]; exact Nat.le_refl _)]
theorem putL_snoc (l m : List At) (x : At) : putL l (m ++ [x]) = putA x (putL l m) false := by unfold putL; rw [List.foldl_append]; rfl
theorem putTo_gone {l : List At} {g : List Mk} {d : Dd} {k : Nat} (h : k < (atomsR d.rp d.rc d.rt).length) (hg : goneA g (atomsR d.rp d.rc d.rt)[k] = true) : putTo l g d (k + 1) = putTo l g d k := by
  unfold putTo
  rw [keepG_take h, if_pos hg, List.append_nil]
theorem putTo_put {l : List At} {g : List Mk} {d : Dd} {k : Nat} (h : k < (atomsR d.rp d.rc d.rt).length) (hg : goneA g (atomsR d.rp d.rc d.rt)[k] = false) : putTo l g d (k + 1) = putA (atomsR d.rp d.rc d.rt)[k] (putTo l g d k) false := by
  unfold putTo
  rw [keepG_take h, if_neg (by simp [hg]), putL_snoc]
theorem putTo_len {l : List At} {g : List Mk} {d : Dd} {k : Nat} : (putTo l g d k).length ≤ l.length + k := by
  unfold putTo
  have h1 := putL_len l (keepG g ((atomsR d.rp d.rc d.rt).take k)) _ (Nat.le_refl _)
  rw [List.take_length] at h1
  have h2 : (keepG g ((atomsR d.rp d.rc d.rt).take k)).length ≤ ((atomsR d.rp d.rc d.rt).take k).length := List.length_filter_le _ _
  have h3 : ((atomsR d.rp d.rc d.rt).take k).length ≤ k := by simp; omega
  omega

/-- what is gone when the first k marks have been taken -/
def goneTo (g : List Mk) (d : Dd) (k : Nat) : List Mk := ((takesD d).take k).foldl insG g
theorem goneTo_succ {g : List Mk} {d : Dd} {k : Nat} (h : k < (takesD d).length) : goneTo g d (k + 1) = insG (goneTo g d k) (takesD d)[k] := insAll_take h
theorem goneTo_all (g : List Mk) (d : Dd) : goneTo g d (takesD d).length = (takesD d).foldl insG g := by unfold goneTo; rw [List.take_length]
theorem goneTo_len {g : List Mk} {d : Dd} {k : Nat} : (goneTo g d k).length ≤ g.length + k := by
  unfold goneTo
  have h1 := insAll_len ((takesD d).take k) g
  have h3 : ((takesD d).take k).length ≤ k := by simp; omega
  omega
end Go.Proofs.YtnhjebdlcbhkcacGreat

namespace Go.Proofs.YtnhjebdlcbhkcacGreat
open Go.RowKit

/-- all cells of the block are slices -/
def BoxOf (w : World) (Z : Nat) : Prop := ∀ o v, w.cell? ⟨Z, o, none⟩ = some v → ∃ a n c, v = .slice a n c

theorem BoxOf.of {w : World} {Z : Nat} {T : TypeId} {a b : Option Addr} {n m c d : Nat} (h : w.heap[Z]? = some (Obj.cells #[.slice a n c, .slice b m d] T)) : BoxOf w Z := by
  intro o v hv
  match o with
  | 0 => simp [World.cell?, h] at hv; exact ⟨_, _, _, hv.symm⟩
  | 1 => simp [World.cell?, h] at hv; exact ⟨_, _, _, hv.symm⟩
  | o + 2 => simp [World.cell?, h] at hv

theorem StepsAt.setBox {w : World} {Z o : Nat} {u : Value} {p : Option Addr} {l : List (Int × Int)} (h : StepsAt w p l) (hZ : BoxOf w Z) : StepsAt (w.setCell ⟨Z, o, none⟩ u) p l := by
  rcases h with h | ⟨b, off, rfl, hlt, hc⟩
  · exact Or.inl h
  · by_cases hl : l = []
    · exact Or.inl hl
    have hb : Z ≠ b := by
      intro e
      subst e
      obtain ⟨c0, _⟩ := hc 0 (List.length_pos_iff.2 hl)
      obtain ⟨a, n, c, e⟩ := hZ _ _ c0
      cases e
    refine Or.inr ⟨b, off, rfl, by simpa [World.setCell] using hlt, fun i hi => ?_⟩
    have h0 := hc i hi
    exact ⟨(World.cell?_setCell_other _ _ _ _ (by simp)).trans h0.1, (World.cell?_setCell_other _ _ _ _ (by simp)).trans h0.2⟩

theorem MarksAt.setBox {w : World} {Z o : Nat} {u : Value} {p : Option Addr} {g : List (List (Int × Int) × Int)} (h : MarksAt w p g) (hZ : BoxOf w Z) : MarksAt (w.setCell ⟨Z, o, none⟩ u) p g := by
  rcases h with h | ⟨b, off, rfl, hlt, hc⟩
  · exact Or.inl h
  · by_cases hl : g = []
    · exact Or.inl hl
    have hb : Z ≠ b := by
      intro e
      subst e
      obtain ⟨_, _, _, c1, _⟩ := hc 0 (List.length_pos_iff.2 hl)
      obtain ⟨a, n, c, e⟩ := hZ _ _ c1
      cases e
    refine Or.inr ⟨b, off, rfl, by simpa [World.setCell] using hlt, fun i hi => ?_⟩
    obtain ⟨p', cap, h1, h2, h3, h4⟩ := hc i hi
    exact ⟨p', cap, (World.cell?_setCell_other _ _ _ _ (by simp)).trans h1, (World.cell?_setCell_other _ _ _ _ (by simp)).trans h2, h3.setBox hZ, h4⟩

theorem AtomsAt.setBox {w : World} {Z o : Nat} {u : Value} {p : Option Addr} {l : List At} (h : AtomsAt w p l) (hZ : BoxOf w Z) : AtomsAt (w.setCell ⟨Z, o, none⟩ u) p l := by
  rcases h with h | ⟨b, off, rfl, hlt, hc⟩
  · exact Or.inl h
  · by_cases hl : l = []
    · exact Or.inl hl
    have hb : Z ≠ b := by
      intro e
      subst e
      obtain ⟨_, _, _, c1, _⟩ := hc 0 (List.length_pos_iff.2 hl)
      obtain ⟨a, n, c, e⟩ := hZ _ _ c1
      cases e
    refine Or.inr ⟨b, off, rfl, by simpa [World.setCell] using hlt, fun i hi => ?_⟩
    obtain ⟨p', cap, h1, h2, h3, h4, h5⟩ := hc i hi
    exact ⟨p', cap, (World.cell?_setCell_other _ _ _ _ (by simp)).trans h1, (World.cell?_setCell_other _ _ _ _ (by simp)).trans h2, (World.cell?_setCell_other _ _ _ _ (by simp)).trans h3, h4.setBox hZ, h5⟩
end Go.Proofs.YtnhjebdlcbhkcacGreat
