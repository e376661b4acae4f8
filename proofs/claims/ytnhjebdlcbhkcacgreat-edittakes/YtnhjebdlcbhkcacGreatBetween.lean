/- Contract of mark.checkEnds. -/
import Derived.Test.YtnhjebdlcbhkcacGreatRowC
namespace Go.Proofs.YtnhjebdlcbhkcacGreat
open Go.RowKit

def chkEnd (l : List (Int × Int)) (c : Int) : Int := if l.length = 0 ∧ c = 0 then 0 else chk l c
def ends (l : List (Int × Int)) (c : Int) (m : List (Int × Int)) (d : Int) : Int := orI (chkEnd l c) (chkEnd m d)

theorem boxesE (w : World) (v0 v1 u0 u1 : Value) (T T' T2 : TypeId) : ∃ W, W = ((w.alloc (Obj.cells #[v0, v1] T)).alloc (Obj.cells #[u0, u1] T')).alloc (Obj.cells #[v0, v1, u0, u1] T2) ∧
    W.cell? ⟨w.heap.size + 1 + 1, 0, none⟩ = some v0 ∧ W.cell? ⟨w.heap.size + 1 + 1, 1, none⟩ = some v1 ∧ W.cell? ⟨w.heap.size + 1 + 1, 2, none⟩ = some u0 ∧ W.cell? ⟨w.heap.size + 1 + 1, 3, none⟩ = some u1 ∧ W.heap.size = w.heap.size + 3 ∧ Below w.heap.size w W :=
  ⟨_, rfl, by go_simp, by go_simp, by go_simp, by go_simp, by simp, (((Below.refl _ _).alloc (Nat.le_refl _) _).alloc (by simp) _).alloc (by simp; omega) _⟩

set_option maxHeartbeats 1000000 in
theorem checkEnds_any (a a' : Option Addr) (cap cap' : Nat) (l m : List (Int × Int)) (c d : Int) (w : World) (hl : l.length ≤ maxLen) (hm : m.length ≤ maxLen) (h : StepsAt w a l) (h' : StepsAt w a' m) :
    Calls Tryz.prog 68 #[.agg #[.slice a l.length cap, .int .i64 c], .agg #[.slice a' m.length cap', .int .i64 d]] w fun e w' => e = .returned (.int .i64 (ends l c m d)) ∧ Below w.heap.size w w' := by
  obtain ⟨W, hW, q0, q1, q2, q3, hz, hb0⟩ := boxesE w (.slice a l.length cap) (.int .i64 c) (.slice a' m.length cap') (.int .i64 d) 46 46 46
  have HW := hidE hW
  have HQ := hidE (And.intro q0 (And.intro q1 (And.intro q2 q3)))
  clear hW q0 q1 q2 q3
  go_enter Tryz.func68, Tryz.ntmps68
  go_wp2
  rw [← HW.out]
  obtain ⟨q0, q1, q2, q3⟩ := HQ.out
  clear HW HQ
  have zW : w.heap.size + 1 + 1 < W.heap.size := by omega
  clear hz
  go_loopw [12] (fun i wr => ∃ k : Nat, k ≤ 2 ∧ i = .int .i64 k ∧ (1 ≤ k → chkEnd l c = 0) ∧ (2 ≤ k → chkEnd m d = 0) ∧ Below W.heap.size W wr) (fun i _ => 2 - (intOf i).toNat)
  case atStart => exact ⟨0, by omega, rfl, by omega, by omega, Below.refl _ _⟩
  case round =>
    obtain ⟨k, hk, rfl, k1, k2, hb⟩ := hrel
    have hbw : Below w.heap.size w wr := hb0.thru hb hb0.size
    have p0 := (hb.cell (p := ⟨w.heap.size + 1 + 1, 0, none⟩) zW).trans q0
    have p1 := (hb.cell (p := ⟨w.heap.size + 1 + 1, 1, none⟩) zW).trans q1
    have p2 := (hb.cell (p := ⟨w.heap.size + 1 + 1, 2, none⟩) zW).trans q2
    have p3 := (hb.cell (p := ⟨w.heap.size + 1 + 1, 3, none⟩) zW).trans q3
    have hr := h.below hbw (Nat.le_refl _)
    have hr' := h'.below hbw (Nat.le_refl _)
    have K1 := hidE k1
    have K2 := hidE k2
    clear k1 k2 q0 q1 q2 q3
    rcases (show k = 0 ∨ k = 1 ∨ k = 2 by omega) with rfl | rfl | rfl
    · by_cases hn : l.length = 0 ∧ c = 0
      · have HN : Hid (chkEnd l c = 0) := by show _ = _; unfold chkEnd; rw [if_pos hn]
        obtain ⟨hn0, hc0⟩ := hn
        have hn0' : ((l.length : Int) == 0) = true := by rw [hn0]; rfl
        have hc0' : ((c : Int) == 0) = true := by rw [hc0]; rfl
        clear hn0 hc0
        go_wp2
        go_roundw
        case rel => exact ⟨1, by omega, by go_num, fun _ => HN.out, by omega, hb.alloc hb.size _⟩
        case measure => simp [intOf]
      · have HN : Hid (chkEnd l c = chk l c) := by show _ = _; unfold chkEnd; rw [if_neg hn]
        have hg : (((l.length : Int) == 0) = false ∧ l.length ≠ 0) ∨ ((l.length : Int) == 0) = true ∧ (c == 0) = false := by
          by_cases e : l.length = 0
          · right; exact ⟨by rw [e]; rfl, beq_eq_false_iff_ne.2 (fun e2 => hn ⟨e, e2⟩)⟩
          · left; exact ⟨beq_eq_false_iff_ne.2 (by omega), e⟩
        clear hn
        by_cases hk : chk l c = 0
        · have HK := hidE hk
          clear hk
          rcases hg with ⟨g0, _⟩ | ⟨g0, g1⟩
          all_goals
            go_wp2_with (go_at_call 45; refine (check_any _ _ l _ _ hl (by exact hr.below ((Below.refl _ _).alloc (Nat.le_refl _) _) (Nat.le_refl _))).mono ?_; rintro e w' ⟨rfl, hb1⟩; rw [HK.out])
            go_roundw
            case rel => exact ⟨1, by omega, by go_num, fun _ => HN.out.trans HK.out, by omega, (hb.alloc hb.size _).thru hb1 (by have := hb.size; simp; omega)⟩
            case measure => simp [intOf]
        · have hk' : (chk l c != 0) = true := by rw [bne_iff_ne]; exact hk
          have HK := hidE hk
          clear hk
          rcases hg with ⟨g0, _⟩ | ⟨g0, g1⟩
          all_goals
            go_wp2_with (go_at_call 45; refine (check_any _ _ l _ _ hl (by exact hr.below ((Below.refl _ _).alloc (Nat.le_refl _) _) (Nat.le_refl _))).mono ?_; rintro e w' ⟨rfl, hb1⟩)
            go_ret
            exact ⟨ret_int (by unfold ends orI; rw [HN.out, if_neg HK.out]), (hbw.alloc hbw.size _).thru hb1 (by have := hbw.size; simp; omega)⟩
    · by_cases hn : m.length = 0 ∧ d = 0
      · have HN : Hid (chkEnd m d = 0) := by show _ = _; unfold chkEnd; rw [if_pos hn]
        obtain ⟨hn0, hc0⟩ := hn
        have hn0' : ((m.length : Int) == 0) = true := by rw [hn0]; rfl
        have hc0' : ((d : Int) == 0) = true := by rw [hc0]; rfl
        clear hn0 hc0
        go_wp2
        go_roundw
        case rel => exact ⟨2, by omega, by go_num, fun _ => K1.out (Nat.le_refl _), fun _ => HN.out, hb.alloc hb.size _⟩
        case measure => simp [intOf]
      · have HN : Hid (chkEnd m d = chk m d) := by show _ = _; unfold chkEnd; rw [if_neg hn]
        have hg : (((m.length : Int) == 0) = false ∧ m.length ≠ 0) ∨ ((m.length : Int) == 0) = true ∧ (d == 0) = false := by
          by_cases e : m.length = 0
          · right; exact ⟨by rw [e]; rfl, beq_eq_false_iff_ne.2 (fun e2 => hn ⟨e, e2⟩)⟩
          · left; exact ⟨beq_eq_false_iff_ne.2 (by omega), e⟩
        clear hn
        by_cases hk : chk m d = 0
        · have HK := hidE hk
          clear hk
          rcases hg with ⟨g0, _⟩ | ⟨g0, g1⟩
          all_goals
            go_wp2_with (go_at_call 45; refine (check_any _ _ m _ _ hm (by exact hr'.below ((Below.refl _ _).alloc (Nat.le_refl _) _) (Nat.le_refl _))).mono ?_; rintro e w' ⟨rfl, hb1⟩; rw [HK.out])
            go_roundw
            case rel => exact ⟨2, by omega, by go_num, fun _ => K1.out (Nat.le_refl _), fun _ => HN.out.trans HK.out, (hb.alloc hb.size _).thru hb1 (by have := hb.size; simp; omega)⟩
            case measure => simp [intOf]
        · have hk' : (chk m d != 0) = true := by rw [bne_iff_ne]; exact hk
          have HK := hidE hk
          clear hk
          rcases hg with ⟨g0, _⟩ | ⟨g0, g1⟩
          all_goals
            go_wp2_with (go_at_call 45; refine (check_any _ _ m _ _ hm (by exact hr'.below ((Below.refl _ _).alloc (Nat.le_refl _) _) (Nat.le_refl _))).mono ?_; rintro e w' ⟨rfl, hb1⟩)
            go_ret
            exact ⟨ret_int (by unfold ends orI; rw [if_pos (K1.out (Nat.le_refl _)), HN.out]), (hbw.alloc hbw.size _).thru hb1 (by have := hbw.size; simp; omega)⟩
    · have e1 := K1.out (by omega)
      have e2 := K2.out (by omega)
      have HE : Hid (ends l c m d = 0) := by show _ = _; unfold ends orI; rw [if_pos e1, e2]
      clear e1 e2
      go_wp2
      go_ret
      exact ⟨ret_int HE.out.symm, hbw⟩
end Go.Proofs.YtnhjebdlcbhkcacGreat

namespace Go.Proofs.YtnhjebdlcbhkcacGreat
open Go.RowKit

def argsOk (site clock many : Int) : Bool := inB site 0 4 && inB clock 1 10000 && decide (1 ≤ many) && decide (many ≤ 60) && decide (clock + many - 1 ≤ 10000)
def stateBad (la lb : List (Int × Int)) : Bool := decide (0 < la.length) && decide (0 < lb.length) && decide (0 ≤ ordP la lb)
/-- the errno of Between -/
def btwErr (la : List (Int × Int)) (ca : Int) (lb : List (Int × Int)) (cb site clock many : Int) : Int :=
  if ends la ca lb cb ≠ 0 then ends la ca lb cb else if argsOk site clock many = false then 3 else if stateBad la lb then 4 else if 8 < max la.length lb.length then 2 else 0

def BtwGives (w : World) (la : List (Int × Int)) (ca : Int) (lb : List (Int × Int)) (cb site clock many : Int) (e : Ending) (w' : World) : Prop :=
  Below w.heap.size w w' ∧
  ((btwErr la ca lb cb site clock many ≠ 0 ∧ e = .returned (.tuple #[.slice none 0 0, .int .i64 (btwErr la ca lb cb site clock many)])) ∨
   (btwErr la ca lb cb site clock many = 0 ∧ ∃ O pl r, e = .returned (.tuple #[.slice (some ⟨O, 0, none⟩) many.toNat many.toNat, .int .i64 0]) ∧ MarksAt w' (some ⟨O, 0, none⟩) (rowOf pl r site clock many.toNat) ∧ Cand la lb pl ∧ gapLow pl la site ≤ r ∧ r + many ≤ gapHigh pl lb site + 1))

/-- and the paths of the marks have room -/
def BtwGivesC (w : World) (la : List (Int × Int)) (ca : Int) (lb : List (Int × Int)) (cb site clock many : Int) (e : Ending) (w' : World) : Prop :=
  Below w.heap.size w w' ∧
  ((btwErr la ca lb cb site clock many ≠ 0 ∧ e = .returned (.tuple #[.slice none 0 0, .int .i64 (btwErr la ca lb cb site clock many)])) ∨
   (btwErr la ca lb cb site clock many = 0 ∧ ∃ O pl r, e = .returned (.tuple #[.slice (some ⟨O, 0, none⟩) many.toNat many.toNat, .int .i64 0]) ∧ MarksAt w' (some ⟨O, 0, none⟩) (rowOf pl r site clock many.toNat) ∧ CapsM w' O (rowOf pl r site clock many.toNat) ∧ Cand la lb pl ∧ gapLow pl la site ≤ r ∧ r + many ≤ gapHigh pl lb site + 1))

theorem boxesB (w : World) (v0 v1 u0 u1 m0 : Value) (T T' T2 : TypeId) : ∃ W, W = ((w.alloc (Obj.cells #[v0, v1] T)).alloc (Obj.cells #[u0, u1] T')).alloc (Obj.cells #[m0] T2) ∧
    W.cell? ⟨w.heap.size, 0, none⟩ = some v0 ∧ W.cell? ⟨w.heap.size, 1, none⟩ = some v1 ∧ W.cell? ⟨w.heap.size + 1, 0, none⟩ = some u0 ∧ W.cell? ⟨w.heap.size + 1, 1, none⟩ = some u1 ∧ W.cell? ⟨w.heap.size + 1 + 1, 0, none⟩ = some m0 ∧ W.heap.size = w.heap.size + 3 ∧ Below w.heap.size w W :=
  ⟨_, rfl, by go_simp, by go_simp, by go_simp, by go_simp, by go_simp, by simp, (((Below.refl _ _).alloc (Nat.le_refl _) _).alloc (by simp) _).alloc (by simp; omega) _⟩

/-- the boxes of Between's parameters -/
structure BoxB (w : World) (z : Nat) (a : Option Addr) (n cap : Nat) (c : Int) (a' : Option Addr) (n' cap' : Nat) (d many : Int) : Prop where
  a0 : w.cell? ⟨z, 0, none⟩ = some (.slice a n cap)
  a1 : w.cell? ⟨z, 1, none⟩ = some (.int .i64 c)
  b0 : w.cell? ⟨z + 1, 0, none⟩ = some (.slice a' n' cap')
  b1 : w.cell? ⟨z + 1, 1, none⟩ = some (.int .i64 d)
  m0 : w.cell? ⟨z + 1 + 1, 0, none⟩ = some (.int .i64 many)
  sz : z + 3 ≤ w.heap.size
theorem BoxB.below {w w' : World} {z : Nat} {a : Option Addr} {n cap : Nat} {c : Int} {a' : Option Addr} {n' cap' : Nat} {d many : Int} (h : BoxB w z a n cap c a' n' cap' d many) (hb : Below w.heap.size w w') : BoxB w' z a n cap c a' n' cap' d many := by
  have s := h.sz
  exact ⟨(hb.cell (p := ⟨z, 0, none⟩) (show z < w.heap.size by omega)).trans h.a0, (hb.cell (p := ⟨z, 1, none⟩) (show z < w.heap.size by omega)).trans h.a1, (hb.cell (p := ⟨z + 1, 0, none⟩) (show z + 1 < w.heap.size by omega)).trans h.b0, (hb.cell (p := ⟨z + 1, 1, none⟩) (show z + 1 < w.heap.size by omega)).trans h.b1, (hb.cell (p := ⟨z + 1 + 1, 0, none⟩) (show z + 1 + 1 < w.heap.size by omega)).trans h.m0, Nat.le_trans s hb.size⟩

theorem chkEnd_ok {l : List (Int × Int)} {c : Int} (h : chkEnd l c = 0) : okSteps l = true := by
  unfold chkEnd at h
  split at h
  · rename_i h1; rw [List.eq_nil_of_length_eq_zero h1.1]; rfl
  · exact (chk_ok h).2.2.1
theorem ends_ok {l m : List (Int × Int)} {c d : Int} (h : ends l c m d = 0) : okSteps l = true ∧ okSteps m = true := by
  unfold ends orI at h
  split at h
  · rename_i h1; exact ⟨chkEnd_ok h1, chkEnd_ok h⟩
  · rename_i h1; exact absurd h h1
theorem argsOk_iff {site clock many : Int} (h : argsOk site clock many = true) : 0 ≤ site ∧ site ≤ 4 ∧ 1 ≤ clock ∧ clock + many - 1 ≤ 10000 ∧ 1 ≤ many ∧ many ≤ 60 := by
  simp [argsOk, inB] at h; omega

set_option maxRecDepth 100000 in
set_option maxHeartbeats 2000000 in
theorem between_fnC (a b : Option Addr) (cap cap' : Nat) (la lb : List (Int × Int)) (ca cb site clock many : Int) (w : World) (hla : la.length ≤ maxLen) (hlb : lb.length ≤ maxLen) (hca : la.length ≤ cap) (hcb : lb.length ≤ cap')
   (ha : StepsAt w a la) (hb : StepsAt w b lb) :
    Calls Tryz.prog 37 #[.agg #[.slice a la.length cap, .int .i64 ca], .agg #[.slice b lb.length cap', .int .i64 cb], .int .i64 site, .int .i64 clock, .int .i64 many] w (BtwGivesC w la ca lb cb site clock many) := by
  obtain ⟨W, hW, q0, q1, q2, q3, q4, hz, hb0⟩ := boxesB w (.slice a la.length cap) (.int .i64 ca) (.slice b lb.length cap') (.int .i64 cb) (.int .i64 many) 46 46 3
  have HW := hidE hW
  have BX : BoxB W w.heap.size a la.length cap ca b lb.length cap' cb many := ⟨q0, q1, q2, q3, q4, by omega⟩
  have hz' : w.heap.size ≤ W.heap.size := by omega
  clear hW q0 q1 q2 q3 q4 hz
  by_cases hE : ends la ca lb cb = 0
  · have HE := hidE hE
    clear hE
    go_enter Tryz.func37, Tryz.ntmps37
    go_upto_region 1 with fail
    rw [← HW.out]
    obtain ⟨q0, q1, q2, q3, q4, hz⟩ := id BX
    go_upto_region 4 with (go_at_call 68; refine (checkEnds_any _ _ _ _ la lb _ _ _ hla hlb (by exact ha.below hb0 (Nat.le_refl _)) (by exact hb.below hb0 (Nat.le_refl _))).mono ?_; rintro e W1 ⟨rfl, hb1⟩; rw [HE.out])
    replace BX := BX.below hb1
    replace hb0 := hb0.thru hb1 hb0.size
    clear hb1 HW q0 q1 q2 q3 q4 hz hz'
    obtain ⟨q0, q1, q2, q3, q4, hz⟩ := id BX
    go_cut [44] (fun t wc => t = .bool (!argsOk site clock many) ∧ wc = W1)
    case first =>
      by_cases i1 : inB site 0 4 = true
      · by_cases i2 : inB clock 1 10000 = true
        · have j2 : 1 ≤ clock ∧ clock ≤ 10000 := by simpa [inB] using i2
          by_cases i3 : many < 1
          · go_wp2_with (first | (go_at_call 69; refine (isSite_any _ _).mono ?_; rintro e w' ⟨rfl, rfl⟩) | (go_at_call 70; refine (isClock_any _ _).mono ?_; rintro e w' ⟨rfl, rfl⟩))
            go_meet
            exact ⟨congrArg Value.bool (by unfold argsOk; simp [i1, i2]; omega), rfl⟩
          · by_cases i4 : many > 60
            · go_wp2_with (first | (go_at_call 69; refine (isSite_any _ _).mono ?_; rintro e w' ⟨rfl, rfl⟩) | (go_at_call 70; refine (isClock_any _ _).mono ?_; rintro e w' ⟨rfl, rfl⟩))
              go_meet
              exact ⟨congrArg Value.bool (by unfold argsOk; simp [i1, i2]; omega), rfl⟩
            · have j3 : 1 ≤ many := by omega
              have j4 : many ≤ 60 := by omega
              go_wp2_with (first | (go_at_call 69; refine (isSite_any _ _).mono ?_; rintro e w' ⟨rfl, rfl⟩) | (go_at_call 70; refine (isClock_any _ _).mono ?_; rintro e w' ⟨rfl, rfl⟩))
              go_meet
              refine ⟨congrArg Value.bool ?_, rfl⟩
              unfold argsOk
              rw [i1, i2, decide_eq_true j3, decide_eq_true j4]
              rw [Bool.eq_iff_iff]
              simp [inB]
              omega
        · go_wp2_with (first | (go_at_call 69; refine (isSite_any _ _).mono ?_; rintro e w' ⟨rfl, rfl⟩) | (go_at_call 70; refine (isClock_any _ _).mono ?_; rintro e w' ⟨rfl, rfl⟩))
          go_meet
          exact ⟨congrArg Value.bool (by unfold argsOk; simp [i2]), rfl⟩
      · go_wp2_with (first | (go_at_call 69; refine (isSite_any _ _).mono ?_; rintro e w' ⟨rfl, rfl⟩) | (go_at_call 70; refine (isClock_any _ _).mono ?_; rintro e w' ⟨rfl, rfl⟩))
        go_meet
        exact ⟨congrArg Value.bool (by unfold argsOk; simp [i1]), rfl⟩
    case rest =>
      obtain ⟨rfl, rfl⟩ := hcut
      by_cases hA : argsOk site clock many = true
      · have HA := hidE hA
        rw [hA]
        clear hA
        go_upto_region 6 with fail
        go_cut [62] (fun t we => t = .bool (stateBad la lb) ∧ Below wc.heap.size wc we)
        case first =>
          by_cases i1 : 0 < la.length
          · have j1 : (la.length : Int) > 0 := by omega
            by_cases i2 : 0 < lb.length
            · have j2 : (lb.length : Int) > 0 := by omega
              go_wp2_with (go_at_call 71; refine (orderPaths_any _ _ _ _ la lb _ hla hlb (by exact ha.below hb0 (Nat.le_refl _)) (by exact hb.below hb0 (Nat.le_refl _))).mono ?_; rintro e w' ⟨rfl, hb1⟩)
              go_meet
              refine ⟨congrArg Value.bool ?_, hb1⟩
              unfold stateBad
              rw [decide_eq_true i1, decide_eq_true i2]
              simp
            · have j2 : ¬ ((lb.length : Int) > 0) := by omega
              go_wp2
              go_meet
              exact ⟨congrArg Value.bool (by unfold stateBad; rw [decide_eq_false i2]; simp), Below.refl _ _⟩
          · have j1 : ¬ ((la.length : Int) > 0) := by omega
            go_wp2
            go_meet
            exact ⟨congrArg Value.bool (by unfold stateBad; rw [decide_eq_false i1]; simp), Below.refl _ _⟩
        case rest =>
          obtain ⟨rfl, hb1⟩ := hcut
          clear q0 q1 q2 q3 q4 hz
          replace BX := BX.below hb1
          replace hb0 := hb0.thru hb1 hb0.size
          clear hb1
          obtain ⟨q0, q1, q2, q3, q4, hz⟩ := id BX
          cases hS : stateBad la lb with
          | true =>
            have HS := hidE hS
            clear hS
            go_wp2
            go_ret2
            have he : btwErr la ca lb cb site clock many = 4 := by unfold btwErr; rw [if_neg (by rw [HE.out]; simp), if_neg (by rw [HA.out]; simp), if_pos HS.out]
            refine ⟨hb0, Or.inl ⟨by rw [he]; decide, ?_⟩⟩
            rw [he]; rfl
          | false =>
            have HS := hidE hS
            clear hS
            go_upto_region 8 with fail
            go_cut [70] (fun t we => t = .bool (decide (8 < max la.length lb.length)) ∧ we = wc)
            case first =>
              go_wp2
              all_goals
                go_meet
                refine ⟨congrArg Value.bool ?_, rfl⟩
                rw [Bool.eq_iff_iff]
                simp
                omega
            case rest =>
              obtain ⟨rfl, rfl⟩ := hcut
              by_cases h8 : 8 < max la.length lb.length
              · have H8 := hidE h8
                have h8' : decide (8 < max la.length lb.length) = true := decide_eq_true h8
                rw [h8']
                clear h8 h8'
                go_wp2
                go_ret2
                have he : btwErr la ca lb cb site clock many = 2 := by unfold btwErr; rw [if_neg (by rw [HE.out]; simp), if_neg (by rw [HA.out]; simp), if_neg (by rw [HS.out]; simp), if_pos H8.out]
                refine ⟨hb0, Or.inl ⟨by rw [he]; decide, ?_⟩⟩
                rw [he]; rfl
              · have h8' : decide (8 < max la.length lb.length) = false := decide_eq_false h8
                rw [h8']
                clear h8'
                have he : Hid (btwErr la ca lb cb site clock many = 0) := by show _ = _; unfold btwErr; rw [if_neg (by rw [HE.out]; simp), if_neg (by rw [HA.out]; simp), if_neg (by rw [HS.out]; simp), if_neg h8]
                have hl8 : la.length ≤ 8 := by omega
                have hl8' : lb.length ≤ 8 := by omega
                obtain ⟨oa, ob⟩ := ends_ok HE.out
                obtain ⟨s1, s2, c1, c2, m1, m2⟩ := argsOk_iff HA.out
                clear h8
                have hmf : ∀ (fn : Fn) (fst cpt : Array Value) (w : World), (Instr.makeFunc fn fst cpt).run Tryz.prog w = .ok (.func fn fst cpt) w := fun _ _ _ _ => rfl
                have har := ha.below hb0 (Nat.le_refl _)
                have hbr := hb.below hb0 (Nat.le_refl _)
                go_wp2_with fail
                refine (findGap_any _ _ _ _ (w.heap.size + 1 + 1) la lb site many _ (by omega) (by omega) hca hcb m2 har hbr oa ob (by omega) q4).mono ?_
                rintro e w1 ⟨pl, G, cg, rfl, hroom, hcand, hst, hb1⟩
                have lo1 := gapLow_bd pl site oa
                have hi1 := gapHigh_bd pl site ob
                have hpl : pl.length ≤ 8 := by
                  rcases hcand with ⟨n, hn, rfl⟩ | ⟨n, hn, rfl⟩
                  · rw [beg_length]; omega
                  · rw [beg_length]; omega
                replace BX := BX.below hb1
                replace hb0 := hb0.thru hb1 hb0.size
                clear q0 q1 q2 q3 q4 hz hb1 har hbr
                obtain ⟨q0, q1, q2, q3, q4, hz⟩ := id BX
                generalize hlo : gapLow pl la site = lo at *
                generalize hhi : gapHigh pl lb site = hi at *
                have HG := hidE (And.intro hlo hhi)
                clear hlo hhi
                have p0 : ∀ X, (w1.alloc X).cell? ⟨w.heap.size, 0, none⟩ = some (.slice a la.length cap) := fun X => Lib.cell?_alloc_some _ q0
                have p2 : ∀ X, (w1.alloc X).cell? ⟨w.heap.size + 1, 0, none⟩ = some (.slice b lb.length cap') := fun X => Lib.cell?_alloc_some _ q2
                have p4 : ∀ X, (w1.alloc X).cell? ⟨w.heap.size + 1 + 1, 0, none⟩ = some (.int .i64 many) := fun X => Lib.cell?_alloc_some _ q4
                go_wp2_with fail
                refine (start_any _ _ _ lo hi many _ _ _ (by omega) lo1.2 hi1.1 hi1.2 m1 hroom).mono ?_
                rintro e w2 ⟨⟨r, rfl, r1, r2⟩, hb1⟩
                have zN : w1.heap.size < (w1.alloc (Obj.cells #[.slice (some ⟨G, 0, none⟩) pl.length cg, .int .i64 lo, .int .i64 hi] 105)).heap.size := by simp
                have g0 : w2.cell? ⟨w1.heap.size, 0, none⟩ = some (.slice (some ⟨G, 0, none⟩) pl.length cg) := (hb1.cell (p := ⟨w1.heap.size, 0, none⟩) zN).trans (by go_simp)
                have hb2 : Below w1.heap.size w1 w2 := ((Below.refl _ _).alloc (Nat.le_refl _) _).thru hb1 (by simp)
                have y4 : w2.cell? ⟨w.heap.size + 1 + 1, 0, none⟩ = some (.int .i64 many) := (hb2.cell (p := ⟨w.heap.size + 1 + 1, 0, none⟩) (show w.heap.size + 1 + 1 < w1.heap.size by omega)).trans q4
                replace hst := hst.below hb2 (Nat.le_refl _)
                replace hb0 := hb0.thru hb2 hb0.size
                clear q0 q1 q2 q3 q4 hz hb1 hb2 BX p0 p2 p4 zN
                obtain ⟨mn, rfl⟩ := Int.eq_ofNat_of_zero_le (show 0 ≤ many by omega)
                go_wp2_with fail
                refine (row_any G _ mn pl r site clock _ (by omega) hst (by omega) (by omega) (by omega) (by omega) (by omega)).mono ?_
                rintro e w3 ⟨O, rfl, hmk, hcp, hb1⟩
                go_wp2_with fail
                go_ret2
                refine ⟨hb0.thru hb1 hb0.size, Or.inr ⟨he.out, O, pl, r, ?_, ?_, ?_, hcand, by rw [HG.out.1]; exact r1, by rw [HG.out.2]; exact r2⟩⟩
                · rfl
                · rw [Int.toNat_natCast]; exact hmk
                · rw [Int.toNat_natCast]; exact hcp
      · have hA' : argsOk site clock many = false := by simpa using hA
        have HA := hidE hA'
        rw [hA']
        clear hA hA'
        go_wp2
        go_ret2
        have he : btwErr la ca lb cb site clock many = 3 := by unfold btwErr; rw [if_neg (by rw [HE.out]; simp), if_pos HA.out]
        refine ⟨hb0, Or.inl ⟨by rw [he]; decide, ?_⟩⟩
        rw [he]; rfl
  · have hE' : (ends la ca lb cb != 0) = true := by rw [bne_iff_ne]; exact hE
    have HE := hidE hE
    clear hE
    go_enter Tryz.func37, Tryz.ntmps37
    go_upto_region 1 with fail
    rw [← HW.out]
    obtain ⟨q0, q1, q2, q3, q4, hz⟩ := id BX
    go_wp2_with (go_at_call 68; refine (checkEnds_any _ _ _ _ la lb _ _ _ hla hlb (by exact ha.below hb0 (Nat.le_refl _)) (by exact hb.below hb0 (Nat.le_refl _))).mono ?_; rintro e W1 ⟨rfl, hb1⟩)
    go_ret2
    have he : btwErr la ca lb cb site clock many = ends la ca lb cb := by unfold btwErr; rw [if_pos HE.out]
    refine ⟨hb0.thru hb1 hb0.size, Or.inl ⟨by rw [he]; exact HE.out, ?_⟩⟩
    rw [he]; rfl

theorem between_fn (a b : Option Addr) (cap cap' : Nat) (la lb : List (Int × Int)) (ca cb site clock many : Int) (w : World) (hla : la.length ≤ maxLen) (hlb : lb.length ≤ maxLen) (hca : la.length ≤ cap) (hcb : lb.length ≤ cap')
   (ha : StepsAt w a la) (hb : StepsAt w b lb) :
    Calls Tryz.prog 37 #[.agg #[.slice a la.length cap, .int .i64 ca], .agg #[.slice b lb.length cap', .int .i64 cb], .int .i64 site, .int .i64 clock, .int .i64 many] w (BtwGives w la ca lb cb site clock many) := by
  refine (between_fnC a b cap cap' la lb ca cb site clock many w hla hlb hca hcb ha hb).mono ?_
  rintro e w' ⟨hB, h | ⟨h0, O, pl, r, h1, h2, _, h3⟩⟩
  · exact ⟨hB, Or.inl h⟩
  · exact ⟨hB, Or.inr ⟨h0, O, pl, r, h1, h2, h3⟩⟩
end Go.Proofs.YtnhjebdlcbhkcacGreat
