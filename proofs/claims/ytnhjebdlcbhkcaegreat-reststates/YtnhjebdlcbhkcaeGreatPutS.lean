/- Contract of mark.Between. -/
import Derived.Test.YtnhjebdlcbhkcaeGreatEnds
import Derived.Test.YtnhjebdlcbhkcaeGreatPutA
import Derived.Deep.AppendLies
import Derived.Test.YtnhjebdlcbhkcaeGreatRunCk
import Derived.Test.YtnhjebdlcbhkcaeGreatGapA
namespace Go.Proofs.YtnhjebdlcbhkcaeGreat
open Go.RowKit

def argsOk (site clock many : Int) : Bool := inB site 0 4 && inB clock 1 10000 && decide (1 ≤ many) && decide (many ≤ 60) && decide (clock + many - 1 ≤ 10000)
def stateBad (la lb : List (Int × Int)) : Bool := decide (0 < la.length) && decide (0 < lb.length) && decide (0 ≤ ordP la lb)
def btwErr (la : List (Int × Int)) (ca : Int) (lb : List (Int × Int)) (cb site clock many : Int) : Int :=
  if ends la ca lb cb ≠ 0 then ends la ca lb cb else if argsOk site clock many = false then 3 else if stateBad la lb then 4 else if 8 < max la.length lb.length then 2 else 0

def BtwGives (w : World) (la : List (Int × Int)) (ca : Int) (lb : List (Int × Int)) (cb site clock many : Int) (e : Ending) (w' : World) : Prop :=
  Below w.heap.size w w' ∧
  ((btwErr la ca lb cb site clock many ≠ 0 ∧ e = .returned (.tuple #[.slice none 0 0, .int .i64 (btwErr la ca lb cb site clock many)])) ∨
   (btwErr la ca lb cb site clock many = 0 ∧ ∃ O pl r, e = .returned (.tuple #[.slice (some ⟨O, 0, none⟩) many.toNat many.toNat, .int .i64 0]) ∧ MarksAt w' (some ⟨O, 0, none⟩) (rowOf pl r site clock many.toNat) ∧ Cand la lb pl ∧ gapLow pl la site ≤ r ∧ r + many ≤ gapHigh pl lb site + 1))

def BtwGivesC (w : World) (la : List (Int × Int)) (ca : Int) (lb : List (Int × Int)) (cb site clock many : Int) (e : Ending) (w' : World) : Prop :=
  Below w.heap.size w w' ∧
  ((btwErr la ca lb cb site clock many ≠ 0 ∧ e = .returned (.tuple #[.slice none 0 0, .int .i64 (btwErr la ca lb cb site clock many)])) ∨
   (btwErr la ca lb cb site clock many = 0 ∧ ∃ O pl r, e = .returned (.tuple #[.slice (some ⟨O, 0, none⟩) many.toNat many.toNat, .int .i64 0]) ∧ MarksAt w' (some ⟨O, 0, none⟩) (rowOf pl r site clock many.toNat) ∧ CapsM w' O (rowOf pl r site clock many.toNat) ∧ Cand la lb pl ∧ gapLow pl la site ≤ r ∧ r + many ≤ gapHigh pl lb site + 1))

theorem boxesB (w : World) (v0 v1 u0 u1 m0 : Value) (T T' T2 : TypeId) : ∃ W, W = ((w.alloc (Obj.cells #[v0, v1] T)).alloc (Obj.cells #[u0, u1] T')).alloc (Obj.cells #[m0] T2) ∧
    W.cell? ⟨w.heap.size, 0, none⟩ = some v0 ∧ W.cell? ⟨w.heap.size, 1, none⟩ = some v1 ∧ W.cell? ⟨w.heap.size + 1, 0, none⟩ = some u0 ∧ W.cell? ⟨w.heap.size + 1, 1, none⟩ = some u1 ∧ W.cell? ⟨w.heap.size + 1 + 1, 0, none⟩ = some m0 ∧ W.heap.size = w.heap.size + 3 ∧ Below w.heap.size w W :=
  ⟨_, rfl, by go_simp, by go_simp, by go_simp, by go_simp, by go_simp, by simp, (((Below.refl _ _).alloc (Nat.le_refl _) _).alloc (by simp) _).alloc (by simp; omega) _⟩

structure BoxB (w : World) (z : Nat) (a : Option Addr) (n cap : Nat) (c : Int) (a' : Option Addr) (n' cap' : Nat) (d many : Int) : Prop where
  a0 : w.cell? ⟨z, 0, none⟩ = some (.slice a n cap)
  a1 : w.cell? ⟨z, 1, none⟩ = some (.int .i64 c)
  b0 : w.cell? ⟨z + 1, 0, none⟩ = some (.slice a' n' cap')
  b1 : w.cell? ⟨z + 1, 1, none⟩ = some (.int .i64 d)
  m0 : w.cell? ⟨z + 1 + 1, 0, none⟩ = some (.int .i64 many)
  sz : z + 3 ≤ w.heap.size
theorem BoxB.below {w w' : World} {z : Nat} {a : Option Addr} {n cap : Nat} {c : Int} {a' : Option Addr} {n' cap' : Nat} {d many : Int} (h : BoxB w z a n cap c a' n' cap' d many) (hb : Below w.heap.size w w') : BoxB w' z a n cap c a' n' cap' d many := by
  have s := h.sz
  exact ⟨(hb.cell (p := ⟨z, 0, none⟩) (show z < w.heap.size by omega)).trans h.a0, (hb.cell (p := ⟨z, 1, none⟩) (show z < w.heap.size by omega)).trans h.a1, (hb.cell (p := ⟨z + 1, 0, none⟩) (show z + 1 < w.heap.size by omega)).trans h.b0, (hb.cell (p := ⟨z + 1, 1, none⟩) (show z + 1 < w.heap.size by omega)).trans h.b1, (hb.cell (p := ⟨z + 1 + 1, 0, none⟩) (show z + 1 + 1 < w.heap.size by omega)).trans h.m0, Nat.le_trans s hb.size⟩

theorem chkEnd_ok {l : List (Int × Int)} {c : Int} (h : chkEnd l c = 0) : okSteps l = true := by
  unfold chkEnd at h
  split at h
  · rename_i h1; rw [List.eq_nil_of_length_eq_zero h1.1]; rfl
  · exact (chk_ok h).2.2.1
theorem ends_ok {l m : List (Int × Int)} {c d : Int} (h : ends l c m d = 0) : okSteps l = true ∧ okSteps m = true := by
  unfold ends orI at h
  split at h
  · rename_i h1; exact ⟨chkEnd_ok h1, chkEnd_ok h⟩
  · rename_i h1; exact absurd h h1
theorem argsOk_iff {site clock many : Int} (h : argsOk site clock many = true) : 0 ≤ site ∧ site ≤ 4 ∧ 1 ≤ clock ∧ clock + many - 1 ≤ 10000 ∧ 1 ≤ many ∧ many ≤ 60 := by
  simp [argsOk, inB] at h; omega

set_option maxRecDepth 100000 in
set_option maxHeartbeats 2000000 in
theorem between_fnC (a b : Option Addr) (cap cap' : Nat) (la lb : List (Int × Int)) (ca cb site clock many : Int) (w : World) (hla : la.length ≤ maxLen) (hlb : lb.length ≤ maxLen) (hca : la.length ≤ cap) (hcb : lb.length ≤ cap')
   (ha : StepsAt w a la) (hb : StepsAt w b lb) :
    Calls Tryz.prog 59 #[.agg #[.slice a la.length cap, .int .i64 ca], .agg #[.slice b lb.length cap', .int .i64 cb], .int .i64 site, .int .i64 clock, .int .i64 many] w (BtwGivesC w la ca lb cb site clock many) := by
  obtain ⟨W, hW, q0, q1, q2, q3, q4, hz, hb0⟩ := boxesB w (.slice a la.length cap) (.int .i64 ca) (.slice b lb.length cap') (.int .i64 cb) (.int .i64 many) 42 42 3
  have HW := hidE hW
  have BX : BoxB W w.heap.size a la.length cap ca b lb.length cap' cb many := ⟨q0, q1, q2, q3, q4, by omega⟩
  have hz' : w.heap.size ≤ W.heap.size := by omega
  clear hW q0 q1 q2 q3 q4 hz
  by_cases hE : ends la ca lb cb = 0
  · have HE := hidE hE
    clear hE
    go_enter Tryz.func59, Tryz.ntmps59
    go_upto_region 1 with fail
    rw [← HW.out]
    obtain ⟨q0, q1, q2, q3, q4, hz⟩ := id BX
    go_upto_region 4 with (go_at_call 142; refine (checkEnds_any _ _ _ _ la lb _ _ _ hla hlb (by exact ha.below hb0 (Nat.le_refl _)) (by exact hb.below hb0 (Nat.le_refl _))).mono ?_; rintro e W1 ⟨rfl, hb1⟩; rw [HE.out])
    replace BX := BX.below hb1
    replace hb0 := hb0.thru hb1 hb0.size
    clear hb1 HW q0 q1 q2 q3 q4 hz hz'
    obtain ⟨q0, q1, q2, q3, q4, hz⟩ := id BX
    go_cut [44] (fun t wc => t = .bool (!argsOk site clock many) ∧ wc = W1)
    case first =>
      by_cases i1 : inB site 0 4 = true
      · by_cases i2 : inB clock 1 10000 = true
        · have j2 : 1 ≤ clock ∧ clock ≤ 10000 := by simpa [inB] using i2
          by_cases i3 : many < 1
          · go_wp2_with (first | (go_at_call 143; refine (isSite_any _ _).mono ?_; rintro e w' ⟨rfl, rfl⟩) | (go_at_call 144; refine (isClock_any _ _).mono ?_; rintro e w' ⟨rfl, rfl⟩))
            go_meet
            exact ⟨congrArg Value.bool (by unfold argsOk; simp [i1, i2]; omega), rfl⟩
          · by_cases i4 : many > 60
            · go_wp2_with (first | (go_at_call 143; refine (isSite_any _ _).mono ?_; rintro e w' ⟨rfl, rfl⟩) | (go_at_call 144; refine (isClock_any _ _).mono ?_; rintro e w' ⟨rfl, rfl⟩))
              go_meet
              exact ⟨congrArg Value.bool (by unfold argsOk; simp [i1, i2]; omega), rfl⟩
            · have j3 : 1 ≤ many := by omega
              have j4 : many ≤ 60 := by omega
              go_wp2_with (first | (go_at_call 143; refine (isSite_any _ _).mono ?_; rintro e w' ⟨rfl, rfl⟩) | (go_at_call 144; refine (isClock_any _ _).mono ?_; rintro e w' ⟨rfl, rfl⟩))
              go_meet
              refine ⟨congrArg Value.bool ?_, rfl⟩
              unfold argsOk
              rw [i1, i2, decide_eq_true j3, decide_eq_true j4]
              rw [Bool.eq_iff_iff]
              simp [inB]
              omega
        · go_wp2_with (first | (go_at_call 143; refine (isSite_any _ _).mono ?_; rintro e w' ⟨rfl, rfl⟩) | (go_at_call 144; refine (isClock_any _ _).mono ?_; rintro e w' ⟨rfl, rfl⟩))
          go_meet
          exact ⟨congrArg Value.bool (by unfold argsOk; simp [i2]), rfl⟩
      · go_wp2_with (first | (go_at_call 143; refine (isSite_any _ _).mono ?_; rintro e w' ⟨rfl, rfl⟩) | (go_at_call 144; refine (isClock_any _ _).mono ?_; rintro e w' ⟨rfl, rfl⟩))
        go_meet
        exact ⟨congrArg Value.bool (by unfold argsOk; simp [i1]), rfl⟩
    case rest =>
      obtain ⟨rfl, rfl⟩ := hcut
      by_cases hA : argsOk site clock many = true
      · have HA := hidE hA
        rw [hA]
        clear hA
        go_upto_region 6 with fail
        go_cut [62] (fun t we => t = .bool (stateBad la lb) ∧ Below wc.heap.size wc we)
        case first =>
          by_cases i1 : 0 < la.length
          · have j1 : (la.length : Int) > 0 := by omega
            by_cases i2 : 0 < lb.length
            · have j2 : (lb.length : Int) > 0 := by omega
              go_wp2_with (go_at_call 145; refine (orderPaths_any _ _ _ _ la lb _ hla hlb (by exact ha.below hb0 (Nat.le_refl _)) (by exact hb.below hb0 (Nat.le_refl _))).mono ?_; rintro e w' ⟨rfl, hb1⟩)
              go_meet
              refine ⟨congrArg Value.bool ?_, hb1⟩
              unfold stateBad
              rw [decide_eq_true i1, decide_eq_true i2]
              simp
            · have j2 : ¬ ((lb.length : Int) > 0) := by omega
              go_wp2
              go_meet
              exact ⟨congrArg Value.bool (by unfold stateBad; rw [decide_eq_false i2]; simp), Below.refl _ _⟩
          · have j1 : ¬ ((la.length : Int) > 0) := by omega
            go_wp2
            go_meet
            exact ⟨congrArg Value.bool (by unfold stateBad; rw [decide_eq_false i1]; simp), Below.refl _ _⟩
        case rest =>
          obtain ⟨rfl, hb1⟩ := hcut
          clear q0 q1 q2 q3 q4 hz
          replace BX := BX.below hb1
          replace hb0 := hb0.thru hb1 hb0.size
          clear hb1
          obtain ⟨q0, q1, q2, q3, q4, hz⟩ := id BX
          cases hS : stateBad la lb with
          | true =>
            have HS := hidE hS
            clear hS
            go_wp2
            go_ret2
            have he : btwErr la ca lb cb site clock many = 4 := by unfold btwErr; rw [if_neg (by rw [HE.out]; simp), if_neg (by rw [HA.out]; simp), if_pos HS.out]
            refine ⟨hb0, Or.inl ⟨by rw [he]; decide, ?_⟩⟩
            rw [he]; rfl
          | false =>
            have HS := hidE hS
            clear hS
            go_upto_region 8 with fail
            go_cut [70] (fun t we => t = .bool (decide (8 < max la.length lb.length)) ∧ we = wc)
            case first =>
              go_wp2
              all_goals
                go_meet
                refine ⟨congrArg Value.bool ?_, rfl⟩
                rw [Bool.eq_iff_iff]
                simp
                omega
            case rest =>
              obtain ⟨rfl, rfl⟩ := hcut
              by_cases h8 : 8 < max la.length lb.length
              · have H8 := hidE h8
                have h8' : decide (8 < max la.length lb.length) = true := decide_eq_true h8
                rw [h8']
                clear h8 h8'
                go_wp2
                go_ret2
                have he : btwErr la ca lb cb site clock many = 2 := by unfold btwErr; rw [if_neg (by rw [HE.out]; simp), if_neg (by rw [HA.out]; simp), if_neg (by rw [HS.out]; simp), if_pos H8.out]
                refine ⟨hb0, Or.inl ⟨by rw [he]; decide, ?_⟩⟩
                rw [he]; rfl
              · have h8' : decide (8 < max la.length lb.length) = false := decide_eq_false h8
                rw [h8']
                clear h8'
                have he : Hid (btwErr la ca lb cb site clock many = 0) := by show _ = _; unfold btwErr; rw [if_neg (by rw [HE.out]; simp), if_neg (by rw [HA.out]; simp), if_neg (by rw [HS.out]; simp), if_neg h8]
                have hl8 : la.length ≤ 8 := by omega
                have hl8' : lb.length ≤ 8 := by omega
                obtain ⟨oa, ob⟩ := ends_ok HE.out
                obtain ⟨s1, s2, c1, c2, m1, m2⟩ := argsOk_iff HA.out
                clear h8
                have hmf : ∀ (fn : Fn) (fst cpt : Array Value) (w : World), (Instr.makeFunc fn fst cpt).run Tryz.prog w = .ok (.func fn fst cpt) w := fun _ _ _ _ => rfl
                have har := ha.below hb0 (Nat.le_refl _)
                have hbr := hb.below hb0 (Nat.le_refl _)
                go_wp2_with fail
                refine (findGap_any _ _ _ _ (w.heap.size + 1 + 1) la lb site many _ (by omega) (by omega) hca hcb m2 har hbr oa ob (by omega) q4).mono ?_
                rintro e w1 ⟨pl, G, cg, rfl, hroom, hcand, hst, hb1⟩
                have lo1 := gapLow_bd pl site oa
                have hi1 := gapHigh_bd pl site ob
                have hpl : pl.length ≤ 8 := by
                  rcases hcand with ⟨n, hn, rfl⟩ | ⟨n, hn, rfl⟩
                  · rw [beg_length]; omega
                  · rw [beg_length]; omega
                replace BX := BX.below hb1
                replace hb0 := hb0.thru hb1 hb0.size
                clear q0 q1 q2 q3 q4 hz hb1 har hbr
                obtain ⟨q0, q1, q2, q3, q4, hz⟩ := id BX
                generalize hlo : gapLow pl la site = lo at *
                generalize hhi : gapHigh pl lb site = hi at *
                have HG := hidE (And.intro hlo hhi)
                clear hlo hhi
                have p0 : ∀ X, (w1.alloc X).cell? ⟨w.heap.size, 0, none⟩ = some (.slice a la.length cap) := fun X => Lib.cell?_alloc_some _ q0
                have p2 : ∀ X, (w1.alloc X).cell? ⟨w.heap.size + 1, 0, none⟩ = some (.slice b lb.length cap') := fun X => Lib.cell?_alloc_some _ q2
                have p4 : ∀ X, (w1.alloc X).cell? ⟨w.heap.size + 1 + 1, 0, none⟩ = some (.int .i64 many) := fun X => Lib.cell?_alloc_some _ q4
                go_wp2_with fail
                refine (start_any _ _ _ lo hi many _ _ _ (by omega) lo1.2 hi1.1 hi1.2 m1 hroom).mono ?_
                rintro e w2 ⟨⟨r, rfl, r1, r2⟩, hb1⟩
                have zN : w1.heap.size < (w1.alloc (Obj.cells #[.slice (some ⟨G, 0, none⟩) pl.length cg, .int .i64 lo, .int .i64 hi] 186)).heap.size := by simp
                have g0 : w2.cell? ⟨w1.heap.size, 0, none⟩ = some (.slice (some ⟨G, 0, none⟩) pl.length cg) := (hb1.cell (p := ⟨w1.heap.size, 0, none⟩) zN).trans (by go_simp)
                have hb2 : Below w1.heap.size w1 w2 := ((Below.refl _ _).alloc (Nat.le_refl _) _).thru hb1 (by simp)
                have y4 : w2.cell? ⟨w.heap.size + 1 + 1, 0, none⟩ = some (.int .i64 many) := (hb2.cell (p := ⟨w.heap.size + 1 + 1, 0, none⟩) (show w.heap.size + 1 + 1 < w1.heap.size by omega)).trans q4
                replace hst := hst.below hb2 (Nat.le_refl _)
                replace hb0 := hb0.thru hb2 hb0.size
                clear q0 q1 q2 q3 q4 hz hb1 hb2 BX p0 p2 p4 zN
                obtain ⟨mn, rfl⟩ := Int.eq_ofNat_of_zero_le (show 0 ≤ many by omega)
                go_wp2_with fail
                refine (row_any G _ mn pl r site clock _ (by omega) hst (by omega) (by omega) (by omega) (by omega) (by omega)).mono ?_
                rintro e w3 ⟨O, rfl, hmk, hcp, hb1⟩
                go_wp2_with fail
                go_ret2
                refine ⟨hb0.thru hb1 hb0.size, Or.inr ⟨he.out, O, pl, r, ?_, ?_, ?_, hcand, by rw [HG.out.1]; exact r1, by rw [HG.out.2]; exact r2⟩⟩
                · rfl
                · rw [Int.toNat_natCast]; exact hmk
                · rw [Int.toNat_natCast]; exact hcp
      · have hA' : argsOk site clock many = false := by simpa using hA
        have HA := hidE hA'
        rw [hA']
        clear hA hA'
        go_wp2
        go_ret2
        have he : btwErr la ca lb cb site clock many = 3 := by unfold btwErr; rw [if_neg (by rw [HE.out]; simp), if_pos HA.out]
        refine ⟨hb0, Or.inl ⟨by rw [he]; decide, ?_⟩⟩
        rw [he]; rfl
  · have hE' : (ends la ca lb cb != 0) = true := by rw [bne_iff_ne]; exact hE
    have HE := hidE hE
    clear hE
    go_enter Tryz.func59, Tryz.ntmps59
    go_upto_region 1 with fail
    rw [← HW.out]
    obtain ⟨q0, q1, q2, q3, q4, hz⟩ := id BX
    go_wp2_with (go_at_call 142; refine (checkEnds_any _ _ _ _ la lb _ _ _ hla hlb (by exact ha.below hb0 (Nat.le_refl _)) (by exact hb.below hb0 (Nat.le_refl _))).mono ?_; rintro e W1 ⟨rfl, hb1⟩)
    go_ret2
    have he : btwErr la ca lb cb site clock many = ends la ca lb cb := by unfold btwErr; rw [if_pos HE.out]
    refine ⟨hb0.thru hb1 hb0.size, Or.inl ⟨by rw [he]; exact HE.out, ?_⟩⟩
    rw [he]; rfl

theorem between_fn (a b : Option Addr) (cap cap' : Nat) (la lb : List (Int × Int)) (ca cb site clock many : Int) (w : World) (hla : la.length ≤ maxLen) (hlb : lb.length ≤ maxLen) (hca : la.length ≤ cap) (hcb : lb.length ≤ cap')
   (ha : StepsAt w a la) (hb : StepsAt w b lb) :
    Calls Tryz.prog 59 #[.agg #[.slice a la.length cap, .int .i64 ca], .agg #[.slice b lb.length cap', .int .i64 cb], .int .i64 site, .int .i64 clock, .int .i64 many] w (BtwGives w la ca lb cb site clock many) := by
  refine (between_fnC a b cap cap' la lb ca cb site clock many w hla hlb hca hcb ha hb).mono ?_
  rintro e w' ⟨hB, h | ⟨h0, O, pl, r, h1, h2, _, h3⟩⟩
  · exact ⟨hB, Or.inl h⟩
  · exact ⟨hB, Or.inr ⟨h0, O, pl, r, h1, h2, h3⟩⟩
end Go.Proofs.YtnhjebdlcbhkcaeGreat

namespace Go.Proofs.YtnhjebdlcbhkcaeGreat
open Go.RowKit

structure BoxA (w0 w : World) (B : Nat) (xs : List At) : Prop where
  at0 : ∃ p c, w.cell? ⟨B, 0, none⟩ = some (.slice p xs.length c) ∧ OwnsA w0 w (B + 1) (.slice p xs.length c) xs
  froz : w.frozen? ⟨B, 0, none⟩ = false
  lt : B < w.heap.size

def comeL (ms : List (List (Int × Int) × Int)) (t : ByteArray) (k : Nat) : List At := (List.range k).map fun i => ⟨(ms.getD i ([], 0)).1, (ms.getD i ([], 0)).2, (t.data.toList.getD i 0).toNat⟩

theorem comeL_succ (ms : List (List (Int × Int) × Int)) (t : ByteArray) (k : Nat) : comeL ms t (k + 1) = comeL ms t k ++ [⟨(ms.getD k ([], 0)).1, (ms.getD k ([], 0)).2, (t.data.toList.getD k 0).toNat⟩] := by
  unfold comeL; rw [List.range_succ, List.map_append]; rfl
theorem comeL_len (ms : List (List (Int × Int) × Int)) (t : ByteArray) (k : Nat) : (comeL ms t k).length = k := by simp [comeL]

theorem owns_sliceA {w : World} {base : Nat} {e : TypeId} {size : Nat} {v : Value} {n : Nat} {xs : List Value} (h : w.ownsRow base e size v n xs) : ∃ p cap, v = .slice p n cap := by
  rcases h.2 with ⟨rfl, rfl⟩ | ⟨g, cap, cur, rfl, _⟩
  · exact ⟨none, 0, rfl⟩
  · exact ⟨_, cap, rfl⟩

theorem BoxA.end {w0 w w' : World} {B n : Nat} {v : Value} {xs : List At} {rs : List Raw} {r : Raw} {x : At} {p : Option Addr} {c : Nat} {o : Obj} (hlt : B < w.heap.size) (hf : w.frozen? ⟨B, 0, none⟩ = false) (hrl : rs.length = xs.length) (hrr : ∀ i (h : i < xs.length) (h' : i < rs.length), RawOf w0 rs[i] xs[i]) (hr : RawOf w0 r x) (hown : w.ownsRow (B + 1) 108 3 (.slice p n c) n (flatR rs))
    (hg : (w.alloc o).grownBy w' (Value.slice p n c).ownBlock) (hn : n = xs.length) (h5 : w'.ownsRow (B + 1) 108 3 v (n + 1) (flatR rs ++ r.cells)) (hc : w.cell? ⟨B, 0, none⟩ = some (.slice p n c)) :
    BoxA w0 (w'.setCell ⟨B, 0, none⟩ v) B (xs ++ [x]) ∧ Below B w (w'.setCell ⟨B, 0, none⟩ v) ∧ w'.cell? ⟨B, 0, none⟩ = some (.slice p n c) ∧ w'.frozen? ⟨B, 0, none⟩ = false := by
  subst hn
  have hne : some B ≠ (Value.slice p xs.length c).ownBlock := fun e => by have := (hown.lt _ e.symm).1; omega
  have hl1 : B < (w.alloc o).heap.size := by simp; omega
  have hb1 : Below B w (w.alloc o) := (Below.refl _ _).alloc (Nat.le_of_lt hlt) _
  have hb2 : Below B w w' := hb1.grown hg (Nat.le_of_lt hl1) (fun j hj => by have := (hown.lt j hj).1; omega)
  have hba : Below w.heap.size w (w.alloc o) := (Below.refl _ _).alloc (Nat.le_refl _) _
  have c' : w'.cell? ⟨B, 0, none⟩ = some (.slice p xs.length c) := (hg.cell_far ⟨B, 0, none⟩ hl1 hne).trans ((hba.cell (p := ⟨B, 0, none⟩) hlt).trans hc)
  have f' : w'.frozen? ⟨B, 0, none⟩ = false := (hg.frozen_far ⟨B, 0, none⟩ hl1 hne).trans ((hba.frozen (p := ⟨B, 0, none⟩) hlt).trans hf)
  have hlt' : B < w'.heap.size := Nat.lt_of_lt_of_le hl1 hg.size
  obtain ⟨p', c1, rfl⟩ := owns_sliceA h5
  have hlen : (xs ++ [x]).length = xs.length + 1 := by simp
  refine ⟨⟨⟨p', c1, ?_, ?_⟩, ?_, ?_⟩, hb2.setCell (p := ⟨B, 0, none⟩) (Nat.le_refl _) _, c', f'⟩
  · rw [hlen]; exact World.cell?_setCell_same _ _ _ c'
  · rw [hlen]
    exact ownsA_snoc hrl hrr hr (ownsRow_setCell_other h5 (fun e => absurd (h5.lt B e).1 (by omega)) _)
  · rw [World.frozen?_setCell]; exact f'
  · simpa [World.setCell] using hlt'

theorem rawA_new (w : World) (r : Raw) : ∀ j u, r.cells[j]? = some u → (w.alloc (.cells #[.slice r.p r.n r.cap, .int .i64 r.clock, .int .u8 r.sign] 108)).drew.cell? ⟨w.heap.size, j, none⟩ = some u := by
  intro j u hj
  show (w.alloc (.cells #[.slice r.p r.n r.cap, .int .i64 r.clock, .int .u8 r.sign] 108)).cell? ⟨w.heap.size, j, none⟩ = some u
  exact raw_new w r j u hj

set_option maxRecDepth 100000 in
set_option maxHeartbeats 2000000 in
theorem editPut1_any (w0 : World) (B C : Nat) (O : Nat) (km cm : Nat) (ms : List (List (Int × Int) × Int)) (t : ByteArray) (k : Nat) (w : World) (hk : k < ms.length) (hl : ms.length ≤ 100) (hm : MarksAt w0 (some ⟨O, 0, none⟩) ms) (hcap : CapsM w0 O ms) (hb0 : Below w0.heap.size w0 w) (hkm : km = ms.length) (hbox : w.cell? ⟨C, 0, none⟩ = some (.slice (some ⟨O, 0, none⟩) km cm)) (h : BoxA w0 w B (comeL ms t k)) :
    Calls Tryz.prog 83 #[.int .i64 k, .int .u8 (t.data.toList.getD k 0).toNat, .pointer (some ⟨B, 0, none⟩), .pointer (some ⟨C, 0, none⟩)] w fun e w' => e = .returned (.tuple #[]) ∧ BoxA w0 w' B (comeL ms t (k + 1)) ∧ Below B w w' := by
  obtain ⟨⟨p, c, hc, rs, hrl, hown, hrr⟩, hf, hlt⟩ := h
  obtain ⟨i0, hi0, hz0, hz1, hz2⟩ := Tryz.info108
  rcases hm with hs | ⟨b, off, e, hbb, hcc⟩
  · rw [hs] at hk; simp at hk
  obtain ⟨rfl, rfl⟩ : O = b ∧ 0 = off := by cases e; exact ⟨rfl, rfl⟩
  obtain ⟨pp, cp, c0, c1, hst, hpl⟩ := hcc k hk
  obtain ⟨pp', cp', c0', hcp⟩ := hcap k hk
  have ecp : cp = cp' := by
    have := c0.symm.trans c0'
    simp at this
    exact this.2
  subst ecp
  have hsg := u8_range (t.data.toList.getD k 0)
  have HS : Hid (comeL ms t (k + 1) = comeL ms t k ++ [⟨ms[k].1, ms[k].2, (t.data.toList.getD k 0).toNat⟩]) := by
    show _ = _
    rw [comeL_succ, List.getD_eq_getElem?_getD, List.getElem?_eq_getElem hk]; rfl
  have HR : Hid (RawOf w0 ⟨pp, ms[k].1.length, cp, ms[k].2, (t.data.toList.getD k 0).toNat⟩ ⟨ms[k].1, ms[k].2, (t.data.toList.getD k 0).toNat⟩) := ⟨rfl, rfl, rfl, hst, hpl, hcp, hsg.1, hsg.2⟩
  have d0 := (hb0.cell (p := ⟨O, 0 + k * 2, none⟩) hbb).trans c0
  have d1 := (hb0.cell (p := ⟨O, 0 + k * 2 + 1, none⟩) hbb).trans c1
  rw [Nat.zero_add] at d0 d1
  generalize (((t.data.toList.getD k 0).toNat : Nat) : Int) = sg at *
  have hlen := comeL_len ms t k
  have HRR := hidE hrr
  have hi1 : (k : Int) < (km : Int) := by omega
  have hk100 : k ≤ 100 := by omega
  clear hcc hcap c0 c1 c0' hst hpl hcp hrr hsg
  generalize hxs : comeL ms t k = xs at *
  generalize ms[k].1 = mp at *
  generalize ms[k].2 = mc at *
  have HLN := hidE hlen
  rw [hlen] at hc hown hrl
  clear hxs hlen
  have hkm0 : Hid (km = ms.length) := hkm
  clear hkm hk hl
  have hownA := hown.alloc (Obj.cells #[.slice pp mp.length cp, .int .i64 mc, .int .u8 sg] 108)
  have hownD : (w.alloc (Obj.cells #[.slice pp mp.length cp, .int .i64 mc, .int .u8 sg] 108)).drew.ownsRow (B + 1) 108 3 (.slice p k c) k (flatR rs) := hownA
  have HRL := hidE hrl
  clear hrl hownA e hbb
  go_enter Tryz.func83, Tryz.ntmps83
  go_wp2_with fail
  have HEND := hidE (fun (v' : Value) (w' : World) (h5 : w'.ownsRow (B + 1) 108 3 v' (k + 1) (flatR rs ++ (⟨pp, mp.length, cp, mc, sg⟩ : Raw).cells)) (hg : ((w.alloc (Obj.cells #[.slice pp mp.length cp, .int .i64 mc, .int .u8 sg] 108)).drew).grownBy w' (Value.slice p k c).ownBlock) => BoxA.end (w0 := w0) (w := w.drew) (o := (Obj.cells #[.slice pp mp.length cp, .int .i64 mc, .int .u8 sg] 108)) (xs := xs) (x := ⟨mp, mc, sg⟩) (rs := rs) (r := ⟨pp, mp.length, cp, mc, sg⟩) hlt hf (HRL.out.trans HLN.out.symm) HRR.out HR.out hown hg HLN.out.symm h5 hc)
  go_region_law (first
    | (refine step_append_own rfl (.tmp 6) (.tmp 13) 22 rfl (B + 1) 108 i0 (.agg #[.slice none 0 0, .int .i64 0, .int .u8 0]) 3 40 Tryz.underlying22 hi0 hz0 hz1 hz2 rfl (by decide) (.slice p k c) k (flatR rs) (by simp [Act.eval]) hownD ⟨w.heap.size, 0, none⟩ 1 1 (⟨pp, mp.length, cp, mc, sg⟩ : Raw).cells (by simp [Act.eval]) rfl (by intro j u hj; rw [Addr.add_lit, Nat.zero_add]; exact rawA_new w (⟨pp, mp.length, cp, mc, sg⟩ : Raw) j u hj) (fun u hu => flatR_one [(⟨pp, mp.length, cp, mc, sg⟩ : Raw)] u (by simpa [flatR] using hu)) (by unfold maxLen; omega) (by omega) (by simp [World.drew]; omega) ?_; intro v' w5 hown5 hgrow; obtain ⟨hBX, hbB, hc5, hf5⟩ := HEND.out v' w5 hown5 hgrow; obtain ⟨p', c', rfl⟩ := owns_sliceA hown5; have HBX := hidE hBX; clear hBX hown5 hgrow))
  all_goals
    go_wp2_with fail
    go_end0
    exact ⟨rfl, by rw [HS.out]; exact HBX.out, ((Below.refl _ _).drew).trans hbB⟩

set_option maxRecDepth 100000 in
set_option maxHeartbeats 2000000 in
theorem eachPut_any (w0 : World) (B C : Nat) (O : Nat) (km cm : Nat) (ms : List (List (Int × Int) × Int)) (t : ByteArray) (w : World) (ht : t.size = ms.length) (hl : ms.length ≤ 100) (hCB : C < B) (hm : MarksAt w0 (some ⟨O, 0, none⟩) ms) (hcap : CapsM w0 O ms) (hb0 : Below w0.heap.size w0 w) (hw0 : w0.heap.size ≤ B) (hkm : km = ms.length) (hbox : w.cell? ⟨C, 0, none⟩ = some (.slice (some ⟨O, 0, none⟩) km cm)) (h : BoxA w0 w B []) :
    Calls Tryz.prog 82 #[.string t, .func (.func 83) #[] #[.pointer (some ⟨B, 0, none⟩), .pointer (some ⟨C, 0, none⟩)]] w fun e w' => e = .returned (.tuple #[]) ∧ BoxA w0 w' B (comeL ms t t.size) ∧ Below B w w' := by
  have HP := hidE (fun (k : Nat) (hk : k < t.size) (W : World) (h1 : Below B w W) (h2 : BoxA w0 W B (comeL ms t k)) => editPut1_any w0 B C O km cm ms t k W (by omega) hl hm hcap (hb0.trans (h1.mono hw0)) hkm ((h1.cell (p := ⟨C, 0, none⟩) hCB).trans hbox) h2)
  have ht100 : t.size ≤ 100 := by omega
  clear hm hcap hbox hkm ht hl
  go_enter Tryz.func82, Tryz.ntmps82
  go_wp2_with fail
  go_loopw [7] (fun i wr => ∃ k : Nat, k ≤ t.size ∧ i = .int .i64 k ∧ BoxA w0 wr B (comeL ms t k) ∧ Below B w wr) (fun i _ => t.size - (intOf i).toNat)
  case atStart => exact ⟨0, Nat.zero_le _, rfl, h, Below.refl _ _⟩
  case round =>
    obtain ⟨k, hk, rfl, hBx, hb⟩ := hrel
    by_cases hlt : k < t.size
    · have hi1 : (k : Int) < t.size := by omega
      have HC := hidE (HP.out k hlt wr hb hBx)
      rw [List.getD_eq_getElem?_getD, List.getElem?_eq_getElem (by simpa using hlt)] at HC
      go_wp2_with fail
      refine HC.out.mono ?_
      rintro e w2 ⟨rfl, hB2, hb2⟩
      go_wp2_with fail
      go_roundw
      case rel => exact ⟨k + 1, by omega, by go_num, hB2, hb.trans hb2⟩
      case measure => simp [intOf]; omega
    · have hkt : k = t.size := by omega
      subst hkt
      go_wp2_with fail
      go_end0
      exact ⟨rfl, hBx, hb⟩
end Go.Proofs.YtnhjebdlcbhkcaeGreat
