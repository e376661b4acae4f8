/- Contract of the reference's CheckBetween. -/
import Derived.Test.YtkmiafhkilhohaaBegun
namespace Go.Proofs.Ytkmiafhkilhohaa
open Go.RowKit

theorem noneB (l : List (Int × Int)) (c : Int) : (l.length == 0 && c == 0) = decide (l.length = 0 ∧ c = 0) := by
  rw [Bool.eq_iff_iff]; simp

theorem chkEnd_none {l : List (Int × Int)} {c : Int} (h : (l.length == 0 && c == 0) = true) : chkEnd l c = 0 := by
  rw [noneB] at h; unfold chkEnd; rw [if_pos (of_decide_eq_true h)]
theorem chkEnd_some {l : List (Int × Int)} {c : Int} (h : (l.length == 0 && c == 0) = false) : chkEnd l c = chk l c := by
  rw [noneB] at h; unfold chkEnd; rw [if_neg (of_decide_eq_false h)]
theorem none_len {l : List (Int × Int)} {c : Int} (h : chkEnd l c = 0) : (l.length == 0 && c == 0) = decide (l.length = 0) := by
  rw [noneB, Bool.eq_iff_iff]
  simp only [decide_eq_true_eq]
  constructor
  · exact fun h => h.1
  · intro e
    refine ⟨e, ?_⟩
    unfold chkEnd at h
    split at h
    · rename_i h1; exact h1.2
    · have := (chk_ok h).1; omega

set_option maxHeartbeats 1000000 in
theorem samePath_any (a a' : Option Addr) (cap cap' : Nat) (l m : List (Int × Int)) (c d : Int) (w : World) (hl : l.length ≤ maxLen) (hm : m.length ≤ maxLen) (h : StepsAt w a l) (h' : StepsAt w a' m) :
    Calls Try.prog 53 #[.agg #[.slice a l.length cap, .int .i64 c], .agg #[.slice a' m.length cap', .int .i64 d]] w fun e w' => e = .returned (.bool (ordP l m == 0)) ∧ Below w.heap.size w w' := by
  have hb0 : ∀ u v : Value, Below w.heap.size w ((w.alloc (Obj.cells #[.slice a l.length cap, u] 24)).alloc (Obj.cells #[.slice a' m.length cap', v] 24)) := fun u v => ((Below.refl _ _).alloc (Nat.le_refl _) _).alloc (by simp) _
  have HB := hidE hb0
  clear hb0
  go_enter Try.func53, Try.ntmps53
  go_wp2_with fail
  refine (sameMark_n _ _ _ _ _ _ l m _ _ _ rfl rfl hl hm (h.below (HB.out _ _) (Nat.le_refl _)) (h'.below (HB.out _ _) (Nat.le_refl _))).mono ?_
  rintro e w1 ⟨rfl, hb1⟩
  have e0 : (ordM l 0 m 0 == 0) = (ordP l m == 0) := by
    unfold ordM orI
    split
    · rename_i h1; rw [h1]; rfl
    · rfl
  rw [e0]
  go_wp2
  go_ret
  exact ⟨rfl, (HB.out _ _).thru hb1 (HB.out _ _).size⟩

theorem isNone_b (a : Option Addr) (cap : Nat) (n : Nat) (c : Int) (w : World) (B : Bool) (h : (n == 0 && c == 0) = B) :
    Calls Try.prog 52 #[.agg #[.slice a n cap, .int .i64 c]] w fun e w' => e = .returned (.bool B) ∧ Below w.heap.size w w' := by
  rw [← h]; exact isNone_any a cap n c w

set_option maxRecDepth 100000 in
set_option maxHeartbeats 2000000 in
theorem checkBetween_any (a b : Option Addr) (ka kb : Nat) (la lb : List (Int × Int)) (ca cb site clock many : Int) (w : World) (hla : la.length ≤ maxLen) (hlb : lb.length ≤ maxLen) (ha : StepsAt w a la) (hb : StepsAt w b lb) :
    Calls Try.prog 18 #[.agg #[.slice a la.length ka, .int .i64 ca], .agg #[.slice b lb.length kb, .int .i64 cb], .int .i64 site, .int .i64 clock, .int .i64 many] w fun e w' => e = .returned (.int .i64 (btwErr la ca lb cb site clock many)) ∧ Below w.heap.size w w' := by
  obtain ⟨q0, q1, q2, q3, hz, hb0⟩ := boxes2 w (.slice a la.length ka) (.int .i64 ca) (.slice b lb.length kb) (.int .i64 cb) 24 24
  have HH : Holds ((w.alloc (Obj.cells #[.slice a la.length ka, .int .i64 ca] 24)).alloc (Obj.cells #[.slice b lb.length kb, .int .i64 cb] 24)) [(w.heap.size, 0, .slice a la.length ka), (w.heap.size, 1, .int .i64 ca), (w.heap.size + 1, 0, .slice b lb.length kb), (w.heap.size + 1, 1, .int .i64 cb)] := by
    simp only [holds_cons, holds_nil]
    exact ⟨holds_at q0, holds_at q1, holds_at q2, holds_at q3, trivial⟩
  clear q0 q1 q2 q3 hz
  go_enter Try.func18, Try.ntmps18
  go_upto_region 1 with fail
  generalize (w.alloc (Obj.cells #[.slice a la.length ka, .int .i64 ca] 24)).alloc (Obj.cells #[.slice b lb.length kb, .int .i64 cb] 24) = W at HH hb0 ⊢
  have X := HH
  simp only [holds_cons, holds_nil] at X
  obtain ⟨⟨_, p0⟩, ⟨_, p1⟩, ⟨_, p2⟩, ⟨_, p3⟩, _⟩ := X
  go_cut [15] (fun t we => t = .bool (!(la.length == 0 && ca == 0)) ∧ Below W.heap.size W we)
  case first =>
    go_wp2_with (go_at_call 52; refine (isNone_any _ _ _ _ _).mono ?_; rintro e w1 ⟨rfl, hb1⟩)
    go_meet
    exact ⟨congrArg Value.bool (by simp), hb1⟩
  case rest =>
    obtain ⟨rfl, hb1⟩ := hcut
    replace HH := HH.below hb1 (Nat.le_refl _)
    replace hb0 := hb0.thru hb1 hb0.size
    clear hb1 p0 p1 p2 p3
    have X := HH
    simp only [holds_cons, holds_nil] at X
    obtain ⟨⟨_, p0⟩, ⟨_, p1⟩, ⟨_, p2⟩, ⟨_, p3⟩, _⟩ := X
    go_upto_if 15 with fail
    go_cut [] (fun we => chkEnd la ca = 0 ∧ Below wc.heap.size wc we)
    case first =>
      cases hn : (la.length == 0 && ca == 0) with
      | true =>
        have HN := hidE (chkEnd_none hn)
        clear hn
        go_wp2
        go_meet
        exact ⟨HN.out, Below.refl _ _⟩
      | false =>
        have HN := hidE (chkEnd_some hn)
        clear hn
        by_cases hk : chk la ca = 0
        · have HK := hidE hk
          clear hk
          go_wp2_with fail
          refine (checkMark_any _ _ la _ _ hla (ha.below hb0 (Nat.le_refl _))).mono ?_
          rintro e w1 ⟨rfl, hb1⟩
          rw [HK.out]
          go_wp2
          go_meet
          exact ⟨HN.out.trans HK.out, hb1⟩
        · have hk' : (chk la ca != 0) = true := by rw [bne_iff_ne]; exact hk
          have HK := hidE hk
          clear hk
          go_wp2_with fail
          refine (checkMark_any _ _ la _ _ hla (ha.below hb0 (Nat.le_refl _))).mono ?_
          rintro e w1 ⟨rfl, hb1⟩
          go_wp2
          go_ret
          exact ⟨ret_int (by unfold btwErr; rw [if_pos (by unfold ends orI; rw [HN.out, if_neg HK.out]; exact HK.out)]; unfold ends orI; rw [HN.out, if_neg HK.out]), hb0.thru hb1 hb0.size⟩
    case rest =>
      obtain ⟨hEa, hb1⟩ := hcut
      have HEa := hidE hEa
      clear hEa
      replace HH := HH.below hb1 (Nat.le_refl _)
      replace hb0 := hb0.thru hb1 hb0.size
      clear hb1 p0 p1 p2 p3
      have X := HH
      simp only [holds_cons, holds_nil] at X
      obtain ⟨⟨_, p0⟩, ⟨_, p1⟩, ⟨_, p2⟩, ⟨_, p3⟩, _⟩ := X
      go_upto_region 5 with fail
      go_cut [23] (fun t we => t = .bool (!(lb.length == 0 && cb == 0)) ∧ Below wc.heap.size wc we)
      case first =>
        go_wp2_with (go_at_call 52; refine (isNone_any _ _ _ _ _).mono ?_; rintro e w1 ⟨rfl, hb1⟩)
        go_meet
        exact ⟨congrArg Value.bool (by simp), hb1⟩
      case rest =>
        obtain ⟨rfl, hb1⟩ := hcut
        replace HH := HH.below hb1 (Nat.le_refl _)
        replace hb0 := hb0.thru hb1 hb0.size
        clear hb1 p0 p1 p2 p3
        have X := HH
        simp only [holds_cons, holds_nil] at X
        obtain ⟨⟨_, p0⟩, ⟨_, p1⟩, ⟨_, p2⟩, ⟨_, p3⟩, _⟩ := X
        go_upto_if 23 with fail
        go_cut [] (fun we => chkEnd lb cb = 0 ∧ Below wc.heap.size wc we)
        case first =>
          cases hn : (lb.length == 0 && cb == 0) with
          | true =>
            have HN := hidE (chkEnd_none hn)
            clear hn
            go_wp2
            go_meet
            exact ⟨HN.out, Below.refl _ _⟩
          | false =>
            have HN := hidE (chkEnd_some hn)
            clear hn
            by_cases hk : chk lb cb = 0
            · have HK := hidE hk
              clear hk
              go_wp2_with fail
              refine (checkMark_any _ _ lb _ _ hlb (hb.below hb0 (Nat.le_refl _))).mono ?_
              rintro e w1 ⟨rfl, hb1⟩
              rw [HK.out]
              go_wp2
              go_meet
              exact ⟨HN.out.trans HK.out, hb1⟩
            · have hk' : (chk lb cb != 0) = true := by rw [bne_iff_ne]; exact hk
              have HK := hidE hk
              clear hk
              go_wp2_with fail
              refine (checkMark_any _ _ lb _ _ hlb (hb.below hb0 (Nat.le_refl _))).mono ?_
              rintro e w1 ⟨rfl, hb1⟩
              go_wp2
              go_ret
              exact ⟨ret_int (by unfold btwErr; rw [if_pos (by unfold ends orI; rw [HEa.out, if_pos rfl, HN.out]; exact HK.out)]; unfold ends orI; rw [HEa.out, if_pos rfl, HN.out]), hb0.thru hb1 hb0.size⟩
        case rest =>
          obtain ⟨hEb, hb1⟩ := hcut
          have HEb := hidE hEb
          clear hEb
          replace HH := HH.below hb1 (Nat.le_refl _)
          replace hb0 := hb0.thru hb1 hb0.size
          clear hb1 p0 p1 p2 p3
          have X := HH
          simp only [holds_cons, holds_nil] at X
          obtain ⟨⟨_, p0⟩, ⟨_, p1⟩, ⟨_, p2⟩, ⟨_, p3⟩, _⟩ := X
          have HE : Hid (ends la ca lb cb = 0) := by show _ = _; unfold ends orI; rw [if_pos HEa.out]; exact HEb.out
          go_upto_region 9 with fail
          go_cut [48] (fun t we => t = .bool (!argsOk site clock many) ∧ we = wc)
          case first =>
            by_cases i1 : inB site 0 4 = true
            · by_cases i2 : inB clock 1 10000 = true
              · have j2 : 1 ≤ clock ∧ clock ≤ 10000 := by simpa [inB] using i2
                by_cases i3 : inB many 1 60 = true
                · have j3 : 1 ≤ many ∧ many ≤ 60 := by simpa [inB] using i3
                  go_wp2_with (go_at_call 34; refine (between_any _ _ _ _).mono ?_; rintro e w' ⟨rfl, rfl⟩)
                  go_meet
                  refine ⟨congrArg Value.bool ?_, rfl⟩
                  unfold argsOk
                  rw [i1, i2, decide_eq_true j3.1, decide_eq_true j3.2]
                  rw [Bool.eq_iff_iff]
                  simp
                · have j3 : ¬ (1 ≤ many ∧ many ≤ 60) := by simpa [inB] using i3
                  go_wp2_with (go_at_call 34; refine (between_any _ _ _ _).mono ?_; rintro e w' ⟨rfl, rfl⟩)
                  go_meet
                  refine ⟨congrArg Value.bool ?_, rfl⟩
                  unfold argsOk
                  by_cases k1 : 1 ≤ many
                  · rw [decide_eq_false (show ¬ many ≤ 60 by omega)]; simp
                  · rw [decide_eq_false k1]; simp
              · go_wp2_with (go_at_call 34; refine (between_any _ _ _ _).mono ?_; rintro e w' ⟨rfl, rfl⟩)
                go_meet
                exact ⟨congrArg Value.bool (by unfold argsOk; simp [i2]), rfl⟩
            · go_wp2_with (go_at_call 34; refine (between_any _ _ _ _).mono ?_; rintro e w' ⟨rfl, rfl⟩)
              go_meet
              exact ⟨congrArg Value.bool (by unfold argsOk; simp [i1]), rfl⟩
          case rest =>
            obtain ⟨rfl, rfl⟩ := hcut
            cases hA : argsOk site clock many with
            | false =>
              have HA := hidE hA
              clear hA
              go_wp2
              go_ret
              exact ⟨ret_int (by unfold btwErr; rw [if_neg (by rw [HE.out]; simp), if_pos HA.out]), hb0⟩
            | true =>
              have HA := hidE hA
              clear hA
              go_upto_region 11 with fail
              go_cut [67] (fun t we => t = .bool (stateBad la lb) ∧ Below wc.heap.size wc we)
              case first =>
                have HNa := hidE (none_len HEa.out)
                have HNb := hidE (none_len HEb.out)
                by_cases i1 : la.length = 0
                · have i1' : decide (la.length = 0) = true := decide_eq_true i1
                  rw [i1'] at HNa
                  have I1 := hidE i1
                  clear i1' i1
                  go_wp2_with fail
                  refine (isNone_b _ _ _ _ _ true HNa.out).mono ?_
                  rintro e w1 ⟨rfl, hb1⟩
                  go_wp2_with fail
                  go_meet
                  exact ⟨congrArg Value.bool (by unfold stateBad; rw [decide_eq_false (show ¬ 0 < la.length by rw [I1.out]; simp)]; rfl), hb1⟩
                · have i1' : decide (la.length = 0) = false := decide_eq_false i1
                  rw [i1'] at HNa
                  have I1 := hidE i1
                  clear i1' i1
                  go_wp2_with fail
                  refine (isNone_b _ _ _ _ _ false HNa.out).mono ?_
                  rintro e w1 ⟨rfl, hb1⟩
                  have X := HH.below hb1 (Nat.le_refl _)
                  simp only [holds_cons, holds_nil] at X
                  obtain ⟨⟨_, r0⟩, ⟨_, r1⟩, ⟨_, r2⟩, ⟨_, r3⟩, _⟩ := X
                  by_cases i2 : lb.length = 0
                  · have i2' : decide (lb.length = 0) = true := decide_eq_true i2
                    rw [i2'] at HNb
                    have I2 := hidE i2
                    clear i2' i2
                    go_wp2_with fail
                    refine (isNone_b _ _ _ _ _ true HNb.out).mono ?_
                    rintro e w2 ⟨rfl, hb2⟩
                    go_wp2_with fail
                    go_meet
                    exact ⟨congrArg Value.bool (by unfold stateBad; rw [decide_eq_false (show ¬ 0 < lb.length by rw [I2.out]; simp)]; simp), hb1.thru hb2 hb1.size⟩
                  · have i2' : decide (lb.length = 0) = false := decide_eq_false i2
                    rw [i2'] at HNb
                    have I2 := hidE i2
                    clear i2' i2
                    go_wp2_with fail
                    refine (isNone_b _ _ _ _ _ false HNb.out).mono ?_
                    rintro e w2 ⟨rfl, hb2⟩
                    have hb3 := hb1.thru hb2 hb1.size
                    have X := HH.below hb3 (Nat.le_refl _)
                    simp only [holds_cons, holds_nil] at X
                    obtain ⟨⟨_, s0⟩, ⟨_, s1⟩, ⟨_, s2⟩, ⟨_, s3⟩, _⟩ := X
                    have hb4 := hb0.thru hb3 hb0.size
                    clear hb1 hb2
                    go_wp2_with fail
                    refine (orderOf_any _ _ _ _ la lb _ _ _ hla hlb (ha.below hb4 (Nat.le_refl _)) (hb.below hb4 (Nat.le_refl _))).mono ?_
                    rintro e w3 ⟨rfl, hb5⟩
                    have hb6 := hb3.thru hb5 hb3.size
                    have hb7 := hb0.thru hb6 hb0.size
                    have X := HH.below hb6 (Nat.le_refl _)
                    simp only [holds_cons, holds_nil] at X
                    obtain ⟨⟨_, t0⟩, ⟨_, t1⟩, ⟨_, t2⟩, ⟨_, t3⟩, _⟩ := X
                    have HSB : Hid (stateBad la lb = (decide (0 ≤ ordM la ca lb cb) || ordP la lb == 0)) := by
                      show _ = _
                      have e1 : decide (0 < la.length) = true := decide_eq_true (by have := I1.out; omega)
                      have e2 : decide (0 < lb.length) = true := decide_eq_true (by have := I2.out; omega)
                      unfold stateBad
                      rw [e1, e2]
                      have hv := cmpP.vals la lb
                      unfold ordM orI
                      rw [Bool.eq_iff_iff]
                      simp
                      split <;> omega
                    by_cases i3 : 0 ≤ ordM la ca lb cb
                    · have i3' : ordM la ca lb cb ≥ 0 := i3
                      have i3d : decide (0 ≤ ordM la ca lb cb) = true := decide_eq_true i3
                      have HS2 : Hid (stateBad la lb = true) := by show _ = _; rw [HSB.out, i3d]; rfl
                      go_wp2_with fail
                      go_meet
                      exact ⟨congrArg Value.bool HS2.out.symm, hb6⟩
                    · have i3' : ¬ ordM la ca lb cb ≥ 0 := i3
                      have i3d : decide (0 ≤ ordM la ca lb cb) = false := decide_eq_false i3
                      have HS2 : Hid (stateBad la lb = (ordP la lb == 0)) := by show _ = _; rw [HSB.out, i3d]; rfl
                      go_wp2_with fail
                      refine (samePath_any _ _ _ _ la lb _ _ _ hla hlb (ha.below hb7 (Nat.le_refl _)) (hb.below hb7 (Nat.le_refl _))).mono ?_
                      rintro e w4 ⟨rfl, hb8⟩
                      go_wp2_with fail
                      go_meet
                      exact ⟨congrArg Value.bool HS2.out.symm, hb6.thru hb8 hb6.size⟩
              case rest =>
                obtain ⟨rfl, hb1⟩ := hcut
                replace HH := HH.below hb1 (Nat.le_refl _)
                replace hb0 := hb0.thru hb1 hb0.size
                clear hb1 p0 p1 p2 p3
                have X := HH
                simp only [holds_cons, holds_nil] at X
                obtain ⟨⟨_, p0⟩, ⟨_, p1⟩, ⟨_, p2⟩, ⟨_, p3⟩, _⟩ := X
                cases hS : stateBad la lb with
                | true =>
                  have HS := hidE hS
                  clear hS
                  go_wp2
                  go_ret
                  exact ⟨ret_int (by unfold btwErr; rw [if_neg (by rw [HE.out]; simp), if_neg (by rw [HA.out]; simp), if_pos HS.out]), hb0⟩
                | false =>
                  have HS := hidE hS
                  clear hS
                  by_cases k1 : 8 < la.length
                  · have k1' : (la.length : Int) > 8 := by omega
                    go_wp2
                    go_ret
                    exact ⟨ret_int (by unfold btwErr; rw [if_neg (by rw [HE.out]; simp), if_neg (by rw [HA.out]; simp), if_neg (by rw [HS.out]; simp), if_pos (by omega)]), hb0⟩
                  · have k1' : ¬ (la.length : Int) > 8 := by omega
                    by_cases k2 : 8 < lb.length
                    · have k2' : (lb.length : Int) > 8 := by omega
                      go_wp2
                      go_ret
                      exact ⟨ret_int (by unfold btwErr; rw [if_neg (by rw [HE.out]; simp), if_neg (by rw [HA.out]; simp), if_neg (by rw [HS.out]; simp), if_pos (by omega)]), hb0⟩
                    · have k2' : ¬ (lb.length : Int) > 8 := by omega
                      go_wp2
                      go_ret
                      exact ⟨ret_int (by unfold btwErr; rw [if_neg (by rw [HE.out]; simp), if_neg (by rw [HA.out]; simp), if_neg (by rw [HS.out]; simp), if_neg (by omega)]), hb0⟩
end Go.Proofs.Ytkmiafhkilhohaa
