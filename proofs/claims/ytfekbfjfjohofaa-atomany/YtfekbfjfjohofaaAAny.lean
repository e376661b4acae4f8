/- The contract of AtomAny. -/
import Derived.Test.YtfekbfjfjohofaaPutR
import Derived.Test.YtfekbfjfjohofaaHasC
import Derived.Test.YtfekbfjfjohofaaText
namespace Go.Proofs.Ytfekbfjfjohofaa
open Go.RowKit

theorem putR_cases (l m : List At) : (∃ er, er ≠ 0 ∧ putR l m = ([], er)) ∨ (chkL l = 0 ∧ chkL m = 0 ∧ (putL l m).length ≤ 300 ∧ putR l m = (putL l m, 0)) := by
  by_cases h0 : orI (chkL l) (chkL m) ≠ 0
  · exact Or.inl ⟨_, h0, by unfold putR; rw [if_pos h0]⟩
  · obtain ⟨h1, h2⟩ := orI_zero (show orI (chkL l) (chkL m) = 0 by omega)
    by_cases h3 : 300 < (putL l m).length
    · exact Or.inl ⟨2, by decide, by unfold putR; rw [if_neg h0, if_pos h3]⟩
    · exact Or.inr ⟨h1, h2, by omega, by unfold putR; rw [if_neg h0, if_neg h3]⟩

theorem putR_ok {l m : List At} (h1 : chkL l = 0) (h2 : chkL m = 0) (h3 : (putL l m).length ≤ 300) : putR l m = (putL l m, 0) := by
  unfold putR
  rw [if_neg (by rw [h1, h2]; decide), if_neg (by omega)]

theorem take_has {l : List At} {ms : List (List (Int × Int) × Int)} {k : Nat} (h : k < l.length) : hasMk (takeL l ms) l[k].path l[k].clock = !hasGone ms l[k].path l[k].clock := by
  have key : ∀ x : At, ordM x.path x.clock l[k].path l[k].clock = 0 → hasGone ms x.path x.clock = hasGone ms l[k].path l[k].clock := by
    intro x hx
    obtain ⟨e1, e2⟩ := ordM_zero hx
    rw [e1, e2]
  cases hg : hasGone ms l[k].path l[k].clock
  · unfold hasMk
    rw [Bool.not_false, List.any_eq_true]
    refine ⟨l[k], ?_, ?_⟩
    · unfold takeL
      rw [List.mem_filter]
      exact ⟨List.getElem_mem h, by rw [hg]; rfl⟩
    · have : ordM l[k].path l[k].clock l[k].path l[k].clock = 0 := cmpM.refl (l[k].path, l[k].clock)
      rw [this]; rfl
  · unfold hasMk
    rw [Bool.not_true, List.any_eq_false]
    intro x hx e
    unfold takeL at hx
    rw [List.mem_filter] at hx
    have e0 : ordM x.path x.clock l[k].path l[k].clock = 0 := by simpa using e
    rw [key x e0, hg] at hx
    exact absurd hx.2 (by decide)

theorem takeL_len (l : List At) (ms : List (List (Int × Int) × Int)) : (takeL l ms).length ≤ l.length := List.length_filter_le _ _

set_option maxRecDepth 100000 in
set_option maxHeartbeats 4000000 in
theorem atomAny_1 (a b d f : Option Addr) (ca cb cd cf : Nat) (l m n : List At) (ms : List (List (Int × Int) × Int)) (w : World) (hl : l.length ≤ maxLen) (hm : m.length ≤ maxLen) (hn : n.length ≤ maxLen) (hk : ms.length ≤ maxLen) (HL : AtomsAt w a l) (HM : AtomsAt w b m) (HN : AtomsAt w d n) (HK : MarksAt w f ms) (er : Int) (h1 : er ≠ 0) (h2 : putR l m = ([], er)) :
    Calls Try.prog 8 #[.slice a l.length ca, .slice b m.length cb, .slice d n.length cd, .slice f ms.length cf] w fun e w' => e = .returned (.bool true) ∧ Below w.heap.size w w' := by
  have hv : (er == 0) = false := beq_eq_false_iff_ne.2 h1
  have R1 := hidE h2
  clear h1 h2
  have hB : Below w.heap.size w w := Below.refl _ _
  have hMl : ∀ n, n ≤ 300 → n ≤ maxLen := fun n h => by unfold maxLen; omega
  go_enter Try.func8, Try.ntmps8
  go_wp2_with fail
  refine (atomBegun_true _).mono ?_
  rintro e w1 ⟨rfl, hb1⟩
  replace HL := HL.below hb1 (Nat.le_refl _)
  replace HM := HM.below hb1 (Nat.le_refl _)
  replace HN := HN.below hb1 (Nat.le_refl _)
  replace HK := HK.below hb1 (Nat.le_refl _)
  replace hB := hB.thru hb1 hB.size
  clear hb1
  go_wp2_with fail
  refine (put_any _ _ _ _ l m _ hl hm HL HM).mono ?_
  rintro e w2 ⟨pA, kA, rfl, HA, hb1⟩
  rw [R1.out] at HA ⊢
  replace HL := HL.below hb1 (Nat.le_refl _)
  replace HM := HM.below hb1 (Nat.le_refl _)
  replace HN := HN.below hb1 (Nat.le_refl _)
  replace HK := HK.below hb1 (Nat.le_refl _)
  replace hB := hB.thru hb1 hB.size
  clear hb1
  go_wp2_with fail
  refine (put_any _ _ _ _ m l _ hm hl HM HL).mono ?_
  rintro e w3 ⟨pB, kB, rfl, HB, hb1⟩
  replace HL := HL.below hb1 (Nat.le_refl _)
  replace HM := HM.below hb1 (Nat.le_refl _)
  replace HN := HN.below hb1 (Nat.le_refl _)
  replace HK := HK.below hb1 (Nat.le_refl _)
  replace HA := HA.below hb1 (Nat.le_refl _)
  replace hB := hB.thru hb1 hB.size
  clear hb1
  go_wp2_with fail
  refine (put_any _ _ _ _ [] n _ (Nat.zero_le _) hn HA HN).mono ?_
  rintro e w4 ⟨pC, kC, rfl, HC, hb1⟩
  replace HL := HL.below hb1 (Nat.le_refl _)
  replace HM := HM.below hb1 (Nat.le_refl _)
  replace HN := HN.below hb1 (Nat.le_refl _)
  replace HK := HK.below hb1 (Nat.le_refl _)
  replace HA := HA.below hb1 (Nat.le_refl _)
  replace hB := hB.thru hb1 hB.size
  clear hb1
  go_wp2_with fail
  refine (put_any _ _ _ _ m n _ hm hn HM HN).mono ?_
  rintro e w5 ⟨pD, kD, rfl, HD, hb1⟩
  replace HL := HL.below hb1 (Nat.le_refl _)
  replace HM := HM.below hb1 (Nat.le_refl _)
  replace HN := HN.below hb1 (Nat.le_refl _)
  replace HK := HK.below hb1 (Nat.le_refl _)
  replace HA := HA.below hb1 (Nat.le_refl _)
  replace hB := hB.thru hb1 hB.size
  clear hb1
  clear HA HB HC HD
  by_cases h0 : chkL l = 0
  rotate_left
  · have hv : (chkL l != 0) = true := bne_iff_ne.2 h0
    have H0 := hidE h0
    clear h0
    go_wp2_with fail
    refine (take_bad _ _ _ _ l ms _ hl HL H0.out).mono ?_
    rintro e w9 ⟨rfl, hb1⟩
    replace hB := hB.thru hb1 hB.size
    go_wp2_with fail
    go_ret
    exact ⟨rfl, hB⟩
  have h300 := chkL_len h0
  have H0 := hidE h0
  clear h0
  go_wp2_with fail
  refine (take_is _ _ _ _ l ms _ HL H0.out hk HK).mono ?_
  rintro e w9 ⟨pt, kt, rfl, HT, hb1⟩
  replace HL := HL.below hb1 (Nat.le_refl _)
  replace HK := HK.below hb1 (Nat.le_refl _)
  replace hB := hB.thru hb1 hB.size
  clear hb1
  have htl := takeL_len l ms
  have htm := hMl (takeL l ms).length (by omega)
  unfold maxLen at hk
  go_wp2_with fail
  go_loopw [20] (fun i wr => ∃ k : Nat, k ≤ l.length ∧ i = .int .i64 k ∧ Below w9.heap.size w9 wr) (fun i _ => l.length - (intOf i).toNat)
  case atStart => exact ⟨0, Nat.zero_le _, rfl, Below.refl _ _⟩
  case round =>
    obtain ⟨k, hk2, rfl, hb⟩ := hrel
    by_cases hlt : k < l.length
    · have HTH := hidE (take_has (ms := ms) hlt)
      have HTb := HT.below hb (Nat.le_refl _)
      have HKb := HK.below hb (Nat.le_refl _)
      rcases HL.below hb (Nat.le_refl _) with hs | ⟨ab, ao, rfl, hab, hc⟩
      · simp [hs] at hlt
      obtain ⟨p, cp, c0, c1, c2, hst, hle, _, s0, s1⟩ := hc k hlt
      have hi1 : (k : Int) < l.length := by omega
      generalize l[k].path = pk at *
      generalize l[k].clock = ck at *
      generalize l[k].sign = sk at *
      clear hc HL
      have k0 := cell_regrown c0
      have k1 := cell_regrown c1
      have S1 := hidE (fun d os => hst.below (below_regrown wr d os) (Nat.le_refl _))
      have S2 := hidE (fun d os => HTb.below (below_regrown wr d os) (Nat.le_refl _))
      have S3 := hidE (fun d os => HKb.below (below_regrown wr d os) (Nat.le_refl _))
      have hkm : ms.length ≤ maxLen := by unfold maxLen; exact hk
      have HTM : Hid ((takeL l ms).length ≤ maxLen) := htm
      clear HT HK hst HTb HKb htm
      go_upto_region 19 with fail
      refine wp_region_quiet_below (by kernel_rfl) (by kernel_rfl) ?_
      repeat (first | go_big_quiet_step ((first | (go_at_call 31; exact Calls.regrown_of (hasMark_any _ _ _ _ (takeL l ms) pk _ _ HTM.out hle (S2.out _ _) (S1.out _ _))) | (go_at_call 32; exact Calls.regrown_of (hasGone_any _ _ _ _ ms pk _ _ hkm hle (S3.out _ _) (S1.out _ _))))) | quiet_step ((first | (go_at_call 31; exact Calls.regrown_of (hasMark_any _ _ _ _ (takeL l ms) pk _ _ HTM.out hle (S2.out _ _) (S1.out _ _))) | (go_at_call 32; exact Calls.regrown_of (hasGone_any _ _ _ _ ms pk _ _ hkm hle (S3.out _ _) (S1.out _ _))))))
      refine wpQuiet_nil ?_
      intro _ hw'
      obtain ⟨⟨dq, osq⟩, hw''⟩ := hw'
      subst hw''
      rw [HTH.out]
      cases hg : hasGone ms pk ck
      all_goals
        have HG := hidE hg
        clear hg
        go_wp2_with fail
        go_roundw
        case rel => exact ⟨k + 1, by omega, by go_num, hb.thru (below_regrown _ _ _) hb.size⟩
        case measure => simp [intOf]; omega
    · have hd : ((takeL l ms).length : Int) ≤ l.length := by omega
      go_wp2_with fail
      go_ret
      exact ⟨by simp, hB.thru hb hB.size⟩

set_option maxRecDepth 100000 in
set_option maxHeartbeats 4000000 in
theorem atomAny_2 (a b d f : Option Addr) (ca cb cd cf : Nat) (l m n : List At) (ms : List (List (Int × Int) × Int)) (w : World) (hl : l.length ≤ maxLen) (hm : m.length ≤ maxLen) (hn : n.length ≤ maxLen) (hk : ms.length ≤ maxLen) (HL : AtomsAt w a l) (HM : AtomsAt w b m) (HN : AtomsAt w d n) (HK : MarksAt w f ms) (xs : List At) (hx : xs.length ≤ 300) (h1 : putR l m = (xs, 0)) (h2 : putR m l = (xs, 0)) (er : Int) (h3 : er ≠ 0) (h4 : putR xs n = ([], er)) :
    Calls Try.prog 8 #[.slice a l.length ca, .slice b m.length cb, .slice d n.length cd, .slice f ms.length cf] w fun e w' => e = .returned (.bool true) ∧ Below w.heap.size w w' := by
  have R1 := hidE h1
  have R2 := hidE h2
  clear h1 h2
  have hv : (er == 0) = false := beq_eq_false_iff_ne.2 h3
  have R3 := hidE h4
  clear h3 h4
  have hB : Below w.heap.size w w := Below.refl _ _
  have hMl : ∀ n, n ≤ 300 → n ≤ maxLen := fun n h => by unfold maxLen; omega
  go_enter Try.func8, Try.ntmps8
  go_wp2_with fail
  refine (atomBegun_true _).mono ?_
  rintro e w1 ⟨rfl, hb1⟩
  replace HL := HL.below hb1 (Nat.le_refl _)
  replace HM := HM.below hb1 (Nat.le_refl _)
  replace HN := HN.below hb1 (Nat.le_refl _)
  replace HK := HK.below hb1 (Nat.le_refl _)
  replace hB := hB.thru hb1 hB.size
  clear hb1
  go_wp2_with fail
  refine (put_any _ _ _ _ l m _ hl hm HL HM).mono ?_
  rintro e w2 ⟨pA, kA, rfl, HA, hb1⟩
  rw [R1.out] at HA ⊢
  replace HL := HL.below hb1 (Nat.le_refl _)
  replace HM := HM.below hb1 (Nat.le_refl _)
  replace HN := HN.below hb1 (Nat.le_refl _)
  replace HK := HK.below hb1 (Nat.le_refl _)
  replace hB := hB.thru hb1 hB.size
  clear hb1
  go_wp2_with fail
  refine (put_any _ _ _ _ m l _ hm hl HM HL).mono ?_
  rintro e w3 ⟨pB, kB, rfl, HB, hb1⟩
  rw [R2.out] at HB ⊢
  replace HL := HL.below hb1 (Nat.le_refl _)
  replace HM := HM.below hb1 (Nat.le_refl _)
  replace HN := HN.below hb1 (Nat.le_refl _)
  replace HK := HK.below hb1 (Nat.le_refl _)
  replace HA := HA.below hb1 (Nat.le_refl _)
  replace hB := hB.thru hb1 hB.size
  clear hb1
  go_wp2_with fail
  refine (sameAtoms_any _ _ _ _ xs xs _ (hMl _ hx) (hMl _ hx) HA HB).mono ?_
  rintro e w3b ⟨rfl, hb1⟩
  rw [sameL_refl]
  replace HL := HL.below hb1 (Nat.le_refl _)
  replace HM := HM.below hb1 (Nat.le_refl _)
  replace HN := HN.below hb1 (Nat.le_refl _)
  replace HK := HK.below hb1 (Nat.le_refl _)
  replace HA := HA.below hb1 (Nat.le_refl _)
  replace hB := hB.thru hb1 hB.size
  clear hb1
  go_wp2_with fail
  refine (put_any _ _ _ _ xs n _ (hMl _ hx) hn HA HN).mono ?_
  rintro e w4 ⟨pC, kC, rfl, HC, hb1⟩
  rw [R3.out] at HC ⊢
  replace HL := HL.below hb1 (Nat.le_refl _)
  replace HM := HM.below hb1 (Nat.le_refl _)
  replace HN := HN.below hb1 (Nat.le_refl _)
  replace HK := HK.below hb1 (Nat.le_refl _)
  replace HA := HA.below hb1 (Nat.le_refl _)
  replace hB := hB.thru hb1 hB.size
  clear hb1
  go_wp2_with fail
  refine (put_any _ _ _ _ m n _ hm hn HM HN).mono ?_
  rintro e w5 ⟨pD, kD, rfl, HD, hb1⟩
  replace HL := HL.below hb1 (Nat.le_refl _)
  replace HM := HM.below hb1 (Nat.le_refl _)
  replace HN := HN.below hb1 (Nat.le_refl _)
  replace HK := HK.below hb1 (Nat.le_refl _)
  replace HA := HA.below hb1 (Nat.le_refl _)
  replace hB := hB.thru hb1 hB.size
  clear hb1
  clear HA HB HC HD
  by_cases h0 : chkL l = 0
  rotate_left
  · have hv : (chkL l != 0) = true := bne_iff_ne.2 h0
    have H0 := hidE h0
    clear h0
    go_wp2_with fail
    refine (take_bad _ _ _ _ l ms _ hl HL H0.out).mono ?_
    rintro e w9 ⟨rfl, hb1⟩
    replace hB := hB.thru hb1 hB.size
    go_wp2_with fail
    go_ret
    exact ⟨rfl, hB⟩
  have h300 := chkL_len h0
  have H0 := hidE h0
  clear h0
  go_wp2_with fail
  refine (take_is _ _ _ _ l ms _ HL H0.out hk HK).mono ?_
  rintro e w9 ⟨pt, kt, rfl, HT, hb1⟩
  replace HL := HL.below hb1 (Nat.le_refl _)
  replace HK := HK.below hb1 (Nat.le_refl _)
  replace hB := hB.thru hb1 hB.size
  clear hb1
  have htl := takeL_len l ms
  have htm := hMl (takeL l ms).length (by omega)
  unfold maxLen at hk
  go_wp2_with fail
  go_loopw [20] (fun i wr => ∃ k : Nat, k ≤ l.length ∧ i = .int .i64 k ∧ Below w9.heap.size w9 wr) (fun i _ => l.length - (intOf i).toNat)
  case atStart => exact ⟨0, Nat.zero_le _, rfl, Below.refl _ _⟩
  case round =>
    obtain ⟨k, hk2, rfl, hb⟩ := hrel
    by_cases hlt : k < l.length
    · have HTH := hidE (take_has (ms := ms) hlt)
      have HTb := HT.below hb (Nat.le_refl _)
      have HKb := HK.below hb (Nat.le_refl _)
      rcases HL.below hb (Nat.le_refl _) with hs | ⟨ab, ao, rfl, hab, hc⟩
      · simp [hs] at hlt
      obtain ⟨p, cp, c0, c1, c2, hst, hle, _, s0, s1⟩ := hc k hlt
      have hi1 : (k : Int) < l.length := by omega
      generalize l[k].path = pk at *
      generalize l[k].clock = ck at *
      generalize l[k].sign = sk at *
      clear hc HL
      have k0 := cell_regrown c0
      have k1 := cell_regrown c1
      have S1 := hidE (fun d os => hst.below (below_regrown wr d os) (Nat.le_refl _))
      have S2 := hidE (fun d os => HTb.below (below_regrown wr d os) (Nat.le_refl _))
      have S3 := hidE (fun d os => HKb.below (below_regrown wr d os) (Nat.le_refl _))
      have hkm : ms.length ≤ maxLen := by unfold maxLen; exact hk
      have HTM : Hid ((takeL l ms).length ≤ maxLen) := htm
      clear HT HK hst HTb HKb htm
      go_upto_region 19 with fail
      refine wp_region_quiet_below (by kernel_rfl) (by kernel_rfl) ?_
      repeat (first | go_big_quiet_step ((first | (go_at_call 31; exact Calls.regrown_of (hasMark_any _ _ _ _ (takeL l ms) pk _ _ HTM.out hle (S2.out _ _) (S1.out _ _))) | (go_at_call 32; exact Calls.regrown_of (hasGone_any _ _ _ _ ms pk _ _ hkm hle (S3.out _ _) (S1.out _ _))))) | quiet_step ((first | (go_at_call 31; exact Calls.regrown_of (hasMark_any _ _ _ _ (takeL l ms) pk _ _ HTM.out hle (S2.out _ _) (S1.out _ _))) | (go_at_call 32; exact Calls.regrown_of (hasGone_any _ _ _ _ ms pk _ _ hkm hle (S3.out _ _) (S1.out _ _))))))
      refine wpQuiet_nil ?_
      intro _ hw'
      obtain ⟨⟨dq, osq⟩, hw''⟩ := hw'
      subst hw''
      rw [HTH.out]
      cases hg : hasGone ms pk ck
      all_goals
        have HG := hidE hg
        clear hg
        go_wp2_with fail
        go_roundw
        case rel => exact ⟨k + 1, by omega, by go_num, hb.thru (below_regrown _ _ _) hb.size⟩
        case measure => simp [intOf]; omega
    · have hd : ((takeL l ms).length : Int) ≤ l.length := by omega
      go_wp2_with fail
      go_ret
      exact ⟨by simp, hB.thru hb hB.size⟩

set_option maxRecDepth 100000 in
set_option maxHeartbeats 4000000 in
theorem atomAny_3 (a b d f : Option Addr) (ca cb cd cf : Nat) (l m n : List At) (ms : List (List (Int × Int) × Int)) (w : World) (hl : l.length ≤ maxLen) (hm : m.length ≤ maxLen) (hn : n.length ≤ maxLen) (hk : ms.length ≤ maxLen) (HL : AtomsAt w a l) (HM : AtomsAt w b m) (HN : AtomsAt w d n) (HK : MarksAt w f ms) (xs : List At) (hx : xs.length ≤ 300) (h1 : putR l m = (xs, 0)) (h2 : putR m l = (xs, 0)) (ys : List At) (h4 : putR xs n = (ys, 0)) (er : Int) (h5 : er ≠ 0) (h6 : putR m n = ([], er)) :
    Calls Try.prog 8 #[.slice a l.length ca, .slice b m.length cb, .slice d n.length cd, .slice f ms.length cf] w fun e w' => e = .returned (.bool true) ∧ Below w.heap.size w w' := by
  have R1 := hidE h1
  have R2 := hidE h2
  clear h1 h2
  have hv : (er == 0) = false := beq_eq_false_iff_ne.2 h5
  have R3 := hidE h4
  have R4 := hidE h6
  clear h4 h5 h6
  have hB : Below w.heap.size w w := Below.refl _ _
  have hMl : ∀ n, n ≤ 300 → n ≤ maxLen := fun n h => by unfold maxLen; omega
  go_enter Try.func8, Try.ntmps8
  go_wp2_with fail
  refine (atomBegun_true _).mono ?_
  rintro e w1 ⟨rfl, hb1⟩
  replace HL := HL.below hb1 (Nat.le_refl _)
  replace HM := HM.below hb1 (Nat.le_refl _)
  replace HN := HN.below hb1 (Nat.le_refl _)
  replace HK := HK.below hb1 (Nat.le_refl _)
  replace hB := hB.thru hb1 hB.size
  clear hb1
  go_wp2_with fail
  refine (put_any _ _ _ _ l m _ hl hm HL HM).mono ?_
  rintro e w2 ⟨pA, kA, rfl, HA, hb1⟩
  rw [R1.out] at HA ⊢
  replace HL := HL.below hb1 (Nat.le_refl _)
  replace HM := HM.below hb1 (Nat.le_refl _)
  replace HN := HN.below hb1 (Nat.le_refl _)
  replace HK := HK.below hb1 (Nat.le_refl _)
  replace hB := hB.thru hb1 hB.size
  clear hb1
  go_wp2_with fail
  refine (put_any _ _ _ _ m l _ hm hl HM HL).mono ?_
  rintro e w3 ⟨pB, kB, rfl, HB, hb1⟩
  rw [R2.out] at HB ⊢
  replace HL := HL.below hb1 (Nat.le_refl _)
  replace HM := HM.below hb1 (Nat.le_refl _)
  replace HN := HN.below hb1 (Nat.le_refl _)
  replace HK := HK.below hb1 (Nat.le_refl _)
  replace HA := HA.below hb1 (Nat.le_refl _)
  replace hB := hB.thru hb1 hB.size
  clear hb1
  go_wp2_with fail
  refine (sameAtoms_any _ _ _ _ xs xs _ (hMl _ hx) (hMl _ hx) HA HB).mono ?_
  rintro e w3b ⟨rfl, hb1⟩
  rw [sameL_refl]
  replace HL := HL.below hb1 (Nat.le_refl _)
  replace HM := HM.below hb1 (Nat.le_refl _)
  replace HN := HN.below hb1 (Nat.le_refl _)
  replace HK := HK.below hb1 (Nat.le_refl _)
  replace HA := HA.below hb1 (Nat.le_refl _)
  replace hB := hB.thru hb1 hB.size
  clear hb1
  go_wp2_with fail
  refine (put_any _ _ _ _ xs n _ (hMl _ hx) hn HA HN).mono ?_
  rintro e w4 ⟨pC, kC, rfl, HC, hb1⟩
  rw [R3.out] at HC ⊢
  replace HL := HL.below hb1 (Nat.le_refl _)
  replace HM := HM.below hb1 (Nat.le_refl _)
  replace HN := HN.below hb1 (Nat.le_refl _)
  replace HK := HK.below hb1 (Nat.le_refl _)
  replace HA := HA.below hb1 (Nat.le_refl _)
  replace hB := hB.thru hb1 hB.size
  clear hb1
  go_wp2_with fail
  refine (put_any _ _ _ _ m n _ hm hn HM HN).mono ?_
  rintro e w5 ⟨pD, kD, rfl, HD, hb1⟩
  rw [R4.out] at HD ⊢
  replace HL := HL.below hb1 (Nat.le_refl _)
  replace HM := HM.below hb1 (Nat.le_refl _)
  replace HN := HN.below hb1 (Nat.le_refl _)
  replace HK := HK.below hb1 (Nat.le_refl _)
  replace HA := HA.below hb1 (Nat.le_refl _)
  replace hB := hB.thru hb1 hB.size
  clear hb1
  clear HA HB HC HD
  by_cases h0 : chkL l = 0
  rotate_left
  · have hv : (chkL l != 0) = true := bne_iff_ne.2 h0
    have H0 := hidE h0
    clear h0
    go_wp2_with fail
    refine (take_bad _ _ _ _ l ms _ hl HL H0.out).mono ?_
    rintro e w9 ⟨rfl, hb1⟩
    replace hB := hB.thru hb1 hB.size
    go_wp2_with fail
    go_ret
    exact ⟨rfl, hB⟩
  have h300 := chkL_len h0
  have H0 := hidE h0
  clear h0
  go_wp2_with fail
  refine (take_is _ _ _ _ l ms _ HL H0.out hk HK).mono ?_
  rintro e w9 ⟨pt, kt, rfl, HT, hb1⟩
  replace HL := HL.below hb1 (Nat.le_refl _)
  replace HK := HK.below hb1 (Nat.le_refl _)
  replace hB := hB.thru hb1 hB.size
  clear hb1
  have htl := takeL_len l ms
  have htm := hMl (takeL l ms).length (by omega)
  unfold maxLen at hk
  go_wp2_with fail
  go_loopw [20] (fun i wr => ∃ k : Nat, k ≤ l.length ∧ i = .int .i64 k ∧ Below w9.heap.size w9 wr) (fun i _ => l.length - (intOf i).toNat)
  case atStart => exact ⟨0, Nat.zero_le _, rfl, Below.refl _ _⟩
  case round =>
    obtain ⟨k, hk2, rfl, hb⟩ := hrel
    by_cases hlt : k < l.length
    · have HTH := hidE (take_has (ms := ms) hlt)
      have HTb := HT.below hb (Nat.le_refl _)
      have HKb := HK.below hb (Nat.le_refl _)
      rcases HL.below hb (Nat.le_refl _) with hs | ⟨ab, ao, rfl, hab, hc⟩
      · simp [hs] at hlt
      obtain ⟨p, cp, c0, c1, c2, hst, hle, _, s0, s1⟩ := hc k hlt
      have hi1 : (k : Int) < l.length := by omega
      generalize l[k].path = pk at *
      generalize l[k].clock = ck at *
      generalize l[k].sign = sk at *
      clear hc HL
      have k0 := cell_regrown c0
      have k1 := cell_regrown c1
      have S1 := hidE (fun d os => hst.below (below_regrown wr d os) (Nat.le_refl _))
      have S2 := hidE (fun d os => HTb.below (below_regrown wr d os) (Nat.le_refl _))
      have S3 := hidE (fun d os => HKb.below (below_regrown wr d os) (Nat.le_refl _))
      have hkm : ms.length ≤ maxLen := by unfold maxLen; exact hk
      have HTM : Hid ((takeL l ms).length ≤ maxLen) := htm
      clear HT HK hst HTb HKb htm
      go_upto_region 19 with fail
      refine wp_region_quiet_below (by kernel_rfl) (by kernel_rfl) ?_
      repeat (first | go_big_quiet_step ((first | (go_at_call 31; exact Calls.regrown_of (hasMark_any _ _ _ _ (takeL l ms) pk _ _ HTM.out hle (S2.out _ _) (S1.out _ _))) | (go_at_call 32; exact Calls.regrown_of (hasGone_any _ _ _ _ ms pk _ _ hkm hle (S3.out _ _) (S1.out _ _))))) | quiet_step ((first | (go_at_call 31; exact Calls.regrown_of (hasMark_any _ _ _ _ (takeL l ms) pk _ _ HTM.out hle (S2.out _ _) (S1.out _ _))) | (go_at_call 32; exact Calls.regrown_of (hasGone_any _ _ _ _ ms pk _ _ hkm hle (S3.out _ _) (S1.out _ _))))))
      refine wpQuiet_nil ?_
      intro _ hw'
      obtain ⟨⟨dq, osq⟩, hw''⟩ := hw'
      subst hw''
      rw [HTH.out]
      cases hg : hasGone ms pk ck
      all_goals
        have HG := hidE hg
        clear hg
        go_wp2_with fail
        go_roundw
        case rel => exact ⟨k + 1, by omega, by go_num, hb.thru (below_regrown _ _ _) hb.size⟩
        case measure => simp [intOf]; omega
    · have hd : ((takeL l ms).length : Int) ≤ l.length := by omega
      go_wp2_with fail
      go_ret
      exact ⟨by simp, hB.thru hb hB.size⟩

set_option maxRecDepth 100000 in
set_option maxHeartbeats 4000000 in
theorem atomAny_4 (a b d f : Option Addr) (ca cb cd cf : Nat) (l m n : List At) (ms : List (List (Int × Int) × Int)) (w : World) (hl : l.length ≤ maxLen) (hm : m.length ≤ maxLen) (hn : n.length ≤ maxLen) (hk : ms.length ≤ maxLen) (HL : AtomsAt w a l) (HM : AtomsAt w b m) (HN : AtomsAt w d n) (HK : MarksAt w f ms) (xs : List At) (hx : xs.length ≤ 300) (h1 : putR l m = (xs, 0)) (h2 : putR m l = (xs, 0)) (ys : List At) (hy : ys.length ≤ 300) (h4 : putR xs n = (ys, 0)) (zs : List At) (hz : zs.length ≤ 300) (h6 : putR m n = (zs, 0)) (h7 : putR l zs = (ys, 0)) :
    Calls Try.prog 8 #[.slice a l.length ca, .slice b m.length cb, .slice d n.length cd, .slice f ms.length cf] w fun e w' => e = .returned (.bool true) ∧ Below w.heap.size w w' := by
  have R1 := hidE h1
  have R2 := hidE h2
  clear h1 h2
  have R3 := hidE h4
  have R4 := hidE h6
  have R5 := hidE h7
  clear h4 h6 h7
  have hB : Below w.heap.size w w := Below.refl _ _
  have hMl : ∀ n, n ≤ 300 → n ≤ maxLen := fun n h => by unfold maxLen; omega
  go_enter Try.func8, Try.ntmps8
  go_wp2_with fail
  refine (atomBegun_true _).mono ?_
  rintro e w1 ⟨rfl, hb1⟩
  replace HL := HL.below hb1 (Nat.le_refl _)
  replace HM := HM.below hb1 (Nat.le_refl _)
  replace HN := HN.below hb1 (Nat.le_refl _)
  replace HK := HK.below hb1 (Nat.le_refl _)
  replace hB := hB.thru hb1 hB.size
  clear hb1
  go_wp2_with fail
  refine (put_any _ _ _ _ l m _ hl hm HL HM).mono ?_
  rintro e w2 ⟨pA, kA, rfl, HA, hb1⟩
  rw [R1.out] at HA ⊢
  replace HL := HL.below hb1 (Nat.le_refl _)
  replace HM := HM.below hb1 (Nat.le_refl _)
  replace HN := HN.below hb1 (Nat.le_refl _)
  replace HK := HK.below hb1 (Nat.le_refl _)
  replace hB := hB.thru hb1 hB.size
  clear hb1
  go_wp2_with fail
  refine (put_any _ _ _ _ m l _ hm hl HM HL).mono ?_
  rintro e w3 ⟨pB, kB, rfl, HB, hb1⟩
  rw [R2.out] at HB ⊢
  replace HL := HL.below hb1 (Nat.le_refl _)
  replace HM := HM.below hb1 (Nat.le_refl _)
  replace HN := HN.below hb1 (Nat.le_refl _)
  replace HK := HK.below hb1 (Nat.le_refl _)
  replace HA := HA.below hb1 (Nat.le_refl _)
  replace hB := hB.thru hb1 hB.size
  clear hb1
  go_wp2_with fail
  refine (sameAtoms_any _ _ _ _ xs xs _ (hMl _ hx) (hMl _ hx) HA HB).mono ?_
  rintro e w3b ⟨rfl, hb1⟩
  rw [sameL_refl]
  replace HL := HL.below hb1 (Nat.le_refl _)
  replace HM := HM.below hb1 (Nat.le_refl _)
  replace HN := HN.below hb1 (Nat.le_refl _)
  replace HK := HK.below hb1 (Nat.le_refl _)
  replace HA := HA.below hb1 (Nat.le_refl _)
  replace hB := hB.thru hb1 hB.size
  clear hb1
  go_wp2_with fail
  refine (put_any _ _ _ _ xs n _ (hMl _ hx) hn HA HN).mono ?_
  rintro e w4 ⟨pC, kC, rfl, HC, hb1⟩
  rw [R3.out] at HC ⊢
  replace HL := HL.below hb1 (Nat.le_refl _)
  replace HM := HM.below hb1 (Nat.le_refl _)
  replace HN := HN.below hb1 (Nat.le_refl _)
  replace HK := HK.below hb1 (Nat.le_refl _)
  replace HA := HA.below hb1 (Nat.le_refl _)
  replace hB := hB.thru hb1 hB.size
  clear hb1
  go_wp2_with fail
  refine (put_any _ _ _ _ m n _ hm hn HM HN).mono ?_
  rintro e w5 ⟨pD, kD, rfl, HD, hb1⟩
  rw [R4.out] at HD ⊢
  replace HL := HL.below hb1 (Nat.le_refl _)
  replace HM := HM.below hb1 (Nat.le_refl _)
  replace HN := HN.below hb1 (Nat.le_refl _)
  replace HK := HK.below hb1 (Nat.le_refl _)
  replace HC := HC.below hb1 (Nat.le_refl _)
  replace hB := hB.thru hb1 hB.size
  clear hb1
  go_wp2_with fail
  refine (put_any _ _ _ _ l zs _ hl (hMl _ hz) HL HD).mono ?_
  rintro e w6 ⟨pX, kX, rfl, HX, hb1⟩
  rw [R5.out] at HX ⊢
  replace HL := HL.below hb1 (Nat.le_refl _)
  replace HM := HM.below hb1 (Nat.le_refl _)
  replace HN := HN.below hb1 (Nat.le_refl _)
  replace HK := HK.below hb1 (Nat.le_refl _)
  replace HC := HC.below hb1 (Nat.le_refl _)
  replace hB := hB.thru hb1 hB.size
  clear hb1
  go_wp2_with fail
  refine (sameAtoms_any _ _ _ _ ys ys _ (hMl _ hy) (hMl _ hy) HX HC).mono ?_
  rintro e w7 ⟨rfl, hb1⟩
  rw [sameL_refl]
  replace HL := HL.below hb1 (Nat.le_refl _)
  replace HM := HM.below hb1 (Nat.le_refl _)
  replace HN := HN.below hb1 (Nat.le_refl _)
  replace HK := HK.below hb1 (Nat.le_refl _)
  replace hB := hB.thru hb1 hB.size
  clear hb1
  clear HA HB HC HD HX
  by_cases h0 : chkL l = 0
  rotate_left
  · have hv : (chkL l != 0) = true := bne_iff_ne.2 h0
    have H0 := hidE h0
    clear h0
    go_wp2_with fail
    refine (take_bad _ _ _ _ l ms _ hl HL H0.out).mono ?_
    rintro e w9 ⟨rfl, hb1⟩
    replace hB := hB.thru hb1 hB.size
    go_wp2_with fail
    go_ret
    exact ⟨rfl, hB⟩
  have h300 := chkL_len h0
  have H0 := hidE h0
  clear h0
  go_wp2_with fail
  refine (take_is _ _ _ _ l ms _ HL H0.out hk HK).mono ?_
  rintro e w9 ⟨pt, kt, rfl, HT, hb1⟩
  replace HL := HL.below hb1 (Nat.le_refl _)
  replace HK := HK.below hb1 (Nat.le_refl _)
  replace hB := hB.thru hb1 hB.size
  clear hb1
  have htl := takeL_len l ms
  have htm := hMl (takeL l ms).length (by omega)
  unfold maxLen at hk
  go_wp2_with fail
  go_loopw [20] (fun i wr => ∃ k : Nat, k ≤ l.length ∧ i = .int .i64 k ∧ Below w9.heap.size w9 wr) (fun i _ => l.length - (intOf i).toNat)
  case atStart => exact ⟨0, Nat.zero_le _, rfl, Below.refl _ _⟩
  case round =>
    obtain ⟨k, hk2, rfl, hb⟩ := hrel
    by_cases hlt : k < l.length
    · have HTH := hidE (take_has (ms := ms) hlt)
      have HTb := HT.below hb (Nat.le_refl _)
      have HKb := HK.below hb (Nat.le_refl _)
      rcases HL.below hb (Nat.le_refl _) with hs | ⟨ab, ao, rfl, hab, hc⟩
      · simp [hs] at hlt
      obtain ⟨p, cp, c0, c1, c2, hst, hle, _, s0, s1⟩ := hc k hlt
      have hi1 : (k : Int) < l.length := by omega
      generalize l[k].path = pk at *
      generalize l[k].clock = ck at *
      generalize l[k].sign = sk at *
      clear hc HL
      have k0 := cell_regrown c0
      have k1 := cell_regrown c1
      have S1 := hidE (fun d os => hst.below (below_regrown wr d os) (Nat.le_refl _))
      have S2 := hidE (fun d os => HTb.below (below_regrown wr d os) (Nat.le_refl _))
      have S3 := hidE (fun d os => HKb.below (below_regrown wr d os) (Nat.le_refl _))
      have hkm : ms.length ≤ maxLen := by unfold maxLen; exact hk
      have HTM : Hid ((takeL l ms).length ≤ maxLen) := htm
      clear HT HK hst HTb HKb htm
      go_upto_region 19 with fail
      refine wp_region_quiet_below (by kernel_rfl) (by kernel_rfl) ?_
      repeat (first | go_big_quiet_step ((first | (go_at_call 31; exact Calls.regrown_of (hasMark_any _ _ _ _ (takeL l ms) pk _ _ HTM.out hle (S2.out _ _) (S1.out _ _))) | (go_at_call 32; exact Calls.regrown_of (hasGone_any _ _ _ _ ms pk _ _ hkm hle (S3.out _ _) (S1.out _ _))))) | quiet_step ((first | (go_at_call 31; exact Calls.regrown_of (hasMark_any _ _ _ _ (takeL l ms) pk _ _ HTM.out hle (S2.out _ _) (S1.out _ _))) | (go_at_call 32; exact Calls.regrown_of (hasGone_any _ _ _ _ ms pk _ _ hkm hle (S3.out _ _) (S1.out _ _))))))
      refine wpQuiet_nil ?_
      intro _ hw'
      obtain ⟨⟨dq, osq⟩, hw''⟩ := hw'
      subst hw''
      rw [HTH.out]
      cases hg : hasGone ms pk ck
      all_goals
        have HG := hidE hg
        clear hg
        go_wp2_with fail
        go_roundw
        case rel => exact ⟨k + 1, by omega, by go_num, hb.thru (below_regrown _ _ _) hb.size⟩
        case measure => simp [intOf]; omega
    · have hd : ((takeL l ms).length : Int) ≤ l.length := by omega
      go_wp2_with fail
      go_ret
      exact ⟨by simp, hB.thru hb hB.size⟩


theorem atomAny_true (a b d f : Option Addr) (ca cb cd cf : Nat) (l m n : List At) (ms : List (List (Int × Int) × Int)) (w : World) (hl : l.length ≤ maxLen) (hm : m.length ≤ maxLen) (hn : n.length ≤ maxLen) (hk : ms.length ≤ maxLen) (HL : AtomsAt w a l) (HM : AtomsAt w b m) (HN : AtomsAt w d n) (HK : MarksAt w f ms) :
    Calls Try.prog 8 #[.slice a l.length ca, .slice b m.length cb, .slice d n.length cd, .slice f ms.length cf] w fun e w' => e = .returned (.bool true) ∧ Below w.heap.size w w' := by
  rcases putR_cases l m with ⟨er, h1, h2⟩ | ⟨c1, c2, hx, h1⟩
  · exact atomAny_1 a b d f ca cb cd cf l m n ms w hl hm hn hk HL HM HN HK er h1 h2
  have kl := okL_of c1
  have km := okL_of c2
  have hcm : putL m l = putL l m := putL_comm km.rise kl.rise
  have h2 : putR m l = (putL l m, 0) := by rw [putR_ok c2 c1 (by rw [hcm]; exact hx), hcm]
  rcases putR_cases (putL l m) n with ⟨er, h3, h4⟩ | ⟨c3, c4, hy, h4⟩
  · exact atomAny_2 a b d f ca cb cd cf l m n ms w hl hm hn hk HL HM HN HK _ hx h1 h2 er h3 h4
  rcases putR_cases m n with ⟨er, h5, h6⟩ | ⟨_, _, hz, h6⟩
  · exact atomAny_3 a b d f ca cb cd cf l m n ms w hl hm hn hk HL HM HN HK _ hx h1 h2 _ h4 er h5 h6
  have kn := okL_of c4
  have has : putL (putL l m) n = putL l (putL m n) := putL_assoc kl.rise km.rise
  have h7 : putR l (putL m n) = (putL (putL l m) n, 0) := by
    rw [putR_ok c1 (okL_chk (putL_ok km kn hz)) (by rw [← has]; exact hy), has]
  exact atomAny_4 a b d f ca cb cd cf l m n ms w hl hm hn hk HL HM HN HK _ hx h1 h2 _ hy h4 _ hz h6 h7
end Go.Proofs.Ytfekbfjfjohofaa
