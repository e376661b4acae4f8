import Derived.Test.YtfekbfjfjohofaaPutR
import Derived.Test.YtfekbfjfjohofaaTextOf
import Derived.Test.YtfekbfjfjohofaaAtomCkR
namespace Go.Proofs.Ytfekbfjfjohofaa
open Go.RowKit

set_option maxRecDepth 100000 in
set_option maxHeartbeats 1500000 in
theorem atomTells_lbad (a b d : Option Addr) (ca cb cd : Nat) (l m : List At) (ms : List (List (Int × Int) × Int)) (w : World) (hl : l.length ≤ maxLen) (hm : m.length ≤ maxLen) (hk : ms.length ≤ maxLen) (H : AtomsAt w a l) (HM2 : AtomsAt w b m) (HK : MarksAt w d ms) (h0 : chkL l ≠ 0) :
    Calls Try.prog 7 #[.slice a l.length ca, .slice b m.length cb, .slice d ms.length cd] w fun e w' => e = .returned (.bool true) ∧ Below w.heap.size w w' := by
  have ho : orI (chkL l) (chkL m) = chkL l := by unfold orI; rw [if_neg h0]
  have hv : (chkL l != 0) = true := bne_iff_ne.2 h0
  have hv2 : (chkL l == 0) = false := beq_eq_false_iff_ne.2 h0
  have _ := hk
  have HO := hidE ho
  have H0 := hidE h0
  clear ho h0
  go_enter Try.func7, Try.ntmps7
  go_wp2_with fail
  refine (text_bad _ _ l _ hl H H0.out).mono ?_
  rintro e w1 ⟨rfl, hb1⟩
  replace H := H.below hb1 (Nat.le_refl _)
  replace HM2 := HM2.below hb1 (Nat.le_refl _)
  replace HK := HK.below hb1 (Nat.le_refl _)
  have hB := hb1
  clear hb1
  go_wp2_with fail
  refine (put_bad _ _ _ _ l m _ hl hm H HM2 (by rw [HO.out]; exact H0.out)).mono ?_
  rintro e w2 ⟨rfl, hb2⟩
  rw [HO.out]
  replace H := H.below hb2 (Nat.le_refl _)
  replace HM2 := HM2.below hb2 (Nat.le_refl _)
  replace HK := HK.below hb2 (Nat.le_refl _)
  replace hB := hB.thru hb2 hB.size
  clear hb2
  go_wp2_with fail
  refine (take_bad _ _ _ _ l ms _ hl H H0.out).mono ?_
  rintro e w3 ⟨rfl, hb3⟩
  replace H := H.below hb3 (Nat.le_refl _)
  replace HM2 := HM2.below hb3 (Nat.le_refl _)
  replace HK := HK.below hb3 (Nat.le_refl _)
  replace hB := hB.thru hb3 hB.size
  clear hb3
  go_wp2_with fail
  refine (checkAtoms_any _ _ l _ hl H).mono ?_
  rintro e w4 ⟨rfl, hb4⟩
  replace H := H.below hb4 (Nat.le_refl _)
  replace HM2 := HM2.below hb4 (Nat.le_refl _)
  replace HK := HK.below hb4 (Nat.le_refl _)
  replace hB := hB.thru hb4 hB.size
  clear hb4
  go_wp2_with fail
  refine (atomBegun_true _).mono ?_
  rintro e w5 ⟨rfl, hb5⟩
  replace H := H.below hb5 (Nat.le_refl _)
  replace HM2 := HM2.below hb5 (Nat.le_refl _)
  replace HK := HK.below hb5 (Nat.le_refl _)
  replace hB := hB.thru hb5 hB.size
  clear hb5
  go_wp2_with fail
  refine (atomCheck_any _ _ l _ hl H).mono ?_
  rintro e w6 ⟨rfl, hb6⟩
  replace H := H.below hb6 (Nat.le_refl _)
  replace HM2 := HM2.below hb6 (Nat.le_refl _)
  replace HK := HK.below hb6 (Nat.le_refl _)
  replace hB := hB.thru hb6 hB.size
  clear hb6
  go_wp2_with fail
  refine (atomsAre_any none none 0 0 [] [] (chkL l) (chkL l) _ (Nat.zero_le _) (Nat.zero_le _) (Or.inl rfl) (Or.inl rfl) rfl (by split <;> rfl)).mono ?_
  rintro e w7 ⟨rfl, hb7⟩
  replace H := H.below hb7 (Nat.le_refl _)
  replace HM2 := HM2.below hb7 (Nat.le_refl _)
  replace HK := HK.below hb7 (Nat.le_refl _)
  replace hB := hB.thru hb7 hB.size
  clear hb7
  go_wp2_with fail
  refine (atomsAre_any none none 0 0 [] [] (chkL l) (chkL l) _ (Nat.zero_le _) (Nat.zero_le _) (Or.inl rfl) (Or.inl rfl) rfl (by split <;> rfl)).mono ?_
  rintro e w8 ⟨rfl, hb8⟩
  replace H := H.below hb8 (Nat.le_refl _)
  replace HM2 := HM2.below hb8 (Nat.le_refl _)
  replace HK := HK.below hb8 (Nat.le_refl _)
  replace hB := hB.thru hb8 hB.size
  clear hb8
  go_wp2_with fail
  go_ret
  exact ⟨rfl, hB⟩

set_option maxRecDepth 100000 in
set_option maxHeartbeats 1500000 in
theorem atomTells_mbad (a b d : Option Addr) (ca cb cd : Nat) (l m : List At) (ms : List (List (Int × Int) × Int)) (w : World) (hl : l.length ≤ maxLen) (hm : m.length ≤ maxLen) (hk : ms.length ≤ maxLen) (H : AtomsAt w a l) (HM2 : AtomsAt w b m) (HK : MarksAt w d ms) (h0 : chkL l = 0) (h1 : chkL m ≠ 0) :
    Calls Try.prog 7 #[.slice a l.length ca, .slice b m.length cb, .slice d ms.length cd] w fun e w' => e = .returned (.bool true) ∧ Below w.heap.size w w' := by
  have ho : orI (chkL l) (chkL m) = chkL m := by unfold orI; rw [if_pos h0]
  have hv : (chkL m != 0) = true := bne_iff_ne.2 h1
  have hv2 : (chkL m == 0) = false := beq_eq_false_iff_ne.2 h1
  have h300 := chkL_len h0
  have HO := hidE ho
  have H0 := hidE h0
  have H1 := hidE h1
  clear ho h0 h1
  go_enter Try.func7, Try.ntmps7
  go_wp2_with fail
  refine (text_ok _ _ l _ H H0.out).mono ?_
  rintro e w1 ⟨rfl, hb1⟩
  replace H := H.below hb1 (Nat.le_refl _)
  replace HM2 := HM2.below hb1 (Nat.le_refl _)
  replace HK := HK.below hb1 (Nat.le_refl _)
  have hB := hb1
  clear hb1
  go_wp2_with fail
  refine (put_bad _ _ _ _ l m _ hl hm H HM2 (by rw [HO.out]; exact H1.out)).mono ?_
  rintro e w2 ⟨rfl, hb2⟩
  rw [HO.out]
  replace H := H.below hb2 (Nat.le_refl _)
  replace HM2 := HM2.below hb2 (Nat.le_refl _)
  replace HK := HK.below hb2 (Nat.le_refl _)
  replace hB := hB.thru hb2 hB.size
  clear hb2
  go_wp2_with fail
  refine (take_is _ _ _ _ l ms _ H H0.out hk HK).mono ?_
  rintro e w3 ⟨pt, ct, rfl, HT, hb3⟩
  replace H := H.below hb3 (Nat.le_refl _)
  replace HM2 := HM2.below hb3 (Nat.le_refl _)
  replace HK := HK.below hb3 (Nat.le_refl _)
  replace hB := hB.thru hb3 hB.size
  clear hb3
  go_wp2_with fail
  refine (checkAtoms_any _ _ l _ hl H).mono ?_
  rintro e w4 ⟨rfl, hb4⟩
  rw [H0.out]
  replace H := H.below hb4 (Nat.le_refl _)
  replace HM2 := HM2.below hb4 (Nat.le_refl _)
  replace HK := HK.below hb4 (Nat.le_refl _)
  replace HT := HT.below hb4 (Nat.le_refl _)
  replace hB := hB.thru hb4 hB.size
  clear hb4
  go_wp2_with fail
  refine (checkAtoms_any _ _ m _ hm HM2).mono ?_
  rintro e w5 ⟨rfl, hb5⟩
  replace H := H.below hb5 (Nat.le_refl _)
  replace HM2 := HM2.below hb5 (Nat.le_refl _)
  replace HK := HK.below hb5 (Nat.le_refl _)
  replace HT := HT.below hb5 (Nat.le_refl _)
  replace hB := hB.thru hb5 hB.size
  clear hb5
  go_wp2_with fail
  refine (textOf_ok _ _ l _ H h300).mono ?_
  rintro e w6 ⟨rfl, hb6⟩
  replace H := H.below hb6 (Nat.le_refl _)
  replace HM2 := HM2.below hb6 (Nat.le_refl _)
  replace HK := HK.below hb6 (Nat.le_refl _)
  replace HT := HT.below hb6 (Nat.le_refl _)
  replace hB := hB.thru hb6 hB.size
  clear hb6
  go_wp2_with fail
  refine (takeOf_ok _ _ _ _ l ms _ H h300 hk HK).mono ?_
  rintro e w7 ⟨pu, cu, rfl, HU, hb7⟩
  replace H := H.below hb7 (Nat.le_refl _)
  replace HM2 := HM2.below hb7 (Nat.le_refl _)
  replace HK := HK.below hb7 (Nat.le_refl _)
  replace HT := HT.below hb7 (Nat.le_refl _)
  replace hB := hB.thru hb7 hB.size
  clear hb7
  have hlt : (takeL l ms).length ≤ maxLen := Nat.le_trans (List.length_filter_le _ _) hl
  go_wp2_with fail
  refine (atomBegun_true _).mono ?_
  rintro e w8 ⟨rfl, hb8⟩
  replace H := H.below hb8 (Nat.le_refl _)
  replace HM2 := HM2.below hb8 (Nat.le_refl _)
  replace HK := HK.below hb8 (Nat.le_refl _)
  replace HT := HT.below hb8 (Nat.le_refl _)
  replace HU := HU.below hb8 (Nat.le_refl _)
  replace hB := hB.thru hb8 hB.size
  clear hb8
  go_wp2_with fail
  refine (atomCheck_any _ _ l _ hl H).mono ?_
  rintro e w9 ⟨rfl, hb9⟩
  rw [H0.out]
  replace H := H.below hb9 (Nat.le_refl _)
  replace HM2 := HM2.below hb9 (Nat.le_refl _)
  replace HK := HK.below hb9 (Nat.le_refl _)
  replace HT := HT.below hb9 (Nat.le_refl _)
  replace HU := HU.below hb9 (Nat.le_refl _)
  replace hB := hB.thru hb9 hB.size
  clear hb9
  go_wp2_with fail
  refine (atomsAre_any none none 0 0 [] [] (chkL m) (chkL m) _ (Nat.zero_le _) (Nat.zero_le _) (Or.inl rfl) (Or.inl rfl) rfl (by split <;> rfl)).mono ?_
  rintro e w10 ⟨rfl, hb10⟩
  replace H := H.below hb10 (Nat.le_refl _)
  replace HM2 := HM2.below hb10 (Nat.le_refl _)
  replace HK := HK.below hb10 (Nat.le_refl _)
  replace HT := HT.below hb10 (Nat.le_refl _)
  replace HU := HU.below hb10 (Nat.le_refl _)
  replace hB := hB.thru hb10 hB.size
  clear hb10
  go_wp2_with fail
  refine (atomsAre_any _ _ _ _ (takeL l ms) (takeL l ms) 0 0 _ hlt hlt HT HU rfl (by rw [if_pos rfl]; exact sameL_refl _)).mono ?_
  rintro e w11 ⟨rfl, hb11⟩
  replace H := H.below hb11 (Nat.le_refl _)
  replace HM2 := HM2.below hb11 (Nat.le_refl _)
  replace HK := HK.below hb11 (Nat.le_refl _)
  replace HT := HT.below hb11 (Nat.le_refl _)
  replace HU := HU.below hb11 (Nat.le_refl _)
  replace hB := hB.thru hb11 hB.size
  clear hb11
  go_wp2_with fail
  go_ret
  exact ⟨rfl, hB⟩

set_option maxRecDepth 100000 in
set_option maxHeartbeats 1500000 in
theorem atomTells_ok (a b d : Option Addr) (ca cb cd : Nat) (l m : List At) (ms : List (List (Int × Int) × Int)) (w : World) (hl : l.length ≤ maxLen) (hm : m.length ≤ maxLen) (hk : ms.length ≤ maxLen) (H : AtomsAt w a l) (HM2 : AtomsAt w b m) (HK : MarksAt w d ms) (h0 : chkL l = 0) (h1 : chkL m = 0) (hpm : (putL l m).length ≤ maxLen) (hn : (putL l m).length ≤ 300) :
    Calls Try.prog 7 #[.slice a l.length ca, .slice b m.length cb, .slice d ms.length cd] w fun e w' => e = .returned (.bool true) ∧ Below w.heap.size w w' := by
  have h300 := chkL_len h0
  have h300m := chkL_len h1
  have hpl : (putL l m).length ≤ maxLen := hpm
  have hn1 : ¬ (((putL l m).length : Int) > 300) := by omega
  have H0 := hidE h0
  have H1 := hidE h1
  clear h0 h1
  go_enter Try.func7, Try.ntmps7
  go_wp2_with fail
  refine (text_ok _ _ l _ H H0.out).mono ?_
  rintro e w1 ⟨rfl, hb1⟩
  replace H := H.below hb1 (Nat.le_refl _)
  replace HM2 := HM2.below hb1 (Nat.le_refl _)
  replace HK := HK.below hb1 (Nat.le_refl _)
  have hB := hb1
  clear hb1
  go_wp2_with fail
  refine (put_is _ _ _ _ l m _ H HM2 H0.out H1.out hn).mono ?_
  rintro e w2 ⟨pp, cp, rfl, HP, hb2⟩
  replace H := H.below hb2 (Nat.le_refl _)
  replace HM2 := HM2.below hb2 (Nat.le_refl _)
  replace HK := HK.below hb2 (Nat.le_refl _)
  replace hB := hB.thru hb2 hB.size
  clear hb2
  go_wp2_with fail
  refine (take_is _ _ _ _ l ms _ H H0.out hk HK).mono ?_
  rintro e w3 ⟨pt, ct, rfl, HT, hb3⟩
  replace H := H.below hb3 (Nat.le_refl _)
  replace HM2 := HM2.below hb3 (Nat.le_refl _)
  replace HK := HK.below hb3 (Nat.le_refl _)
  replace HP := HP.below hb3 (Nat.le_refl _)
  replace hB := hB.thru hb3 hB.size
  clear hb3
  go_wp2_with fail
  refine (checkAtoms_any _ _ l _ hl H).mono ?_
  rintro e w4 ⟨rfl, hb4⟩
  rw [H0.out]
  replace H := H.below hb4 (Nat.le_refl _)
  replace HM2 := HM2.below hb4 (Nat.le_refl _)
  replace HK := HK.below hb4 (Nat.le_refl _)
  replace HP := HP.below hb4 (Nat.le_refl _)
  replace HT := HT.below hb4 (Nat.le_refl _)
  replace hB := hB.thru hb4 hB.size
  clear hb4
  go_wp2_with fail
  refine (checkAtoms_any _ _ m _ hm HM2).mono ?_
  rintro e w5 ⟨rfl, hb5⟩
  rw [H1.out]
  replace H := H.below hb5 (Nat.le_refl _)
  replace HM2 := HM2.below hb5 (Nat.le_refl _)
  replace HK := HK.below hb5 (Nat.le_refl _)
  replace HP := HP.below hb5 (Nat.le_refl _)
  replace HT := HT.below hb5 (Nat.le_refl _)
  replace hB := hB.thru hb5 hB.size
  clear hb5
  go_wp2_with fail
  refine (textOf_ok _ _ l _ H h300).mono ?_
  rintro e w6 ⟨rfl, hb6⟩
  replace H := H.below hb6 (Nat.le_refl _)
  replace HM2 := HM2.below hb6 (Nat.le_refl _)
  replace HK := HK.below hb6 (Nat.le_refl _)
  replace HP := HP.below hb6 (Nat.le_refl _)
  replace HT := HT.below hb6 (Nat.le_refl _)
  replace hB := hB.thru hb6 hB.size
  clear hb6
  go_wp2_with fail
  refine (takeOf_ok _ _ _ _ l ms _ H h300 hk HK).mono ?_
  rintro e w7 ⟨pu, cu, rfl, HU, hb7⟩
  replace H := H.below hb7 (Nat.le_refl _)
  replace HM2 := HM2.below hb7 (Nat.le_refl _)
  replace HK := HK.below hb7 (Nat.le_refl _)
  replace HP := HP.below hb7 (Nat.le_refl _)
  replace HT := HT.below hb7 (Nat.le_refl _)
  replace hB := hB.thru hb7 hB.size
  clear hb7
  go_wp2_with fail
  refine (putOf_ok _ _ _ _ l m _ H h300 HM2 h300m).mono ?_
  rintro e w8 ⟨pq, cq, rfl, HQ, hb8⟩
  replace H := H.below hb8 (Nat.le_refl _)
  replace HM2 := HM2.below hb8 (Nat.le_refl _)
  replace HK := HK.below hb8 (Nat.le_refl _)
  replace HP := HP.below hb8 (Nat.le_refl _)
  replace HT := HT.below hb8 (Nat.le_refl _)
  replace HU := HU.below hb8 (Nat.le_refl _)
  replace hB := hB.thru hb8 hB.size
  clear hb8
  have hlt : (takeL l ms).length ≤ maxLen := Nat.le_trans (List.length_filter_le _ _) hl
  go_wp2_with fail
  refine (atomBegun_true _).mono ?_
  rintro e w9 ⟨rfl, hb9⟩
  replace H := H.below hb9 (Nat.le_refl _)
  replace HM2 := HM2.below hb9 (Nat.le_refl _)
  replace HK := HK.below hb9 (Nat.le_refl _)
  replace HP := HP.below hb9 (Nat.le_refl _)
  replace HT := HT.below hb9 (Nat.le_refl _)
  replace HU := HU.below hb9 (Nat.le_refl _)
  replace HQ := HQ.below hb9 (Nat.le_refl _)
  replace hB := hB.thru hb9 hB.size
  clear hb9
  go_wp2_with fail
  refine (atomCheck_any _ _ l _ hl H).mono ?_
  rintro e w10 ⟨rfl, hb10⟩
  rw [H0.out]
  replace H := H.below hb10 (Nat.le_refl _)
  replace HM2 := HM2.below hb10 (Nat.le_refl _)
  replace HK := HK.below hb10 (Nat.le_refl _)
  replace HP := HP.below hb10 (Nat.le_refl _)
  replace HT := HT.below hb10 (Nat.le_refl _)
  replace HU := HU.below hb10 (Nat.le_refl _)
  replace HQ := HQ.below hb10 (Nat.le_refl _)
  replace hB := hB.thru hb10 hB.size
  clear hb10
  go_wp2_with fail
  refine (atomsAre_any _ _ _ _ (putL l m) (putL l m) 0 0 _ hpl hpl HP HQ rfl (by rw [if_pos rfl]; exact sameL_refl _)).mono ?_
  rintro e w11 ⟨rfl, hb11⟩
  replace H := H.below hb11 (Nat.le_refl _)
  replace HM2 := HM2.below hb11 (Nat.le_refl _)
  replace HK := HK.below hb11 (Nat.le_refl _)
  replace HP := HP.below hb11 (Nat.le_refl _)
  replace HT := HT.below hb11 (Nat.le_refl _)
  replace HU := HU.below hb11 (Nat.le_refl _)
  replace HQ := HQ.below hb11 (Nat.le_refl _)
  replace hB := hB.thru hb11 hB.size
  clear hb11
  go_wp2_with fail
  refine (atomsAre_any _ _ _ _ (takeL l ms) (takeL l ms) 0 0 _ hlt hlt HT HU rfl (by rw [if_pos rfl]; exact sameL_refl _)).mono ?_
  rintro e w12 ⟨rfl, hb12⟩
  replace H := H.below hb12 (Nat.le_refl _)
  replace HM2 := HM2.below hb12 (Nat.le_refl _)
  replace HK := HK.below hb12 (Nat.le_refl _)
  replace HP := HP.below hb12 (Nat.le_refl _)
  replace HT := HT.below hb12 (Nat.le_refl _)
  replace HU := HU.below hb12 (Nat.le_refl _)
  replace HQ := HQ.below hb12 (Nat.le_refl _)
  replace hB := hB.thru hb12 hB.size
  clear hb12
  go_wp2_with fail
  go_ret
  exact ⟨rfl, hB⟩

set_option maxRecDepth 100000 in
set_option maxHeartbeats 1500000 in
theorem atomTells_big (a b d : Option Addr) (ca cb cd : Nat) (l m : List At) (ms : List (List (Int × Int) × Int)) (w : World) (hl : l.length ≤ maxLen) (hm : m.length ≤ maxLen) (hk : ms.length ≤ maxLen) (H : AtomsAt w a l) (HM2 : AtomsAt w b m) (HK : MarksAt w d ms) (h0 : chkL l = 0) (h1 : chkL m = 0) (hpm : (putL l m).length ≤ maxLen) (hn : 300 < (putL l m).length) :
    Calls Try.prog 7 #[.slice a l.length ca, .slice b m.length cb, .slice d ms.length cd] w fun e w' => e = .returned (.bool true) ∧ Below w.heap.size w w' := by
  have h300 := chkL_len h0
  have h300m := chkL_len h1
  have hpl : (putL l m).length ≤ maxLen := hpm
  have hn1 : (((putL l m).length : Int) > 300) := by omega
  have H0 := hidE h0
  have H1 := hidE h1
  clear h0 h1
  go_enter Try.func7, Try.ntmps7
  go_wp2_with fail
  refine (text_ok _ _ l _ H H0.out).mono ?_
  rintro e w1 ⟨rfl, hb1⟩
  replace H := H.below hb1 (Nat.le_refl _)
  replace HM2 := HM2.below hb1 (Nat.le_refl _)
  replace HK := HK.below hb1 (Nat.le_refl _)
  have hB := hb1
  clear hb1
  go_wp2_with fail
  refine (put_many _ _ _ _ l m _ H HM2 H0.out H1.out hn).mono ?_
  rintro e w2 ⟨rfl, hb2⟩
  replace H := H.below hb2 (Nat.le_refl _)
  replace HM2 := HM2.below hb2 (Nat.le_refl _)
  replace HK := HK.below hb2 (Nat.le_refl _)
  replace hB := hB.thru hb2 hB.size
  clear hb2
  go_wp2_with fail
  refine (take_is _ _ _ _ l ms _ H H0.out hk HK).mono ?_
  rintro e w3 ⟨pt, ct, rfl, HT, hb3⟩
  replace H := H.below hb3 (Nat.le_refl _)
  replace HM2 := HM2.below hb3 (Nat.le_refl _)
  replace HK := HK.below hb3 (Nat.le_refl _)
  replace hB := hB.thru hb3 hB.size
  clear hb3
  go_wp2_with fail
  refine (checkAtoms_any _ _ l _ hl H).mono ?_
  rintro e w4 ⟨rfl, hb4⟩
  rw [H0.out]
  replace H := H.below hb4 (Nat.le_refl _)
  replace HM2 := HM2.below hb4 (Nat.le_refl _)
  replace HK := HK.below hb4 (Nat.le_refl _)
  replace HT := HT.below hb4 (Nat.le_refl _)
  replace hB := hB.thru hb4 hB.size
  clear hb4
  go_wp2_with fail
  refine (checkAtoms_any _ _ m _ hm HM2).mono ?_
  rintro e w5 ⟨rfl, hb5⟩
  rw [H1.out]
  replace H := H.below hb5 (Nat.le_refl _)
  replace HM2 := HM2.below hb5 (Nat.le_refl _)
  replace HK := HK.below hb5 (Nat.le_refl _)
  replace HT := HT.below hb5 (Nat.le_refl _)
  replace hB := hB.thru hb5 hB.size
  clear hb5
  go_wp2_with fail
  refine (textOf_ok _ _ l _ H h300).mono ?_
  rintro e w6 ⟨rfl, hb6⟩
  replace H := H.below hb6 (Nat.le_refl _)
  replace HM2 := HM2.below hb6 (Nat.le_refl _)
  replace HK := HK.below hb6 (Nat.le_refl _)
  replace HT := HT.below hb6 (Nat.le_refl _)
  replace hB := hB.thru hb6 hB.size
  clear hb6
  go_wp2_with fail
  refine (takeOf_ok _ _ _ _ l ms _ H h300 hk HK).mono ?_
  rintro e w7 ⟨pu, cu, rfl, HU, hb7⟩
  replace H := H.below hb7 (Nat.le_refl _)
  replace HM2 := HM2.below hb7 (Nat.le_refl _)
  replace HK := HK.below hb7 (Nat.le_refl _)
  replace HT := HT.below hb7 (Nat.le_refl _)
  replace hB := hB.thru hb7 hB.size
  clear hb7
  go_wp2_with fail
  refine (putOf_ok _ _ _ _ l m _ H h300 HM2 h300m).mono ?_
  rintro e w8 ⟨pq, cq, rfl, HQ, hb8⟩
  replace H := H.below hb8 (Nat.le_refl _)
  replace HM2 := HM2.below hb8 (Nat.le_refl _)
  replace HK := HK.below hb8 (Nat.le_refl _)
  replace HT := HT.below hb8 (Nat.le_refl _)
  replace HU := HU.below hb8 (Nat.le_refl _)
  replace hB := hB.thru hb8 hB.size
  clear hb8
  have hlt : (takeL l ms).length ≤ maxLen := Nat.le_trans (List.length_filter_le _ _) hl
  go_wp2_with fail
  refine (atomBegun_true _).mono ?_
  rintro e w9 ⟨rfl, hb9⟩
  replace H := H.below hb9 (Nat.le_refl _)
  replace HM2 := HM2.below hb9 (Nat.le_refl _)
  replace HK := HK.below hb9 (Nat.le_refl _)
  replace HT := HT.below hb9 (Nat.le_refl _)
  replace HU := HU.below hb9 (Nat.le_refl _)
  replace HQ := HQ.below hb9 (Nat.le_refl _)
  replace hB := hB.thru hb9 hB.size
  clear hb9
  go_wp2_with fail
  refine (atomCheck_any _ _ l _ hl H).mono ?_
  rintro e w10 ⟨rfl, hb10⟩
  rw [H0.out]
  replace H := H.below hb10 (Nat.le_refl _)
  replace HM2 := HM2.below hb10 (Nat.le_refl _)
  replace HK := HK.below hb10 (Nat.le_refl _)
  replace HT := HT.below hb10 (Nat.le_refl _)
  replace HU := HU.below hb10 (Nat.le_refl _)
  replace HQ := HQ.below hb10 (Nat.le_refl _)
  replace hB := hB.thru hb10 hB.size
  clear hb10
  go_wp2_with fail
  refine (atomsAre_any none _ 0 _ [] (putL l m) 2 2 _ (Nat.zero_le _) hpl (Or.inl rfl) HQ rfl (by rfl)).mono ?_
  rintro e w11 ⟨rfl, hb11⟩
  replace H := H.below hb11 (Nat.le_refl _)
  replace HM2 := HM2.below hb11 (Nat.le_refl _)
  replace HK := HK.below hb11 (Nat.le_refl _)
  replace HT := HT.below hb11 (Nat.le_refl _)
  replace HU := HU.below hb11 (Nat.le_refl _)
  replace HQ := HQ.below hb11 (Nat.le_refl _)
  replace hB := hB.thru hb11 hB.size
  clear hb11
  go_wp2_with fail
  refine (atomsAre_any _ _ _ _ (takeL l ms) (takeL l ms) 0 0 _ hlt hlt HT HU rfl (by rw [if_pos rfl]; exact sameL_refl _)).mono ?_
  rintro e w12 ⟨rfl, hb12⟩
  replace H := H.below hb12 (Nat.le_refl _)
  replace HM2 := HM2.below hb12 (Nat.le_refl _)
  replace HK := HK.below hb12 (Nat.le_refl _)
  replace HT := HT.below hb12 (Nat.le_refl _)
  replace HU := HU.below hb12 (Nat.le_refl _)
  replace HQ := HQ.below hb12 (Nat.le_refl _)
  replace hB := hB.thru hb12 hB.size
  clear hb12
  go_wp2_with fail
  go_ret
  exact ⟨rfl, hB⟩

theorem putL_lenA (l m : List At) : (putL l m).length ≤ l.length + m.length := by
  unfold putL
  induction m generalizing l with
  | nil => simp
  | cons a m ih =>
    rw [List.foldl_cons]
    have h1 := ih (putA a l false)
    have h2 := putA_len a l false
    simp at h2
    rw [List.length_cons]
    omega

theorem atomTells_true (a b d : Option Addr) (ca cb cd : Nat) (l m : List At) (ms : List (List (Int × Int) × Int)) (w : World) (hl : l.length ≤ maxLen) (hm : m.length ≤ maxLen) (hk : ms.length ≤ maxLen) (H : AtomsAt w a l) (HM2 : AtomsAt w b m) (HK : MarksAt w d ms) :
    Calls Try.prog 7 #[.slice a l.length ca, .slice b m.length cb, .slice d ms.length cd] w fun e w' => e = .returned (.bool true) ∧ Below w.heap.size w w' := by
  by_cases h0 : chkL l = 0
  · by_cases h1 : chkL m = 0
    · have hpm : (putL l m).length ≤ maxLen := by
        have := putL_lenA l m; have := chkL_len h0; have := chkL_len h1; unfold maxLen; omega
      by_cases hn : 300 < (putL l m).length
      · exact atomTells_big a b d ca cb cd l m ms w hl hm hk H HM2 HK h0 h1 hpm hn
      · exact atomTells_ok a b d ca cb cd l m ms w hl hm hk H HM2 HK h0 h1 hpm (by omega)
    · exact atomTells_mbad a b d ca cb cd l m ms w hl hm hk H HM2 HK h0 h1
  · exact atomTells_lbad a b d ca cb cd l m ms w hl hm hk H HM2 HK h0
end Go.Proofs.Ytfekbfjfjohofaa
