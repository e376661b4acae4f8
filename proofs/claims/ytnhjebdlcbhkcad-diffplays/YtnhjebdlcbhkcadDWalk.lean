/- Contract of diff.walk. -/
import Derived.Test.YtnhjebdlcbhkcadDWalkP
namespace Go.Proofs.Ytnhjebdlcbhkcad
open Go.RowKit

set_option maxRecDepth 100000 in
set_option maxHeartbeats 4000000 in
theorem walk_ok (a b : ByteArray) (T1 T2 Z : Nat) (w : World) (ha : a.size ≤ 300) (hb : b.size ≤ 300) (c1 : w.cell? ⟨T1, 0, none⟩ = some (.slice none 0 0)) (c2 : w.cell? ⟨T2, 0, none⟩ = some (.slice none 0 0)) (hz : w.cell? ⟨Z, 0, none⟩ = some (.string b)) (f1 : w.frozen? ⟨T1, 0, none⟩ = false) (f2 : w.frozen? ⟨T2, 0, none⟩ = false) (h12 : T1 ≠ T2) (hz1 : Z ≠ T1) (hz2 : Z ≠ T2) (l1 : T1 < w.heap.size) (l2 : T2 < w.heap.size) (lz : Z < w.heap.size) :
    Calls Try.prog 46 #[.string a, .string b, .func (.func 47) #[] #[.pointer (some ⟨T1, 0, none⟩)], .func (.func 49) #[] #[.pointer (some ⟨T2, 0, none⟩), .pointer (some ⟨Z, 0, none⟩)]] w fun e w' => e = .returned (.tuple #[]) ∧ (∃ (w1 : World) (v u : Value), w.heap.size ≤ w1.heap.size ∧ DiffSt w' T1 T2 w1.heap.size v u ((walkA a b 0 0).1.foldl tkR []) ((walkA a b 0 0).2.foldl (ptB b) []) ∧ WalkB a.size b.size ((walkA a b 0 0).1.foldl tkR []) ((walkA a b 0 0).2.foldl (ptB b) [])) ∧ KeptD T1 T2 w.heap.size w w' := by
  have HC := hidE (commonOfEnds_ok a b w ha hb)
  have c1b : ∀ w1, Below w.heap.size w w1 → w1.cell? ⟨T1, 0, none⟩ = some (.slice none 0 0) := fun w1 h => (h.cell (p := ⟨T1, 0, none⟩) l1).trans c1
  have c2b : ∀ w1, Below w.heap.size w w1 → w1.cell? ⟨T2, 0, none⟩ = some (.slice none 0 0) := fun w1 h => (h.cell (p := ⟨T2, 0, none⟩) l2).trans c2
  have czb : ∀ w1, Below w.heap.size w w1 → w1.cell? ⟨Z, 0, none⟩ = some (.string b) := fun w1 h => (h.cell (p := ⟨Z, 0, none⟩) lz).trans hz
  have f1b : ∀ w1, Below w.heap.size w w1 → w1.frozen? ⟨T1, 0, none⟩ = false := fun w1 h => (h.frozen (p := ⟨T1, 0, none⟩) l1).trans f1
  have f2b : ∀ w1, Below w.heap.size w w1 → w1.frozen? ⟨T2, 0, none⟩ = false := fun w1 h => (h.frozen (p := ⟨T2, 0, none⟩) l2).trans f2
  go_enter Try.func46, Try.ntmps46
  go_upto_region 0 with fail
  go_wp2_with (refine HC.out.mono ?_; rintro e w1 ⟨rfl, hT⟩; have HTB := hidE hT)
  have hge : w.heap.size ≤ w1.heap.size := HTB.out.below.size
  have HI0 : Hid (WalkI w1 w1 T1 T2 a b ((walkA a b 0 0).1.foldl tkR []) ((walkA a b 0 0).2.foldl (ptB b) []) 0 0 (.slice none 0 0) (.slice none 0 0) [] []) :=
    hidE ⟨⟨c1b w1 HTB.out.below, c2b w1 HTB.out.below, f1b w1 HTB.out.below, f2b w1 HTB.out.below, ⟨rfl, Or.inl ⟨rfl, rfl⟩⟩, ⟨rfl, Or.inl ⟨rfl, rfl⟩⟩, fun _ e => (by cases e), Nat.lt_of_lt_of_le l1 hge, Nat.lt_of_lt_of_le l2 hge, h12, Nat.le_refl _⟩, WalkB.zero, rfl, rfl, KeptD.refl _ _ _ _⟩
  have hz1w := czb w1 HTB.out.below
  have HBE := hidE HTB.out.below
  have HTT := hidE hT.top
  have HTD := hidE hT.done
  clear c1 c2 hz f1 f2 c1b c2b czb f1b f2b hT HTB HC
  have lz1 : Z < w1.heap.size := Nat.lt_of_lt_of_le lz hge
  have HNW := hidE HTT.out.lt
  generalize hFT : (walkA a b 0 0).1.foldl tkR [] = FT at *
  generalize hFP : (walkA a b 0 0).2.foldl (ptB b) [] = FP at *
  have HFT := hidE hFT
  have HFP := hidE hFP
  clear hFT hFP
  generalize hNN : w.heap.size = N at *
  go_wp2_with fail
  go_loopw [9, 10] (fun vi vj wr => ∃ i j : Nat, i ≤ a.size ∧ j ≤ b.size ∧ vi = .int .i64 (i : Int) ∧ vj = .int .i64 (j : Int) ∧ ∃ v u RT RP, WalkI w1 wr T1 T2 a b FT FP i j v u RT RP) (fun vi vj _ => (a.size - (intOf vi).toNat) + (b.size - (intOf vj).toNat))
  case atStart => exact ⟨0, 0, Nat.zero_le _, Nat.zero_le _, rfl, rfl, _, _, _, _, HI0.out⟩
  case round =>
    clear HI0
    obtain ⟨i, j, hi, hj, rfl, rfl, v, u, RT, RP, hI⟩ := hrel
    rcases Nat.lt_or_ge i a.size with hia | hia
    · rcases Nat.lt_or_ge j b.size with hjb | hjb
      · have hin : (i : Int) < (a.size : Int) := by omega
        have hjn : (j : Int) < (b.size : Int) := by omega
        have hin' : decide ((i : Int) < (a.size : Int)) = true := by simpa using hia
        have hjn' : decide ((j : Int) < (b.size : Int)) = true := by simpa using hjb
        have hwi : IntKind.i64.wrap ((i : Int) + 1) = ((i + 1 : Nat) : Int) := by rw [IntKind.wrap_i64] <;> omega
        have hwj : IntKind.i64.wrap ((j : Int) + 1) = ((j + 1 : Nat) : Int) := by rw [IntKind.wrap_i64] <;> omega
        have hje : ((j : Int) == (b.size : Int)) = false := by rw [beq_eq_false_iff_ne]; omega
        have hje2 : decide ((j : Int) = (b.size : Int)) = false := decide_eq_false (by omega)
        by_cases hab : a[i] = b[j]
        · have heq : ((a[i].toNat : Int) == (b[j].toNat : Int)) = true := by rw [hab]; simp
          have heq2 : decide ((a[i].toNat : Int) = (b[j].toNat : Int)) = true := by rw [hab]; simp
          have HI := hidE hI
          clear hI
          go_upto_region 5 with fail
          go_quiet (fail)
          have hI5 := HI.out.below (w' := wr.drewN nq) ⟨rfl, rfl, rfl, Nat.le_refl _, fun _ _ => rfl⟩
          have HI5 := hidE hI5
          clear hI5
          generalize wr.drewN nq = wd5 at *
          clear HI
          have HNX := hidE (HI5.out.same hia hjb hab)
          clear HI5
          go_wp2_with fail
          go_roundw
          case rel => exact ⟨i + 1, j + 1, hia, hjb, rfl, rfl, _, _, _, _, HNX.out⟩
          case measure => simp [intOf]; omega
        · have hne : a[i].toNat ≠ b[j].toNat := fun e => hab (UInt8.toNat_inj.1 e)
          have heq : ((a[i].toNat : Int) == (b[j].toNat : Int)) = false := by rw [beq_eq_false_iff_ne]; omega
          have heq2 : decide ((a[i].toNat : Int) = (b[j].toNat : Int)) = false := decide_eq_false (by omega)
          have HI := hidE hI
          clear hI
          go_upto_region 5 with fail
          go_quiet (fail)
          have hI5 := HI.out.below (w' := wr.drewN nq) ⟨rfl, rfl, rfl, Nat.le_refl _, fun _ _ => rfl⟩
          have HI5 := hidE hI5
          clear hI5
          generalize wr.drewN nq = wd5 at *
          clear HI
          have hRow := HI5.out.kept.row HTT.out HNW.out (by omega) (by omega)
          have ct0 := hRow.cell (i := i) (by omega)
          have ct1 := hRow.cell (i := i + 1) (by omega)
          unfold topF at ct0 ct1
          rw [if_pos (Nat.zero_le _)] at ct0 ct1
          have hR0 := HTD.out i (Nat.zero_le _) (by omega)
          have hR1 := HTD.out (i + 1) (Nat.zero_le _) (by omega)
          have cr0 := (HI5.out.kept.row hR0 hR0.lt (by omega) (by omega)).cell (i := j + 1) (by omega)
          have cr1 := (HI5.out.kept.row hR1 hR1.lt (by omega) (by omega)).cell (i := j) (by omega)
          have hi1 : (i : Int) < (a.size : Int) + 1 := by omega
          have hi2 : ((i + 1 : Nat) : Int) < (a.size : Int) + 1 := by omega
          have hj2 : ((j + 1 : Nat) : Int) < (b.size : Int) + 1 := by omega
          have hj3 : (j : Int) < (b.size : Int) + 1 := by omega
          clear hRow hR0 hR1
          by_cases hcc : comm a b i (j + 1) ≤ comm a b (i + 1) j
          · have HW := hidE (walkA_take hia hjb hab hcc)
            have hcg : decide (((comm a b (i + 1) j : Nat) : Int) ≥ ((comm a b i (j + 1) : Nat) : Int)) = true := decide_eq_true (by omega)
            have hcg2 : decide (((comm a b i (j + 1) : Nat) : Int) ≤ ((comm a b (i + 1) j : Nat) : Int)) = true := decide_eq_true (by omega)
            have hcg3 : ((comm a b i (j + 1) : Nat) : Int) ≤ ((comm a b (i + 1) j : Nat) : Int) := by omega
            go_upto_region 7 with fail
            go_quiet (fail)
            have hI7 := HI5.out.below (w' := wd5.drewN nq) ⟨rfl, rfl, rfl, Nat.le_refl _, fun _ _ => rfl⟩
            have HI7 := hidE hI7
            clear hI7
            generalize wd5.drewN nq = wd7 at *
            clear HI5
            have HD1 := hidE (diff1_ok T1 T2 w1.heap.size v u RT RP i wd7 (by omega) (fun g hg => by have := HI7.out.small.t g hg; omega) (by have := HI7.out.small.tl; omega) HI7.out.st)
            go_wp2_with (refine HD1.out.mono ?_; rintro e w2 ⟨rfl, ⟨v', hs⟩, hk⟩; have HNX := hidE (HI7.out.take HW.out hs hk); clear hs hk HD1)
            go_roundw
            case rel => exact ⟨i + 1, j, hia, hj, rfl, rfl, _, _, _, _, HNX.out⟩
            case measure => simp [intOf]; omega
          · have HW := hidE (walkA_put hia hjb hab hcc)
            have hcg : decide (((comm a b (i + 1) j : Nat) : Int) ≥ ((comm a b i (j + 1) : Nat) : Int)) = false := decide_eq_false (by omega)
            have hcg2 : decide (((comm a b i (j + 1) : Nat) : Int) ≤ ((comm a b (i + 1) j : Nat) : Int)) = false := decide_eq_false (by omega)
            go_upto_region 7 with fail
            go_quiet (fail)
            have hI7 := HI5.out.below (w' := wd5.drewN nq) ⟨rfl, rfl, rfl, Nat.le_refl _, fun _ _ => rfl⟩
            have HI7 := hidE hI7
            clear hI7
            generalize wd5.drewN nq = wd7 at *
            clear HI5
            have HD2 := hidE (diff2_ok T1 T2 Z w1.heap.size v u RT RP j b wd7 hjb hb (fun g hg => by have := HI7.out.small.p g hg; exact ⟨by omega, this.2⟩) (by have := HI7.out.small.pl; omega) (HI7.out.kept.cell (p := ⟨Z, 0, none⟩) lz1 hz1 hz2 hz1w) HI7.out.st)
            rw [ptB_at hjb] at HD2
            go_wp2_with (refine HD2.out.mono ?_; rintro e w2 ⟨rfl, ⟨u', hs⟩, hk⟩; have HNX := hidE (HI7.out.put HW.out hs hk); clear hs hk HD2)
            go_roundw
            case rel => exact ⟨i, j + 1, hi, hjb, rfl, rfl, _, _, _, _, HNX.out⟩
            case measure => simp [intOf]; omega
      · obtain rfl : j = b.size := by omega
        have hin : (i : Int) < (a.size : Int) := by omega
        have hin' : decide ((i : Int) < (a.size : Int)) = true := by simpa using hia
        have hwi : IntKind.i64.wrap ((i : Int) + 1) = ((i + 1 : Nat) : Int) := by rw [IntKind.wrap_i64] <;> omega
        have hjl : decide ((b.size : Int) < (b.size : Int)) = false := by simp
        have hje : ((b.size : Int) == (b.size : Int)) = true := by simp
        have hje2 : decide ((b.size : Int) = (b.size : Int)) = true := by simp
        have HW := hidE (walkA_takeE hia (Nat.le_refl b.size))
        have HI := hidE hI
        clear hI
        go_upto_region 5 with fail
        go_quiet (fail)
        have hI5 := HI.out.below (w' := wr.drewN nq) ⟨rfl, rfl, rfl, Nat.le_refl _, fun _ _ => rfl⟩
        have HI5 := hidE hI5
        clear hI5
        generalize wr.drewN nq = wd5 at *
        clear HI
        go_upto_region 7 with fail
        go_quiet (fail)
        have hI7 := HI5.out.below (w' := wd5.drewN nq) ⟨rfl, rfl, rfl, Nat.le_refl _, fun _ _ => rfl⟩
        have HI7 := hidE hI7
        clear hI7
        generalize wd5.drewN nq = wd7 at *
        clear HI5
        have HD1 := hidE (diff1_ok T1 T2 w1.heap.size v u RT RP i wd7 (by omega) (fun g hg => by have := HI7.out.small.t g hg; omega) (by have := HI7.out.small.tl; omega) HI7.out.st)
        go_wp2_with (refine HD1.out.mono ?_; rintro e w2 ⟨rfl, ⟨v', hs⟩, hk⟩; have HNX := hidE (HI7.out.take HW.out hs hk); clear hs hk HD1)
        go_roundw
        case rel => exact ⟨i + 1, b.size, hia, Nat.le_refl _, rfl, rfl, _, _, _, _, HNX.out⟩
        case measure => simp [intOf]; omega
    · rcases Nat.lt_or_ge j b.size with hjb | hjb
      · obtain rfl : i = a.size := by omega
        have hjn : (j : Int) < (b.size : Int) := by omega
        have hjn' : decide ((j : Int) < (b.size : Int)) = true := by simpa using hjb
        have hwj : IntKind.i64.wrap ((j : Int) + 1) = ((j + 1 : Nat) : Int) := by rw [IntKind.wrap_i64] <;> omega
        have hil : decide ((a.size : Int) < (a.size : Int)) = false := by simp
        have hje : ((j : Int) == (b.size : Int)) = false := by rw [beq_eq_false_iff_ne]; omega
        have hje2 : decide ((j : Int) = (b.size : Int)) = false := decide_eq_false (by omega)
        have HW := hidE (walkA_putE (Nat.le_refl a.size) hjb)
        have HI := hidE hI
        clear hI
        go_upto_region 5 with fail
        go_quiet (fail)
        have hI5 := HI.out.below (w' := wr.drewN nq) ⟨rfl, rfl, rfl, Nat.le_refl _, fun _ _ => rfl⟩
        have HI5 := hidE hI5
        clear hI5
        generalize wr.drewN nq = wd5 at *
        clear HI
        go_upto_region 7 with fail
        go_quiet (fail)
        have hI7 := HI5.out.below (w' := wd5.drewN nq) ⟨rfl, rfl, rfl, Nat.le_refl _, fun _ _ => rfl⟩
        have HI7 := hidE hI7
        clear hI7
        generalize wd5.drewN nq = wd7 at *
        clear HI5
        have HD2 := hidE (diff2_ok T1 T2 Z w1.heap.size v u RT RP j b wd7 hjb hb (fun g hg => by have := HI7.out.small.p g hg; exact ⟨by omega, this.2⟩) (by have := HI7.out.small.pl; omega) (HI7.out.kept.cell (p := ⟨Z, 0, none⟩) lz1 hz1 hz2 hz1w) HI7.out.st)
        rw [ptB_at hjb] at HD2
        go_wp2_with (refine HD2.out.mono ?_; rintro e w2 ⟨rfl, ⟨u', hs⟩, hk⟩; have HNX := hidE (HI7.out.put HW.out hs hk); clear hs hk HD2)
        go_roundw
        case rel => exact ⟨a.size, j + 1, Nat.le_refl _, hjb, rfl, rfl, _, _, _, _, HNX.out⟩
        case measure => simp [intOf]; omega
      · obtain rfl : i = a.size := by omega
        obtain rfl : j = b.size := by omega
        have hil : decide ((a.size : Int) < (a.size : Int)) = false := by simp
        have hjl : decide ((b.size : Int) < (b.size : Int)) = false := by simp
        have HE := hidE (hI.done (Nat.le_refl a.size) (Nat.le_refl b.size))
        have HI := hidE hI
        clear hI
        go_wp2_with fail
        go_end0
        rw [HFT.out, HFP.out, hNN, ← HE.out.1, ← HE.out.2]
        exact ⟨rfl, ⟨w1, v, u, hge, HI.out.st, HI.out.small⟩, (KeptD.of_below HBE.out).trans (HI.out.kept.weak hge)⟩
end Go.Proofs.Ytnhjebdlcbhkcad
