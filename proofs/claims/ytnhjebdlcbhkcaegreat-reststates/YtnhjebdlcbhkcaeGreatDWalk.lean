/- Pure and frames: the walk through two texts, step by step. -/
import Derived.Test.YtnhjebdlcbhkcaeGreatDTab
namespace Go.Proofs.YtnhjebdlcbhkcaeGreat
open Go.RowKit

def walkA (a b : ByteArray) (i j : Nat) : List Nat × List Nat := walkT (a.data.toList.drop i) (b.data.toList.drop j) i j

theorem drop_end (a : ByteArray) (i : Nat) (h : a.size ≤ i) : a.data.toList.drop i = [] := List.drop_eq_nil_of_le (by simpa using h)

theorem walkA_same {a b : ByteArray} {i j : Nat} (hi : i < a.size) (hj : j < b.size) (h : a[i] = b[j]) : walkA a b i j = walkA a b (i + 1) (j + 1) := by
  unfold walkA
  rw [drop_at a i hi, drop_at b j hj]
  conv => lhs; unfold walkT
  rw [if_pos h]
theorem walkA_take {a b : ByteArray} {i j : Nat} (hi : i < a.size) (hj : j < b.size) (h : a[i] ≠ b[j]) (hc : comm a b i (j + 1) ≤ comm a b (i + 1) j) : walkA a b i j = (i :: (walkA a b (i + 1) j).1, (walkA a b (i + 1) j).2) := by
  have ha := drop_at a i hi
  have hb := drop_at b j hj
  unfold comm at hc
  unfold walkA
  rw [ha, hb] at hc ⊢
  conv => lhs; unfold walkT
  rw [if_neg h, if_pos hc]
theorem walkA_put {a b : ByteArray} {i j : Nat} (hi : i < a.size) (hj : j < b.size) (h : a[i] ≠ b[j]) (hc : ¬ comm a b i (j + 1) ≤ comm a b (i + 1) j) : walkA a b i j = ((walkA a b i (j + 1)).1, j :: (walkA a b i (j + 1)).2) := by
  have ha := drop_at a i hi
  have hb := drop_at b j hj
  unfold comm at hc
  unfold walkA
  rw [ha, hb] at hc ⊢
  conv => lhs; unfold walkT
  rw [if_neg h, if_neg hc]
theorem walkA_takeE {a b : ByteArray} {i j : Nat} (hi : i < a.size) (hj : b.size ≤ j) : walkA a b i j = (i :: (walkA a b (i + 1) j).1, (walkA a b (i + 1) j).2) := by
  unfold walkA
  rw [drop_at a i hi, drop_end b j hj]
  conv => lhs; unfold walkT
theorem walkA_putE {a b : ByteArray} {i j : Nat} (hi : a.size ≤ i) (hj : j < b.size) : walkA a b i j = ((walkA a b i (j + 1)).1, j :: (walkA a b i (j + 1)).2) := by
  unfold walkA
  rw [drop_at b j hj, drop_end a i hi]
  conv => lhs; unfold walkT
theorem walkA_end {a b : ByteArray} {i j : Nat} (hi : a.size ≤ i) (hj : b.size ≤ j) : walkA a b i j = ([], []) := by
  unfold walkA
  rw [drop_end b j hj, drop_end a i hi]
  unfold walkT
  rfl

def ptB (b : ByteArray) (R : List (Nat × List UInt8)) (p : Nat) : List (Nat × List UInt8) := ptR R p (b.data.toList.getD p 0)
theorem ptB_at {b : ByteArray} {R : List (Nat × List UInt8)} {p : Nat} (h : p < b.size) : ptR R p b[p] = ptB b R p := by
  unfold ptB
  congr 1
  have h' : p < b.data.toList.length := by simpa using h
  rw [List.getD_eq_getElem?_getD, List.getElem?_eq_getElem h']
  rfl

structure WalkB (i j : Nat) (RT : List (Nat × Nat)) (RP : List (Nat × List UInt8)) : Prop where
  t : ∀ g ∈ RT, g.1 + g.2 ≤ i
  tl : RT.length ≤ i
  p : ∀ g ∈ RP, g.1 ≤ j ∧ g.2.length ≤ 60
  pl : RP.length ≤ j

theorem WalkB.zero : WalkB 0 0 [] [] := ⟨by simp, by simp, by simp, by simp⟩
theorem WalkB.both {i j : Nat} {RT : List (Nat × Nat)} {RP : List (Nat × List UInt8)} (h : WalkB i j RT RP) : WalkB (i + 1) (j + 1) RT RP :=
  ⟨fun g hg => Nat.le_succ_of_le (h.t g hg), Nat.le_succ_of_le h.tl, fun g hg => ⟨Nat.le_succ_of_le (h.p g hg).1, (h.p g hg).2⟩, Nat.le_succ_of_le h.pl⟩
theorem WalkB.take {i j : Nat} {RT : List (Nat × Nat)} {RP : List (Nat × List UInt8)} (h : WalkB i j RT RP) : WalkB (i + 1) j (tkR RT i) RP := by
  refine ⟨?_, ?_, h.p, h.pl⟩
  · have ht := h.t
    rcases RT with _ | ⟨⟨q, n⟩, R⟩
    · simp [tkR]
    · rw [tkR_cons]
      split
      · rename_i e
        intro g hg
        rcases List.mem_cons.1 hg with rfl | hg
        · show q + (n + 1) ≤ i + 1; omega
        · exact Nat.le_succ_of_le (ht g (List.mem_cons_of_mem _ hg))
      · intro g hg
        rcases List.mem_cons.1 hg with rfl | hg
        · exact Nat.le_refl _
        · exact Nat.le_succ_of_le (ht g hg)
  · have hl := h.tl
    rcases RT with _ | ⟨⟨q, n⟩, R⟩
    · simp [tkR]
    · rw [tkR_cons]
      simp only [List.length_cons] at hl
      split <;> simp only [List.length_cons] <;> omega
theorem WalkB.put {i j : Nat} {RT : List (Nat × Nat)} {RP : List (Nat × List UInt8)} (h : WalkB i j RT RP) (b : ByteArray) : WalkB i (j + 1) RT (ptB b RP j) := by
  unfold ptB
  generalize b.data.toList.getD j 0 = cc
  refine ⟨h.t, h.tl, ?_, ?_⟩
  · have ht := h.p
    rcases RP with _ | ⟨⟨q, t⟩, R⟩
    · simp [ptR]
    · rw [ptR_cons]
      split
      · rename_i e
        intro g hg
        rcases List.mem_cons.1 hg with rfl | hg
        · refine ⟨?_, ?_⟩
          · show q ≤ j + 1; omega
          · show (t ++ [cc]).length ≤ 60; rw [List.length_append]; simp only [List.length_cons, List.length_nil]; omega
        · have := ht g (List.mem_cons_of_mem _ hg)
          exact ⟨by omega, this.2⟩
      · intro g hg
        rcases List.mem_cons.1 hg with rfl | hg
        · exact ⟨Nat.le_succ _, by simp⟩
        · have := ht g hg
          exact ⟨by omega, this.2⟩
  · have hl := h.pl
    rcases RP with _ | ⟨⟨q, t⟩, R⟩
    · simp [ptR]
    · rw [ptR_cons]
      simp only [List.length_cons] at hl
      split <;> simp only [List.length_cons] <;> omega

structure WalkI (w1 wr : World) (T1 T2 : Nat) (a b : ByteArray) (FT : List (Nat × Nat)) (FP : List (Nat × List UInt8)) (i j : Nat) (v u : Value) (RT : List (Nat × Nat)) (RP : List (Nat × List UInt8)) : Prop where
  st : DiffSt wr T1 T2 w1.heap.size v u RT RP
  small : WalkB i j RT RP
  ft : (walkA a b i j).1.foldl tkR RT = FT
  fp : (walkA a b i j).2.foldl (ptB b) RP = FP
  kept : KeptD T1 T2 w1.heap.size w1 wr

section
variable {w1 wr : World} {T1 T2 : Nat} {a b : ByteArray} {FT : List (Nat × Nat)} {FP : List (Nat × List UInt8)} {i j : Nat} {v u : Value} {RT : List (Nat × Nat)} {RP : List (Nat × List UInt8)}
theorem WalkI.drew (h : WalkI w1 wr T1 T2 a b FT FP i j v u RT RP) : WalkI w1 wr.drew T1 T2 a b FT FP i j v u RT RP :=
  ⟨h.st.drew, h.small, h.ft, h.fp, ⟨h.kept.os, h.kept.tape, h.kept.output, h.kept.size, h.kept.block⟩⟩
theorem WalkI.same (h : WalkI w1 wr T1 T2 a b FT FP i j v u RT RP) (hi : i < a.size) (hj : j < b.size) (e : a[i] = b[j]) : WalkI w1 wr T1 T2 a b FT FP (i + 1) (j + 1) v u RT RP :=
  ⟨h.st, h.small.both, by rw [← walkA_same hi hj e]; exact h.ft, by rw [← walkA_same hi hj e]; exact h.fp, h.kept⟩
theorem WalkI.take (h : WalkI w1 wr T1 T2 a b FT FP i j v u RT RP) (e : walkA a b i j = (i :: (walkA a b (i + 1) j).1, (walkA a b (i + 1) j).2)) {w2 : World} {v' : Value} (hs : DiffSt w2 T1 T2 w1.heap.size v' u (tkR RT i) RP) (hk : KeptD T1 T2 w1.heap.size wr w2) : WalkI w1 w2 T1 T2 a b FT FP (i + 1) j v' u (tkR RT i) RP :=
  ⟨hs, h.small.take, by have := h.ft; rw [e] at this; exact this, by have := h.fp; rw [e] at this; exact this, h.kept.trans hk⟩
theorem WalkI.put (h : WalkI w1 wr T1 T2 a b FT FP i j v u RT RP) (e : walkA a b i j = ((walkA a b i (j + 1)).1, j :: (walkA a b i (j + 1)).2)) {w2 : World} {u' : Value} (hs : DiffSt w2 T1 T2 w1.heap.size v u' RT (ptB b RP j)) (hk : KeptD T1 T2 w1.heap.size wr w2) : WalkI w1 w2 T1 T2 a b FT FP i (j + 1) v u' RT (ptB b RP j) :=
  ⟨hs, h.small.put b, by have := h.ft; rw [e] at this; exact this, by have := h.fp; rw [e] at this; exact this, h.kept.trans hk⟩
theorem WalkI.done (h : WalkI w1 wr T1 T2 a b FT FP i j v u RT RP) (hi : a.size ≤ i) (hj : b.size ≤ j) : RT = FT ∧ RP = FP := by
  have h1 := h.ft
  have h2 := h.fp
  rw [walkA_end hi hj] at h1 h2
  exact ⟨h1, h2⟩
end

theorem DiffSt.below {w w' : World} {T1 T2 base : Nat} {v u : Value} {RT : List (Nat × Nat)} {RP : List (Nat × List UInt8)} (h : DiffSt w T1 T2 base v u RT RP) (hb : Below w.heap.size w w') : DiffSt w' T1 T2 base v u RT RP :=
  have l1 := Nat.lt_of_lt_of_le h.b1 h.bw
  have l2 := Nat.lt_of_lt_of_le h.b2 h.bw
  ⟨(hb.cell (p := ⟨T1, 0, none⟩) l1).trans h.c1, (hb.cell (p := ⟨T2, 0, none⟩) l2).trans h.c2, (hb.frozen (p := ⟨T1, 0, none⟩) l1).trans h.f1, (hb.frozen (p := ⟨T2, 0, none⟩) l2).trans h.f2, owns_below h.o1 hb, owns_below h.o2 hb, h.ne, h.b1, h.b2, h.b12, Nat.le_trans h.bw hb.size⟩
theorem KeptD.below {T1 T2 base : Nat} {w w' w2 : World} (h : KeptD T1 T2 base w w') (hw : base ≤ w'.heap.size) (hb : Below w'.heap.size w' w2) : KeptD T1 T2 base w w2 :=
  h.trans ⟨hb.os, hb.tape, hb.output, hb.size, fun k hk _ _ => hb.block k (Nat.lt_of_lt_of_le hk hw)⟩
theorem KeptD.weak {T1 T2 base base' : Nat} {w w' : World} (h : KeptD T1 T2 base w w') (hb : base' ≤ base) : KeptD T1 T2 base' w w' :=
  ⟨h.os, h.tape, h.output, h.size, fun k hk h1 h2 => h.block k (Nat.lt_of_lt_of_le hk hb) h1 h2⟩
theorem KeptD.cell {T1 T2 base : Nat} {w w' : World} {x : Value} (h : KeptD T1 T2 base w w') {p : Addr} (hp : p.block < base) (h1 : p.block ≠ T1) (h2 : p.block ≠ T2) (hc : w.cell? p = some x) : w'.cell? p = some x :=
  (World.cell?_of_block (w := w) (h.block p.block hp h1 h2)).trans hc
theorem KeptD.row {T1 T2 base : Nat} {w w' : World} {k : Nat} {t : TypeId} {n : Nat} {f : Nat → Value} (h : KeptD T1 T2 base w w') (hr : w.rowIs k t n f) (hk : k < base) (h1 : k ≠ T1) (h2 : k ≠ T2) : w'.rowIs k t n f :=
  hr.of_block (h.block k hk h1 h2)
theorem WalkI.below {w1 wr : World} {T1 T2 : Nat} {a b : ByteArray} {FT : List (Nat × Nat)} {FP : List (Nat × List UInt8)} {i j : Nat} {v u : Value} {RT : List (Nat × Nat)} {RP : List (Nat × List UInt8)} (h : WalkI w1 wr T1 T2 a b FT FP i j v u RT RP) {w' : World} (hb : Below wr.heap.size wr w') : WalkI w1 w' T1 T2 a b FT FP i j v u RT RP :=
  ⟨h.st.below hb, h.small, h.ft, h.fp, h.kept.below h.st.bw hb⟩
end Go.Proofs.YtnhjebdlcbhkcaeGreat

namespace Go.Proofs.YtnhjebdlcbhkcaeGreat
open Go.RowKit

set_option maxRecDepth 100000 in
set_option maxHeartbeats 4000000 in
theorem walk_ok (a b : ByteArray) (T1 T2 Z : Nat) (w : World) (ha : a.size ≤ 300) (hb : b.size ≤ 300) (c1 : w.cell? ⟨T1, 0, none⟩ = some (.slice none 0 0)) (c2 : w.cell? ⟨T2, 0, none⟩ = some (.slice none 0 0)) (hz : w.cell? ⟨Z, 0, none⟩ = some (.string b)) (f1 : w.frozen? ⟨T1, 0, none⟩ = false) (f2 : w.frozen? ⟨T2, 0, none⟩ = false) (h12 : T1 ≠ T2) (hz1 : Z ≠ T1) (hz2 : Z ≠ T2) (l1 : T1 < w.heap.size) (l2 : T2 < w.heap.size) (lz : Z < w.heap.size) :
    Calls Tryz.prog 89 #[.string a, .string b, .func (.func 90) #[] #[.pointer (some ⟨T1, 0, none⟩)], .func (.func 92) #[] #[.pointer (some ⟨T2, 0, none⟩), .pointer (some ⟨Z, 0, none⟩)]] w fun e w' => e = .returned (.tuple #[]) ∧ (∃ (w1 : World) (v u : Value), w.heap.size ≤ w1.heap.size ∧ DiffSt w' T1 T2 w1.heap.size v u ((walkA a b 0 0).1.foldl tkR []) ((walkA a b 0 0).2.foldl (ptB b) []) ∧ WalkB a.size b.size ((walkA a b 0 0).1.foldl tkR []) ((walkA a b 0 0).2.foldl (ptB b) [])) ∧ KeptD T1 T2 w.heap.size w w' := by
  have HC := hidE (commonOfEnds_ok a b w ha hb)
  have c1b : ∀ w1, Below w.heap.size w w1 → w1.cell? ⟨T1, 0, none⟩ = some (.slice none 0 0) := fun w1 h => (h.cell (p := ⟨T1, 0, none⟩) l1).trans c1
  have c2b : ∀ w1, Below w.heap.size w w1 → w1.cell? ⟨T2, 0, none⟩ = some (.slice none 0 0) := fun w1 h => (h.cell (p := ⟨T2, 0, none⟩) l2).trans c2
  have czb : ∀ w1, Below w.heap.size w w1 → w1.cell? ⟨Z, 0, none⟩ = some (.string b) := fun w1 h => (h.cell (p := ⟨Z, 0, none⟩) lz).trans hz
  have f1b : ∀ w1, Below w.heap.size w w1 → w1.frozen? ⟨T1, 0, none⟩ = false := fun w1 h => (h.frozen (p := ⟨T1, 0, none⟩) l1).trans f1
  have f2b : ∀ w1, Below w.heap.size w w1 → w1.frozen? ⟨T2, 0, none⟩ = false := fun w1 h => (h.frozen (p := ⟨T2, 0, none⟩) l2).trans f2
  go_enter Tryz.func89, Tryz.ntmps89
  go_upto_region 0 with fail
  go_wp2_with (refine HC.out.mono ?_; rintro e w1 ⟨rfl, hT⟩; have HTB := hidE hT)
  have hge : w.heap.size ≤ w1.heap.size := HTB.out.below.size
  have HI0 : Hid (WalkI w1 w1 T1 T2 a b ((walkA a b 0 0).1.foldl tkR []) ((walkA a b 0 0).2.foldl (ptB b) []) 0 0 (.slice none 0 0) (.slice none 0 0) [] []) :=
    hidE ⟨⟨c1b w1 HTB.out.below, c2b w1 HTB.out.below, f1b w1 HTB.out.below, f2b w1 HTB.out.below, ⟨rfl, Or.inl ⟨rfl, rfl⟩⟩, ⟨rfl, Or.inl ⟨rfl, rfl⟩⟩, fun _ e => (by cases e), Nat.lt_of_lt_of_le l1 hge, Nat.lt_of_lt_of_le l2 hge, h12, Nat.le_refl _⟩, WalkB.zero, rfl, rfl, KeptD.refl _ _ _ _⟩
  have hz1w := czb w1 HTB.out.below
  have HBE := hidE HTB.out.below
  have HTT := hidE hT.top
  have HTD := hidE hT.done
  clear c1 c2 hz f1 f2 c1b c2b czb f1b f2b hT HTB HC
  have lz1 : Z < w1.heap.size := Nat.lt_of_lt_of_le lz hge
  have HNW := hidE HTT.out.lt
  generalize hFT : (walkA a b 0 0).1.foldl tkR [] = FT at *
  generalize hFP : (walkA a b 0 0).2.foldl (ptB b) [] = FP at *
  have HFT := hidE hFT
  have HFP := hidE hFP
  clear hFT hFP
  generalize hNN : w.heap.size = N at *
  go_wp2_with fail
  go_loopw [9, 10] (fun vi vj wr => ∃ i j : Nat, i ≤ a.size ∧ j ≤ b.size ∧ vi = .int .i64 (i : Int) ∧ vj = .int .i64 (j : Int) ∧ ∃ v u RT RP, WalkI w1 wr T1 T2 a b FT FP i j v u RT RP) (fun vi vj _ => (a.size - (intOf vi).toNat) + (b.size - (intOf vj).toNat))
  case atStart => exact ⟨0, 0, Nat.zero_le _, Nat.zero_le _, rfl, rfl, _, _, _, _, HI0.out⟩
  case round =>
    clear HI0
    obtain ⟨i, j, hi, hj, rfl, rfl, v, u, RT, RP, hI⟩ := hrel
    rcases Nat.lt_or_ge i a.size with hia | hia
    · rcases Nat.lt_or_ge j b.size with hjb | hjb
      · have hin : (i : Int) < (a.size : Int) := by omega
        have hjn : (j : Int) < (b.size : Int) := by omega
        have hin' : decide ((i : Int) < (a.size : Int)) = true := by simpa using hia
        have hjn' : decide ((j : Int) < (b.size : Int)) = true := by simpa using hjb
        have hwi : IntKind.i64.wrap ((i : Int) + 1) = ((i + 1 : Nat) : Int) := by rw [IntKind.wrap_i64] <;> omega
        have hwj : IntKind.i64.wrap ((j : Int) + 1) = ((j + 1 : Nat) : Int) := by rw [IntKind.wrap_i64] <;> omega
        have hje : ((j : Int) == (b.size : Int)) = false := by rw [beq_eq_false_iff_ne]; omega
        have hje2 : decide ((j : Int) = (b.size : Int)) = false := decide_eq_false (by omega)
        by_cases hab : a[i] = b[j]
        · have heq : ((a[i].toNat : Int) == (b[j].toNat : Int)) = true := by rw [hab]; simp
          have heq2 : decide ((a[i].toNat : Int) = (b[j].toNat : Int)) = true := by rw [hab]; simp
          have HI := hidE hI
          clear hI
          go_upto_region 5 with fail
          go_quiet (fail)
          have hI5 := HI.out.below (w' := wr.drewN nq) ⟨rfl, rfl, rfl, Nat.le_refl _, fun _ _ => rfl⟩
          have HI5 := hidE hI5
          clear hI5
          generalize wr.drewN nq = wd5 at *
          clear HI
          have HNX := hidE (HI5.out.same hia hjb hab)
          clear HI5
          go_wp2_with fail
          go_roundw
          case rel => exact ⟨i + 1, j + 1, hia, hjb, rfl, rfl, _, _, _, _, HNX.out⟩
          case measure => simp [intOf]; omega
        · have hne : a[i].toNat ≠ b[j].toNat := fun e => hab (UInt8.toNat_inj.1 e)
          have heq : ((a[i].toNat : Int) == (b[j].toNat : Int)) = false := by rw [beq_eq_false_iff_ne]; omega
          have heq2 : decide ((a[i].toNat : Int) = (b[j].toNat : Int)) = false := decide_eq_false (by omega)
          have HI := hidE hI
          clear hI
          go_upto_region 5 with fail
          go_quiet (fail)
          have hI5 := HI.out.below (w' := wr.drewN nq) ⟨rfl, rfl, rfl, Nat.le_refl _, fun _ _ => rfl⟩
          have HI5 := hidE hI5
          clear hI5
          generalize wr.drewN nq = wd5 at *
          clear HI
          have hRow := HI5.out.kept.row HTT.out HNW.out (by omega) (by omega)
          have ct0 := hRow.cell (i := i) (by omega)
          have ct1 := hRow.cell (i := i + 1) (by omega)
          unfold topF at ct0 ct1
          rw [if_pos (Nat.zero_le _)] at ct0 ct1
          have hR0 := HTD.out i (Nat.zero_le _) (by omega)
          have hR1 := HTD.out (i + 1) (Nat.zero_le _) (by omega)
          have cr0 := (HI5.out.kept.row hR0 hR0.lt (by omega) (by omega)).cell (i := j + 1) (by omega)
          have cr1 := (HI5.out.kept.row hR1 hR1.lt (by omega) (by omega)).cell (i := j) (by omega)
          have hi1 : (i : Int) < (a.size : Int) + 1 := by omega
          have hi2 : ((i + 1 : Nat) : Int) < (a.size : Int) + 1 := by omega
          have hj2 : ((j + 1 : Nat) : Int) < (b.size : Int) + 1 := by omega
          have hj3 : (j : Int) < (b.size : Int) + 1 := by omega
          clear hRow hR0 hR1
          by_cases hcc : comm a b i (j + 1) ≤ comm a b (i + 1) j
          · have HW := hidE (walkA_take hia hjb hab hcc)
            have hcg : decide (((comm a b (i + 1) j : Nat) : Int) ≥ ((comm a b i (j + 1) : Nat) : Int)) = true := decide_eq_true (by omega)
            have hcg2 : decide (((comm a b i (j + 1) : Nat) : Int) ≤ ((comm a b (i + 1) j : Nat) : Int)) = true := decide_eq_true (by omega)
            have hcg3 : ((comm a b i (j + 1) : Nat) : Int) ≤ ((comm a b (i + 1) j : Nat) : Int) := by omega
            go_upto_region 7 with fail
            go_quiet (fail)
            have hI7 := HI5.out.below (w' := wd5.drewN nq) ⟨rfl, rfl, rfl, Nat.le_refl _, fun _ _ => rfl⟩
            have HI7 := hidE hI7
            clear hI7
            generalize wd5.drewN nq = wd7 at *
            clear HI5
            have HD1 := hidE (diff1_ok T1 T2 w1.heap.size v u RT RP i wd7 (by omega) (fun g hg => by have := HI7.out.small.t g hg; omega) (by have := HI7.out.small.tl; omega) HI7.out.st)
            go_wp2_with (refine HD1.out.mono ?_; rintro e w2 ⟨rfl, ⟨v', hs⟩, hk⟩; have HNX := hidE (HI7.out.take HW.out hs hk); clear hs hk HD1)
            go_roundw
            case rel => exact ⟨i + 1, j, hia, hj, rfl, rfl, _, _, _, _, HNX.out⟩
            case measure => simp [intOf]; omega
          · have HW := hidE (walkA_put hia hjb hab hcc)
            have hcg : decide (((comm a b (i + 1) j : Nat) : Int) ≥ ((comm a b i (j + 1) : Nat) : Int)) = false := decide_eq_false (by omega)
            have hcg2 : decide (((comm a b i (j + 1) : Nat) : Int) ≤ ((comm a b (i + 1) j : Nat) : Int)) = false := decide_eq_false (by omega)
            go_upto_region 7 with fail
            go_quiet (fail)
            have hI7 := HI5.out.below (w' := wd5.drewN nq) ⟨rfl, rfl, rfl, Nat.le_refl _, fun _ _ => rfl⟩
            have HI7 := hidE hI7
            clear hI7
            generalize wd5.drewN nq = wd7 at *
            clear HI5
            have HD2 := hidE (diff2_ok T1 T2 Z w1.heap.size v u RT RP j b wd7 hjb hb (fun g hg => by have := HI7.out.small.p g hg; exact ⟨by omega, this.2⟩) (by have := HI7.out.small.pl; omega) (HI7.out.kept.cell (p := ⟨Z, 0, none⟩) lz1 hz1 hz2 hz1w) HI7.out.st)
            rw [ptB_at hjb] at HD2
            go_wp2_with (refine HD2.out.mono ?_; rintro e w2 ⟨rfl, ⟨u', hs⟩, hk⟩; have HNX := hidE (HI7.out.put HW.out hs hk); clear hs hk HD2)
            go_roundw
            case rel => exact ⟨i, j + 1, hi, hjb, rfl, rfl, _, _, _, _, HNX.out⟩
            case measure => simp [intOf]; omega
      · obtain rfl : j = b.size := by omega
        have hin : (i : Int) < (a.size : Int) := by omega
        have hin' : decide ((i : Int) < (a.size : Int)) = true := by simpa using hia
        have hwi : IntKind.i64.wrap ((i : Int) + 1) = ((i + 1 : Nat) : Int) := by rw [IntKind.wrap_i64] <;> omega
        have hjl : decide ((b.size : Int) < (b.size : Int)) = false := by simp
        have hje : ((b.size : Int) == (b.size : Int)) = true := by simp
        have hje2 : decide ((b.size : Int) = (b.size : Int)) = true := by simp
        have HW := hidE (walkA_takeE hia (Nat.le_refl b.size))
        have HI := hidE hI
        clear hI
        go_upto_region 5 with fail
        go_quiet (fail)
        have hI5 := HI.out.below (w' := wr.drewN nq) ⟨rfl, rfl, rfl, Nat.le_refl _, fun _ _ => rfl⟩
        have HI5 := hidE hI5
        clear hI5
        generalize wr.drewN nq = wd5 at *
        clear HI
        go_upto_region 7 with fail
        go_quiet (fail)
        have hI7 := HI5.out.below (w' := wd5.drewN nq) ⟨rfl, rfl, rfl, Nat.le_refl _, fun _ _ => rfl⟩
        have HI7 := hidE hI7
        clear hI7
        generalize wd5.drewN nq = wd7 at *
        clear HI5
        have HD1 := hidE (diff1_ok T1 T2 w1.heap.size v u RT RP i wd7 (by omega) (fun g hg => by have := HI7.out.small.t g hg; omega) (by have := HI7.out.small.tl; omega) HI7.out.st)
        go_wp2_with (refine HD1.out.mono ?_; rintro e w2 ⟨rfl, ⟨v', hs⟩, hk⟩; have HNX := hidE (HI7.out.take HW.out hs hk); clear hs hk HD1)
        go_roundw
        case rel => exact ⟨i + 1, b.size, hia, Nat.le_refl _, rfl, rfl, _, _, _, _, HNX.out⟩
        case measure => simp [intOf]; omega
    · rcases Nat.lt_or_ge j b.size with hjb | hjb
      · obtain rfl : i = a.size := by omega
        have hjn : (j : Int) < (b.size : Int) := by omega
        have hjn' : decide ((j : Int) < (b.size : Int)) = true := by simpa using hjb
        have hwj : IntKind.i64.wrap ((j : Int) + 1) = ((j + 1 : Nat) : Int) := by rw [IntKind.wrap_i64] <;> omega
        have hil : decide ((a.size : Int) < (a.size : Int)) = false := by simp
        have hje : ((j : Int) == (b.size : Int)) = false := by rw [beq_eq_false_iff_ne]; omega
        have hje2 : decide ((j : Int) = (b.size : Int)) = false := decide_eq_false (by omega)
        have HW := hidE (walkA_putE (Nat.le_refl a.size) hjb)
        have HI := hidE hI
        clear hI
        go_upto_region 5 with fail
        go_quiet (fail)
        have hI5 := HI.out.below (w' := wr.drewN nq) ⟨rfl, rfl, rfl, Nat.le_refl _, fun _ _ => rfl⟩
        have HI5 := hidE hI5
        clear hI5
        generalize wr.drewN nq = wd5 at *
        clear HI
        go_upto_region 7 with fail
        go_quiet (fail)
        have hI7 := HI5.out.below (w' := wd5.drewN nq) ⟨rfl, rfl, rfl, Nat.le_refl _, fun _ _ => rfl⟩
        have HI7 := hidE hI7
        clear hI7
        generalize wd5.drewN nq = wd7 at *
        clear HI5
        have HD2 := hidE (diff2_ok T1 T2 Z w1.heap.size v u RT RP j b wd7 hjb hb (fun g hg => by have := HI7.out.small.p g hg; exact ⟨by omega, this.2⟩) (by have := HI7.out.small.pl; omega) (HI7.out.kept.cell (p := ⟨Z, 0, none⟩) lz1 hz1 hz2 hz1w) HI7.out.st)
        rw [ptB_at hjb] at HD2
        go_wp2_with (refine HD2.out.mono ?_; rintro e w2 ⟨rfl, ⟨u', hs⟩, hk⟩; have HNX := hidE (HI7.out.put HW.out hs hk); clear hs hk HD2)
        go_roundw
        case rel => exact ⟨a.size, j + 1, Nat.le_refl _, hjb, rfl, rfl, _, _, _, _, HNX.out⟩
        case measure => simp [intOf]; omega
      · obtain rfl : i = a.size := by omega
        obtain rfl : j = b.size := by omega
        have hil : decide ((a.size : Int) < (a.size : Int)) = false := by simp
        have hjl : decide ((b.size : Int) < (b.size : Int)) = false := by simp
        have HE := hidE (hI.done (Nat.le_refl a.size) (Nat.le_refl b.size))
        have HI := hidE hI
        clear hI
        go_wp2_with fail
        go_end0
        rw [HFT.out, HFP.out, hNN, ← HE.out.1, ← HE.out.2]
        exact ⟨rfl, ⟨w1, v, u, hge, HI.out.st, HI.out.small⟩, (KeptD.of_below HBE.out).trans (HI.out.kept.weak hge)⟩
end Go.Proofs.YtnhjebdlcbhkcaeGreat
