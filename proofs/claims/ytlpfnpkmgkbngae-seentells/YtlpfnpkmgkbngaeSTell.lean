/- Contract of the law SeenTells. -/
import Derived.Test.YtlpfnpkmgkbngaeSeenPu
import Derived.Test.YtlpfnpkmgkbngaeSeenB
import Derived.Test.YtlpfnpkmgkbngaeJoinR
import Derived.Test.YtlpfnpkmgkbngaeNoteR
namespace Go.Proofs.Ytlpfnpkmgkbngae
open Go.RowKit

/-- what the law was handed, and lists that it made -/
structure STAt (w : World) (a b p q : Option Addr) (l m : List Int) (n : Nt) (r : List (Option Addr × List Int)) : Prop where
  l : IntsAt w a l
  m : IntsAt w b m
  n : NtAt w n p q
  r : ∀ x ∈ r, IntsAt w x.1 x.2
theorem STAt.below {w w' : World} {a b p q : Option Addr} {l m : List Int} {n : Nt} {r : List (Option Addr × List Int)} (h : STAt w a b p q l m n r) (hb : Below w.heap.size w w') : STAt w' a b p q l m n r := ⟨h.l.below hb, h.m.below hb, h.n.below hb, fun x hx => (h.r x hx).below hb⟩
theorem STAt.put {w : World} {a b p q : Option Addr} {l m : List Int} {n : Nt} {r : List (Option Addr × List Int)} (h : STAt w a b p q l m n r) (c : Option Addr) (j : List Int) (hj : IntsAt w c j) : STAt w a b p q l m n ((c, j) :: r) := ⟨h.l, h.m, h.n, fun x hx => by
  rcases List.mem_cons.1 hx with rfl | hx
  · exact hj
  · exact h.r x hx⟩

theorem sameInts_self (a a' : Option Addr) (cap cap' : Nat) (l : List Int) (w : World) (hl : l.length ≤ maxLen) (h : IntsAt w a l) (h' : IntsAt w a' l) :
    Calls Try.prog 14 #[.slice a l.length cap, .slice a' l.length cap'] w fun e w' => e = .returned (.bool true) ∧ Below w.heap.size w w' := by
  have hs := sameInts_any a a' cap cap' l l w hl hl h h'
  rw [decide_eq_true rfl] at hs
  exact hs

theorem readyOf_err {l : List Int} {n : Nt} (h : errR l n ≠ 0) : readyOf l n = false := by
  unfold readyOf; rw [decide_eq_false h]; rfl
theorem readyOf_ok {l : List Int} {n : Nt} (h : errR l n = 0) : readyOf l n = mayR l n := by
  unfold readyOf; rw [decide_eq_true h]; rfl

set_option maxRecDepth 100000 in
set_option maxHeartbeats 8000000 in
theorem seenTells_ok (a b p q : Option Addr) (ca cb cp cq : Nat) (l m : List Int) (n : Nt) (w : World) (hl : l.length ≤ maxLen) (hm : m.length ≤ maxLen) (h1 : IntsAt w a l) (h2 : IntsAt w b m) (h3 : NtAt w n p q) :
    Calls Try.prog 3 #[.slice a l.length ca, .slice b m.length cb, ntV n p q cp cq] w fun e w' => e = .returned (.bool true) ∧ Below w.heap.size w w' := by
  have HF0 := hidE (STAt.mk (r := []) h1 h2 h3 (fun x hx => by simp at hx))
  clear h1 h2 h3
  have HRD := hidE (fun (W : World) (x : IntsAt W a l) (y : NtAt W n p q) => seenReady_any a ca l n p q cp cq W hl x y)
  have HCN := hidE (fun (W : World) (y : NtAt W n p q) => checkNote_any n p q cp cq W y)
  have HIR := hidE (fun (W : World) (k1 : chkSeen l = 0) (k2 : chkN n = 0) (x : IntsAt W a l) (y : NtAt W n p q) => isReady_any a ca l n p q cp cq W k1 k2 x y)
  have HJO := hidE (fun (W : World) (h5 : l.length = 5) (h5' : m.length = 5) (x : IntsAt W a l) (y : IntsAt W b m) => joinOf_any a b ca cb l m W h5 h5' x y)
  have HCO := hidE (fun (W : World) (h5 : l.length = 5) (h5' : m.length = 5) (x : IntsAt W a l) (y : IntsAt W b m) => coversOf_any a b ca cb l m W h5 h5' x y)
  have HJL := hidE (@joinOf_len l m)
  have HEN : Hid (errR l n = orE (chkSeen l) (chkN n)) := rfl
  have HE2 : Hid (err2 l m = orE (chkSeen l) (chkSeen m)) := rfl
  have HR0 := hidE (@readyOf_err l n)
  have HR1 := hidE (@readyOf_ok l n)
  generalize errR l n = er at *
  generalize readyOf l n = rd at *
  generalize mayR l n = mr at *
  generalize chkN n = kn at *
  obtain ⟨site, number, needs, deeds⟩ := n
  unfold ntV at HRD HCN HIR ⊢
  simp only at HRD HCN HIR ⊢
  have hB := (Below.refl w.heap.size w).alloc (Nat.le_refl _) (Obj.cells #[.int .i64 site, .int .i64 number, .slice p needs.length cp, .slice q deeds.length cq] 25)
  have q0 : (w.alloc (Obj.cells #[.int .i64 site, .int .i64 number, .slice p needs.length cp, .slice q deeds.length cq] 25)).cell? ⟨w.heap.size, 0, none⟩ = some (.int .i64 site) := by simp
  have q1 : (w.alloc (Obj.cells #[.int .i64 site, .int .i64 number, .slice p needs.length cp, .slice q deeds.length cq] 25)).cell? ⟨w.heap.size, 1, none⟩ = some (.int .i64 number) := by simp
  have q2 : (w.alloc (Obj.cells #[.int .i64 site, .int .i64 number, .slice p needs.length cp, .slice q deeds.length cq] 25)).cell? ⟨w.heap.size, 2, none⟩ = some (.slice p needs.length cp) := by simp
  have q3 : (w.alloc (Obj.cells #[.int .i64 site, .int .i64 number, .slice p needs.length cp, .slice q deeds.length cq] 25)).cell? ⟨w.heap.size, 3, none⟩ = some (.slice q deeds.length cq) := by simp
  have z : w.heap.size < (w.alloc (Obj.cells #[.int .i64 site, .int .i64 number, .slice p needs.length cp, .slice q deeds.length cq] 25)).heap.size := by simp
  have HF := hidE (HF0.out.below hB)
  clear HF0
  go_enter Try.func3, Try.ntmps3
  go_upto_region 1 with fail
  generalize w.alloc (Obj.cells #[.int .i64 site, .int .i64 number, .slice p needs.length cp, .slice q deeds.length cq] 25) = W at hB q0 q1 q2 q3 z HF ⊢
  generalize hzz : w.heap.size = Z at hB q0 q1 q2 q3 z ⊢
  have HZ := hidE hzz
  clear hzz
  have HC := hidE (seenJoin_any a b ca cb l m W hl hm HF.out.l HF.out.m)
  go_wp2_with fail
  refine HC.out.mono ?_
  rintro e w1 ⟨pj, cj, rfl, h4, hb⟩
  replace HF := hidE (HF.out.below hb)
  replace q0 := (hb.cell (p := ⟨Z, 0, none⟩) z).trans q0
  replace q1 := (hb.cell (p := ⟨Z, 1, none⟩) z).trans q1
  replace q2 := (hb.cell (p := ⟨Z, 2, none⟩) z).trans q2
  replace q3 := (hb.cell (p := ⟨Z, 3, none⟩) z).trans q3
  replace hB := hB.thru hb (Nat.le_of_lt z)
  replace z := Nat.lt_of_lt_of_le z hb.size
  clear hb
  replace HF := hidE (HF.out.put pj _ h4)
  clear HC h4
  have HC := hidE (seenCovers_any a b ca cb l m w1 hl hm HF.out.l HF.out.m)
  go_wp2_with fail
  refine HC.out.mono ?_
  rintro e w2 ⟨rfl, hb⟩
  replace HF := hidE (HF.out.below hb)
  replace q0 := (hb.cell (p := ⟨Z, 0, none⟩) z).trans q0
  replace q1 := (hb.cell (p := ⟨Z, 1, none⟩) z).trans q1
  replace q2 := (hb.cell (p := ⟨Z, 2, none⟩) z).trans q2
  replace q3 := (hb.cell (p := ⟨Z, 3, none⟩) z).trans q3
  replace hB := hB.thru hb (Nat.le_of_lt z)
  replace z := Nat.lt_of_lt_of_le z hb.size
  clear hb
  clear HC
  go_wp2_with fail
  refine (HRD.out _ HF.out.l HF.out.n).mono ?_
  rintro e w3 ⟨rfl, hb⟩
  replace HF := hidE (HF.out.below hb)
  replace q0 := (hb.cell (p := ⟨Z, 0, none⟩) z).trans q0
  replace q1 := (hb.cell (p := ⟨Z, 1, none⟩) z).trans q1
  replace q2 := (hb.cell (p := ⟨Z, 2, none⟩) z).trans q2
  replace q3 := (hb.cell (p := ⟨Z, 3, none⟩) z).trans q3
  replace hB := hB.thru hb (Nat.le_of_lt z)
  replace z := Nat.lt_of_lt_of_le z hb.size
  clear hb
  clear HRD
  have HC := hidE (checkSeen_any a ca l w3 HF.out.l)
  go_wp2_with fail
  refine HC.out.mono ?_
  rintro e w4 ⟨rfl, hb⟩
  replace HF := hidE (HF.out.below hb)
  replace q0 := (hb.cell (p := ⟨Z, 0, none⟩) z).trans q0
  replace q1 := (hb.cell (p := ⟨Z, 1, none⟩) z).trans q1
  replace q2 := (hb.cell (p := ⟨Z, 2, none⟩) z).trans q2
  replace q3 := (hb.cell (p := ⟨Z, 3, none⟩) z).trans q3
  replace hB := hB.thru hb (Nat.le_of_lt z)
  replace z := Nat.lt_of_lt_of_le z hb.size
  clear hb
  clear HC
  have HCK := hidE (fun (X : World) (x : IntsAt X a l) => seenCheck_any a ca l X hl x)
  have HCM := hidE (fun (X : World) (x : IntsAt X b m) => checkSeen_any b cb m X x)
  by_cases k1 : chkSeen l = 0
  case neg =>
    have e2 : err2 l m = chkSeen l := by rw [HE2.out]; unfold orE; rw [if_pos k1]
    have er1 : er = chkSeen l := by rw [HEN.out]; unfold orE; rw [if_pos k1]
    have er0 : er ≠ 0 := by rw [er1]; exact k1
    have e20 : err2 l m ≠ 0 := by rw [e2]; exact k1
    have ej := joinOf_err e20
    have ec := covOf_err e20
    have ed := HR0.out er0
    rw [ej, ec, ed, e2, er1]
    have hk : (chkSeen l == 0) = false := by rw [beq_eq_false_iff_ne]; exact k1
    generalize chkSeen l = u at *
    clear k1 e2 er1 er0 e20 ej ec ed HE2 HEN HR0 HR1 HIR HCO HJO HJL
    go_wp2_with fail
    refine (seenBegun_true _).mono ?_
    rintro e w11 ⟨rfl, hb⟩
    replace HF := hidE (HF.out.below hb)
    replace q0 := (hb.cell (p := ⟨Z, 0, none⟩) z).trans q0
    replace q1 := (hb.cell (p := ⟨Z, 1, none⟩) z).trans q1
    replace q2 := (hb.cell (p := ⟨Z, 2, none⟩) z).trans q2
    replace q3 := (hb.cell (p := ⟨Z, 3, none⟩) z).trans q3
    replace hB := hB.thru hb (Nat.le_of_lt z)
    replace z := Nat.lt_of_lt_of_le z hb.size
    clear hb
    go_wp2_with fail
    refine (HCK.out _ HF.out.l).mono ?_
    rintro e w12 ⟨rfl, hb⟩
    replace HF := hidE (HF.out.below hb)
    replace q0 := (hb.cell (p := ⟨Z, 0, none⟩) z).trans q0
    replace q1 := (hb.cell (p := ⟨Z, 1, none⟩) z).trans q1
    replace q2 := (hb.cell (p := ⟨Z, 2, none⟩) z).trans q2
    replace q3 := (hb.cell (p := ⟨Z, 3, none⟩) z).trans q3
    replace hB := hB.thru hb (Nat.le_of_lt z)
    replace z := Nat.lt_of_lt_of_le z hb.size
    clear hb
    go_wp2_with fail
    refine (sameInts_self pj none cj 0 [] _ (Nat.zero_le _) (Or.inl rfl) (Or.inl rfl)).mono ?_
    rintro e w13 ⟨rfl, hb⟩
    replace HF := hidE (HF.out.below hb)
    replace q0 := (hb.cell (p := ⟨Z, 0, none⟩) z).trans q0
    replace q1 := (hb.cell (p := ⟨Z, 1, none⟩) z).trans q1
    replace q2 := (hb.cell (p := ⟨Z, 2, none⟩) z).trans q2
    replace q3 := (hb.cell (p := ⟨Z, 3, none⟩) z).trans q3
    replace hB := hB.thru hb (Nat.le_of_lt z)
    replace z := Nat.lt_of_lt_of_le z hb.size
    clear hb
    go_wp2_with fail
    go_ret
    rw [HZ.out]
    exact ⟨ret_bool (by simp), hB⟩
  have HK1 := hidE k1
  have h5 := (chkSeen_zero k1).1
  have e2 : err2 l m = chkSeen m := err2_mk k1
  have er1 : er = kn := by rw [HEN.out]; unfold orE; rw [if_neg (by simpa using k1)]
  subst er1
  have HE2' := hidE e2
  rw [k1, e2]
  rw [k1] at HCK
  clear e2 k1
  go_wp2_with fail
  refine (HCM.out _ HF.out.m).mono ?_
  rintro e w14 ⟨rfl, hb⟩
  replace HF := hidE (HF.out.below hb)
  replace q0 := (hb.cell (p := ⟨Z, 0, none⟩) z).trans q0
  replace q1 := (hb.cell (p := ⟨Z, 1, none⟩) z).trans q1
  replace q2 := (hb.cell (p := ⟨Z, 2, none⟩) z).trans q2
  replace q3 := (hb.cell (p := ⟨Z, 3, none⟩) z).trans q3
  replace hB := hB.thru hb (Nat.le_of_lt z)
  replace z := Nat.lt_of_lt_of_le z hb.size
  clear hb
  go_wp2_with fail
  refine (HCN.out _ HF.out.n).mono ?_
  rintro e w15 ⟨rfl, hb⟩
  replace HF := hidE (HF.out.below hb)
  replace q0 := (hb.cell (p := ⟨Z, 0, none⟩) z).trans q0
  replace q1 := (hb.cell (p := ⟨Z, 1, none⟩) z).trans q1
  replace q2 := (hb.cell (p := ⟨Z, 2, none⟩) z).trans q2
  replace q3 := (hb.cell (p := ⟨Z, 3, none⟩) z).trans q3
  replace hB := hB.thru hb (Nat.le_of_lt z)
  replace z := Nat.lt_of_lt_of_le z hb.size
  clear hb
  have k1 := HK1.out
  have e2 := HE2'.out
  by_cases k2 : chkSeen m = 0
  · by_cases k3 : er = 0
    · have h5' := (chkSeen_zero k2).1
      have ej := joinOf_ok k1 k2
      have ec := covOf_ok k1 k2
      have HJO' := hidE (fun (W : World) (x : IntsAt W a l) (y : IntsAt W b m) => HJO.out W h5 h5' x y)
      have HCO' := hidE (fun (W : World) (x : IntsAt W a l) (y : IntsAt W b m) => HCO.out W h5 h5' x y)
      have hjl : (List.zipWith max l m).length = 5 := by simp; omega
      have HSM : Hid (∀ (W : World) (p2 : Option Addr) (c2 : Nat), IntsAt W pj (List.zipWith max l m) → IntsAt W p2 (List.zipWith max l m) → Calls Try.prog 14 #[.slice pj 5 cj, .slice p2 5 c2] W fun e w' => e = .returned (.bool true) ∧ Below W.heap.size W w') := fun W p2 c2 x y => by
        have := sameInts_self pj p2 cj c2 (List.zipWith max l m) W (by rw [hjl]; unfold maxLen; omega) x y
        rw [hjl] at this
        exact this
      rw [ej] at HF
      rw [k2, ec, ej, hjl]
      try rw [h5']
      clear ej ec hjl k2 h5' e2 HE2'
      generalize List.zipWith max l m = j at *
      generalize covL l m = cv at *
      have HIR' := hidE (fun (W : World) (x : IntsAt W a l) (y : NtAt W ⟨site, number, needs, deeds⟩ p q) => HIR.out W HK1.out k3 x y)
      rw [HR1.out k3, k3]
      rw [h5] at HCK
      try rw [h5]
      clear k3
      clear HE2 HEN HR0 HR1 HIR HCO HJO HJL HK1 k1 h5 HCM HCN
      go_wp2_with fail
      refine (HJO'.out _ HF.out.l HF.out.m).mono ?_
      rintro e w16 ⟨p2, c2, rfl, h4, hb⟩
      replace HF := hidE (HF.out.below hb)
      replace q0 := (hb.cell (p := ⟨Z, 0, none⟩) z).trans q0
      replace q1 := (hb.cell (p := ⟨Z, 1, none⟩) z).trans q1
      replace q2 := (hb.cell (p := ⟨Z, 2, none⟩) z).trans q2
      replace q3 := (hb.cell (p := ⟨Z, 3, none⟩) z).trans q3
      replace hB := hB.thru hb (Nat.le_of_lt z)
      replace z := Nat.lt_of_lt_of_le z hb.size
      clear hb
      replace HF := hidE (HF.out.put p2 _ h4)
      clear h4
      go_wp2_with fail
      refine (seenBegun_true _).mono ?_
      rintro e w17 ⟨rfl, hb⟩
      replace HF := hidE (HF.out.below hb)
      replace q0 := (hb.cell (p := ⟨Z, 0, none⟩) z).trans q0
      replace q1 := (hb.cell (p := ⟨Z, 1, none⟩) z).trans q1
      replace q2 := (hb.cell (p := ⟨Z, 2, none⟩) z).trans q2
      replace q3 := (hb.cell (p := ⟨Z, 3, none⟩) z).trans q3
      replace hB := hB.thru hb (Nat.le_of_lt z)
      replace z := Nat.lt_of_lt_of_le z hb.size
      clear hb
      go_wp2_with fail
      refine (HCK.out _ HF.out.l).mono ?_
      rintro e w18 ⟨rfl, hb⟩
      replace HF := hidE (HF.out.below hb)
      replace q0 := (hb.cell (p := ⟨Z, 0, none⟩) z).trans q0
      replace q1 := (hb.cell (p := ⟨Z, 1, none⟩) z).trans q1
      replace q2 := (hb.cell (p := ⟨Z, 2, none⟩) z).trans q2
      replace q3 := (hb.cell (p := ⟨Z, 3, none⟩) z).trans q3
      replace hB := hB.thru hb (Nat.le_of_lt z)
      replace z := Nat.lt_of_lt_of_le z hb.size
      clear hb
      go_wp2_with fail
      refine (HSM.out _ p2 c2 (HF.out.r (pj, j) (by simp)) (HF.out.r (p2, j) (by simp))).mono ?_
      rintro e w19 ⟨rfl, hb⟩
      replace HF := hidE (HF.out.below hb)
      replace q0 := (hb.cell (p := ⟨Z, 0, none⟩) z).trans q0
      replace q1 := (hb.cell (p := ⟨Z, 1, none⟩) z).trans q1
      replace q2 := (hb.cell (p := ⟨Z, 2, none⟩) z).trans q2
      replace q3 := (hb.cell (p := ⟨Z, 3, none⟩) z).trans q3
      replace hB := hB.thru hb (Nat.le_of_lt z)
      replace z := Nat.lt_of_lt_of_le z hb.size
      clear hb
      go_wp2_with fail
      refine (HCO'.out _ HF.out.l HF.out.m).mono ?_
      rintro e w20 ⟨rfl, hb⟩
      replace HF := hidE (HF.out.below hb)
      replace q0 := (hb.cell (p := ⟨Z, 0, none⟩) z).trans q0
      replace q1 := (hb.cell (p := ⟨Z, 1, none⟩) z).trans q1
      replace q2 := (hb.cell (p := ⟨Z, 2, none⟩) z).trans q2
      replace q3 := (hb.cell (p := ⟨Z, 3, none⟩) z).trans q3
      replace hB := hB.thru hb (Nat.le_of_lt z)
      replace z := Nat.lt_of_lt_of_le z hb.size
      clear hb
      go_wp2_with fail
      refine (HIR'.out _ HF.out.l HF.out.n).mono ?_
      rintro e w21 ⟨rfl, hb⟩
      replace HF := hidE (HF.out.below hb)
      replace q0 := (hb.cell (p := ⟨Z, 0, none⟩) z).trans q0
      replace q1 := (hb.cell (p := ⟨Z, 1, none⟩) z).trans q1
      replace q2 := (hb.cell (p := ⟨Z, 2, none⟩) z).trans q2
      replace q3 := (hb.cell (p := ⟨Z, 3, none⟩) z).trans q3
      replace hB := hB.thru hb (Nat.le_of_lt z)
      replace z := Nat.lt_of_lt_of_le z hb.size
      clear hb
      go_wp2_with fail
      go_ret
      rw [HZ.out]
      exact ⟨ret_bool (by simp), hB⟩
    · have h5' := (chkSeen_zero k2).1
      have ej := joinOf_ok k1 k2
      have ec := covOf_ok k1 k2
      have HJO' := hidE (fun (W : World) (x : IntsAt W a l) (y : IntsAt W b m) => HJO.out W h5 h5' x y)
      have HCO' := hidE (fun (W : World) (x : IntsAt W a l) (y : IntsAt W b m) => HCO.out W h5 h5' x y)
      have hjl : (List.zipWith max l m).length = 5 := by simp; omega
      have HSM : Hid (∀ (W : World) (p2 : Option Addr) (c2 : Nat), IntsAt W pj (List.zipWith max l m) → IntsAt W p2 (List.zipWith max l m) → Calls Try.prog 14 #[.slice pj 5 cj, .slice p2 5 c2] W fun e w' => e = .returned (.bool true) ∧ Below W.heap.size W w') := fun W p2 c2 x y => by
        have := sameInts_self pj p2 cj c2 (List.zipWith max l m) W (by rw [hjl]; unfold maxLen; omega) x y
        rw [hjl] at this
        exact this
      rw [ej] at HF
      rw [k2, ec, ej, hjl]
      try rw [h5']
      clear ej ec hjl k2 h5' e2 HE2'
      generalize List.zipWith max l m = j at *
      generalize covL l m = cv at *
      rw [HR0.out k3]
      have hk3 : (er == 0) = false := by rw [beq_eq_false_iff_ne]; exact k3
      rw [h5] at HCK
      try rw [h5]
      clear k3
      clear HE2 HEN HR0 HR1 HIR HCO HJO HJL HK1 k1 h5 HCM HCN
      go_wp2_with fail
      refine (HJO'.out _ HF.out.l HF.out.m).mono ?_
      rintro e w22 ⟨p2, c2, rfl, h4, hb⟩
      replace HF := hidE (HF.out.below hb)
      replace q0 := (hb.cell (p := ⟨Z, 0, none⟩) z).trans q0
      replace q1 := (hb.cell (p := ⟨Z, 1, none⟩) z).trans q1
      replace q2 := (hb.cell (p := ⟨Z, 2, none⟩) z).trans q2
      replace q3 := (hb.cell (p := ⟨Z, 3, none⟩) z).trans q3
      replace hB := hB.thru hb (Nat.le_of_lt z)
      replace z := Nat.lt_of_lt_of_le z hb.size
      clear hb
      replace HF := hidE (HF.out.put p2 _ h4)
      clear h4
      go_wp2_with fail
      refine (seenBegun_true _).mono ?_
      rintro e w23 ⟨rfl, hb⟩
      replace HF := hidE (HF.out.below hb)
      replace q0 := (hb.cell (p := ⟨Z, 0, none⟩) z).trans q0
      replace q1 := (hb.cell (p := ⟨Z, 1, none⟩) z).trans q1
      replace q2 := (hb.cell (p := ⟨Z, 2, none⟩) z).trans q2
      replace q3 := (hb.cell (p := ⟨Z, 3, none⟩) z).trans q3
      replace hB := hB.thru hb (Nat.le_of_lt z)
      replace z := Nat.lt_of_lt_of_le z hb.size
      clear hb
      go_wp2_with fail
      refine (HCK.out _ HF.out.l).mono ?_
      rintro e w24 ⟨rfl, hb⟩
      replace HF := hidE (HF.out.below hb)
      replace q0 := (hb.cell (p := ⟨Z, 0, none⟩) z).trans q0
      replace q1 := (hb.cell (p := ⟨Z, 1, none⟩) z).trans q1
      replace q2 := (hb.cell (p := ⟨Z, 2, none⟩) z).trans q2
      replace q3 := (hb.cell (p := ⟨Z, 3, none⟩) z).trans q3
      replace hB := hB.thru hb (Nat.le_of_lt z)
      replace z := Nat.lt_of_lt_of_le z hb.size
      clear hb
      go_wp2_with fail
      refine (HSM.out _ p2 c2 (HF.out.r (pj, j) (by simp)) (HF.out.r (p2, j) (by simp))).mono ?_
      rintro e w25 ⟨rfl, hb⟩
      replace HF := hidE (HF.out.below hb)
      replace q0 := (hb.cell (p := ⟨Z, 0, none⟩) z).trans q0
      replace q1 := (hb.cell (p := ⟨Z, 1, none⟩) z).trans q1
      replace q2 := (hb.cell (p := ⟨Z, 2, none⟩) z).trans q2
      replace q3 := (hb.cell (p := ⟨Z, 3, none⟩) z).trans q3
      replace hB := hB.thru hb (Nat.le_of_lt z)
      replace z := Nat.lt_of_lt_of_le z hb.size
      clear hb
      go_wp2_with fail
      refine (HCO'.out _ HF.out.l HF.out.m).mono ?_
      rintro e w26 ⟨rfl, hb⟩
      replace HF := hidE (HF.out.below hb)
      replace q0 := (hb.cell (p := ⟨Z, 0, none⟩) z).trans q0
      replace q1 := (hb.cell (p := ⟨Z, 1, none⟩) z).trans q1
      replace q2 := (hb.cell (p := ⟨Z, 2, none⟩) z).trans q2
      replace q3 := (hb.cell (p := ⟨Z, 3, none⟩) z).trans q3
      replace hB := hB.thru hb (Nat.le_of_lt z)
      replace z := Nat.lt_of_lt_of_le z hb.size
      clear hb
      go_wp2_with fail
      go_ret
      rw [HZ.out]
      exact ⟨ret_bool (by simp), hB⟩
  · by_cases k3 : er = 0
    · have e20 : err2 l m ≠ 0 := by rw [e2]; exact k2
      have ej := joinOf_err e20
      have ec := covOf_err e20
      rw [ej, ec]
      have hk : (chkSeen m == 0) = false := by rw [beq_eq_false_iff_ne]; exact k2
      clear e20 ej ec k2 e2 HE2'
      generalize chkSeen m = u at *
      have HIR' := hidE (fun (W : World) (x : IntsAt W a l) (y : NtAt W ⟨site, number, needs, deeds⟩ p q) => HIR.out W HK1.out k3 x y)
      rw [HR1.out k3, k3]
      rw [h5] at HCK
      try rw [h5]
      clear k3
      clear HE2 HEN HR0 HR1 HIR HCO HJO HJL HK1 k1 h5 HCM HCN
      go_wp2_with fail
      refine (seenBegun_true _).mono ?_
      rintro e w27 ⟨rfl, hb⟩
      replace HF := hidE (HF.out.below hb)
      replace q0 := (hb.cell (p := ⟨Z, 0, none⟩) z).trans q0
      replace q1 := (hb.cell (p := ⟨Z, 1, none⟩) z).trans q1
      replace q2 := (hb.cell (p := ⟨Z, 2, none⟩) z).trans q2
      replace q3 := (hb.cell (p := ⟨Z, 3, none⟩) z).trans q3
      replace hB := hB.thru hb (Nat.le_of_lt z)
      replace z := Nat.lt_of_lt_of_le z hb.size
      clear hb
      go_wp2_with fail
      refine (HCK.out _ HF.out.l).mono ?_
      rintro e w28 ⟨rfl, hb⟩
      replace HF := hidE (HF.out.below hb)
      replace q0 := (hb.cell (p := ⟨Z, 0, none⟩) z).trans q0
      replace q1 := (hb.cell (p := ⟨Z, 1, none⟩) z).trans q1
      replace q2 := (hb.cell (p := ⟨Z, 2, none⟩) z).trans q2
      replace q3 := (hb.cell (p := ⟨Z, 3, none⟩) z).trans q3
      replace hB := hB.thru hb (Nat.le_of_lt z)
      replace z := Nat.lt_of_lt_of_le z hb.size
      clear hb
      go_wp2_with fail
      refine (sameInts_self pj none cj 0 [] _ (Nat.zero_le _) (Or.inl rfl) (Or.inl rfl)).mono ?_
      rintro e w29 ⟨rfl, hb⟩
      replace HF := hidE (HF.out.below hb)
      replace q0 := (hb.cell (p := ⟨Z, 0, none⟩) z).trans q0
      replace q1 := (hb.cell (p := ⟨Z, 1, none⟩) z).trans q1
      replace q2 := (hb.cell (p := ⟨Z, 2, none⟩) z).trans q2
      replace q3 := (hb.cell (p := ⟨Z, 3, none⟩) z).trans q3
      replace hB := hB.thru hb (Nat.le_of_lt z)
      replace z := Nat.lt_of_lt_of_le z hb.size
      clear hb
      go_wp2_with fail
      refine (HIR'.out _ HF.out.l HF.out.n).mono ?_
      rintro e w30 ⟨rfl, hb⟩
      replace HF := hidE (HF.out.below hb)
      replace q0 := (hb.cell (p := ⟨Z, 0, none⟩) z).trans q0
      replace q1 := (hb.cell (p := ⟨Z, 1, none⟩) z).trans q1
      replace q2 := (hb.cell (p := ⟨Z, 2, none⟩) z).trans q2
      replace q3 := (hb.cell (p := ⟨Z, 3, none⟩) z).trans q3
      replace hB := hB.thru hb (Nat.le_of_lt z)
      replace z := Nat.lt_of_lt_of_le z hb.size
      clear hb
      go_wp2_with fail
      go_ret
      rw [HZ.out]
      exact ⟨ret_bool (by simp), hB⟩
    · have e20 : err2 l m ≠ 0 := by rw [e2]; exact k2
      have ej := joinOf_err e20
      have ec := covOf_err e20
      rw [ej, ec]
      have hk : (chkSeen m == 0) = false := by rw [beq_eq_false_iff_ne]; exact k2
      clear e20 ej ec k2 e2 HE2'
      generalize chkSeen m = u at *
      rw [HR0.out k3]
      have hk3 : (er == 0) = false := by rw [beq_eq_false_iff_ne]; exact k3
      rw [h5] at HCK
      try rw [h5]
      clear k3
      clear HE2 HEN HR0 HR1 HIR HCO HJO HJL HK1 k1 h5 HCM HCN
      go_wp2_with fail
      refine (seenBegun_true _).mono ?_
      rintro e w31 ⟨rfl, hb⟩
      replace HF := hidE (HF.out.below hb)
      replace q0 := (hb.cell (p := ⟨Z, 0, none⟩) z).trans q0
      replace q1 := (hb.cell (p := ⟨Z, 1, none⟩) z).trans q1
      replace q2 := (hb.cell (p := ⟨Z, 2, none⟩) z).trans q2
      replace q3 := (hb.cell (p := ⟨Z, 3, none⟩) z).trans q3
      replace hB := hB.thru hb (Nat.le_of_lt z)
      replace z := Nat.lt_of_lt_of_le z hb.size
      clear hb
      go_wp2_with fail
      refine (HCK.out _ HF.out.l).mono ?_
      rintro e w32 ⟨rfl, hb⟩
      replace HF := hidE (HF.out.below hb)
      replace q0 := (hb.cell (p := ⟨Z, 0, none⟩) z).trans q0
      replace q1 := (hb.cell (p := ⟨Z, 1, none⟩) z).trans q1
      replace q2 := (hb.cell (p := ⟨Z, 2, none⟩) z).trans q2
      replace q3 := (hb.cell (p := ⟨Z, 3, none⟩) z).trans q3
      replace hB := hB.thru hb (Nat.le_of_lt z)
      replace z := Nat.lt_of_lt_of_le z hb.size
      clear hb
      go_wp2_with fail
      refine (sameInts_self pj none cj 0 [] _ (Nat.zero_le _) (Or.inl rfl) (Or.inl rfl)).mono ?_
      rintro e w33 ⟨rfl, hb⟩
      replace HF := hidE (HF.out.below hb)
      replace q0 := (hb.cell (p := ⟨Z, 0, none⟩) z).trans q0
      replace q1 := (hb.cell (p := ⟨Z, 1, none⟩) z).trans q1
      replace q2 := (hb.cell (p := ⟨Z, 2, none⟩) z).trans q2
      replace q3 := (hb.cell (p := ⟨Z, 3, none⟩) z).trans q3
      replace hB := hB.thru hb (Nat.le_of_lt z)
      replace z := Nat.lt_of_lt_of_le z hb.size
      clear hb
      go_wp2_with fail
      go_ret
      rw [HZ.out]
      exact ⟨ret_bool (by simp), hB⟩
end Go.Proofs.Ytlpfnpkmgkbngae
