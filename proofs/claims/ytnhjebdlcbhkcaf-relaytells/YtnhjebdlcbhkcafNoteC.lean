/- Contract of wire.Check. -/
import Derived.Test.YtnhjebdlcbhkcafIntsC
import Derived.Lib.QuietBelow
namespace Go.Proofs.Ytnhjebdlcbhkcaf
open Go.RowKit

/-- a note -/
structure Nt where
  site : Int
  number : Int
  needs : List Int
  deeds : List Dd

/-- a note's value -/
def ntV (n : Nt) (p q : Option Addr) (cp cq : Nat) : Value := .agg #[.int .i64 n.site, .int .i64 n.number, .slice p n.needs.length cp, .slice q n.deeds.length cq]
/-- its lists lie where it says -/
structure NtAt (w : World) (n : Nt) (p q : Option Addr) : Prop where
  needs : IntsAt w p n.needs
  deeds : DeedsAt w q n.deeds
  nl : n.needs.length ≤ maxLen
  dl : n.deeds.length ≤ maxLen
theorem NtAt.below {w w' : World} {n : Nt} {p q : Option Addr} (h : NtAt w n p q) (hb : Below w.heap.size w w') : NtAt w' n p q := ⟨h.needs.below hb, h.deeds.below hb, h.nl, h.dl⟩

/-- what Check of a row of deeds answers -/
def chkDl : List Dd → Int
  | [] => 0
  | d :: ds => if chkD d ≠ 0 then chkD d else chkDl ds
theorem chkDl_drop {ds : List Dd} {k : Nat} (h : k < ds.length) : chkDl (ds.drop k) = if chkD ds[k] ≠ 0 then chkD ds[k] else chkDl (ds.drop (k + 1)) := by
  rw [List.drop_eq_getElem_cons h]; rfl

/-- the need of a site -/
def needOf (n : Nt) (k : Int) : Int := n.needs.getD k.toNat 0
def siteBad (n : Nt) : Bool := decide (n.site < 0) || decide (5 ≤ n.site) || decide (n.number < 1) || decide (500 < n.number)
/-- what Check of a note answers -/
def chkN (n : Nt) : Int :=
  if siteBad n = true then 3 else if n.needs.length ≠ 5 then 1 else if okNums n.needs = false then 3 else if needOf n n.site ≠ n.number - 1 then 4 else if n.deeds.length = 0 then 1 else if 20 < n.deeds.length then 2 else chkDl n.deeds

set_option maxRecDepth 100000 in
set_option maxHeartbeats 4000000 in
theorem wireCheck_any (n : Nt) (p q : Option Addr) (cp cq : Nat) (w : World) (h : NtAt w n p q) :
    Calls Try.prog 14 #[ntV n p q cp cq] w fun e w' => e = .returned (.int .i64 (chkN n)) ∧ Below w.heap.size w w' := by
  obtain ⟨site, number, needs, deeds⟩ := n
  obtain ⟨h1, h2, h3, h4⟩ := h
  unfold ntV
  simp only at h1 h2 h3 h4 ⊢
  have hB := (Below.refl w.heap.size w).alloc (Nat.le_refl _) (Obj.cells #[.int .i64 site, .int .i64 number, .slice p needs.length cp, .slice q deeds.length cq] 28)
  have q0 : (w.alloc (Obj.cells #[.int .i64 site, .int .i64 number, .slice p needs.length cp, .slice q deeds.length cq] 28)).cell? ⟨w.heap.size, 0, none⟩ = some (.int .i64 site) := by simp
  have q1 : (w.alloc (Obj.cells #[.int .i64 site, .int .i64 number, .slice p needs.length cp, .slice q deeds.length cq] 28)).cell? ⟨w.heap.size, 1, none⟩ = some (.int .i64 number) := by simp
  have q2 : (w.alloc (Obj.cells #[.int .i64 site, .int .i64 number, .slice p needs.length cp, .slice q deeds.length cq] 28)).cell? ⟨w.heap.size, 2, none⟩ = some (.slice p needs.length cp) := by simp
  have q3 : (w.alloc (Obj.cells #[.int .i64 site, .int .i64 number, .slice p needs.length cp, .slice q deeds.length cq] 28)).cell? ⟨w.heap.size, 3, none⟩ = some (.slice q deeds.length cq) := by simp
  have z : w.heap.size < (w.alloc (Obj.cells #[.int .i64 site, .int .i64 number, .slice p needs.length cp, .slice q deeds.length cq] 28)).heap.size := by simp
  replace h1 := h1.below hB
  replace h2 := h2.below hB
  go_enter Try.func14, Try.ntmps14
  go_upto_region 2 with fail
  generalize w.alloc (Obj.cells #[.int .i64 site, .int .i64 number, .slice p needs.length cp, .slice q deeds.length cq] 28) = W at hB q0 q1 q2 q3 z h1 h2 ⊢
  generalize hzz : w.heap.size = Z at hB q0 q1 q2 q3 z ⊢
  have HZ := hidE hzz
  clear hzz
  by_cases hs : siteBad ⟨site, number, needs, deeds⟩ = true
  · have HF : Hid (chkN ⟨site, number, needs, deeds⟩ = 3) := by show _ = _; unfold chkN; rw [if_pos hs]
    unfold siteBad at hs
    simp only [Bool.or_eq_true, decide_eq_true_eq] at hs
    by_cases s1 : site < 0
    · clear hs
      go_wp2_with fail
      go_ret
      rw [HZ.out]
      exact ⟨ret_int HF.out.symm, hB⟩
    · by_cases s2 : site ≥ 5
      · clear hs
        go_wp2_with fail
        go_ret
        rw [HZ.out]
        exact ⟨ret_int HF.out.symm, hB⟩
      · by_cases s3 : number < 1
        · clear hs
          go_wp2_with fail
          go_ret
          rw [HZ.out]
          exact ⟨ret_int HF.out.symm, hB⟩
        · have s4 : number > 500 := by omega
          clear hs
          go_wp2_with fail
          go_ret
          rw [HZ.out]
          exact ⟨ret_int HF.out.symm, hB⟩
  have HC1 : Hid (chkN ⟨site, number, needs, deeds⟩ = if needs.length ≠ 5 then 1 else if okNums needs = false then 3 else if needOf ⟨site, number, needs, deeds⟩ site ≠ number - 1 then 4 else if deeds.length = 0 then 1 else if 20 < deeds.length then 2 else chkDl deeds) := by show _ = _; unfold chkN; rw [if_neg hs]
  unfold siteBad at hs
  simp only [Bool.or_eq_true, decide_eq_true_eq] at hs
  have s1 : ¬ site < 0 := fun e => hs (Or.inl (Or.inl (Or.inl e)))
  have s2 : ¬ site ≥ 5 := fun e => hs (Or.inl (Or.inl (Or.inr e)))
  have s3 : ¬ number < 1 := fun e => hs (Or.inl (Or.inr e))
  have s4 : ¬ number > 500 := fun e => hs (Or.inr e)
  clear hs
  by_cases hn5 : needs.length = 5
  case neg =>
    have HF : Hid (chkN ⟨site, number, needs, deeds⟩ = 1) := by show _ = _; rw [HC1.out, if_pos hn5]
    have hd : ((needs.length : Int) != 5) = true := by rw [bne_iff_ne]; omega
    clear HC1 hn5
    go_wp2_with fail
    go_ret
    rw [HZ.out]
    exact ⟨ret_int HF.out.symm, hB⟩
  have HC2 : Hid (chkN ⟨site, number, needs, deeds⟩ = if okNums needs = false then 3 else if needOf ⟨site, number, needs, deeds⟩ site ≠ number - 1 then 4 else if deeds.length = 0 then 1 else if 20 < deeds.length then 2 else chkDl deeds) := by show _ = _; rw [HC1.out, if_neg (by simpa using hn5)]
  have HCF := hidE (containsFuncW_any p cp needs W h3 h1)
  rw [hn5] at q2 HCF
  clear HC1
  go_wp2_with fail
  refine HCF.out.mono ?_
  rintro e w1 ⟨rfl, hb⟩
  clear HCF
  replace q0 := (hb.cell (p := ⟨Z, 0, none⟩) z).trans q0
  replace q1 := (hb.cell (p := ⟨Z, 1, none⟩) z).trans q1
  replace q2 := (hb.cell (p := ⟨Z, 2, none⟩) z).trans q2
  replace q3 := (hb.cell (p := ⟨Z, 3, none⟩) z).trans q3
  replace h1 := h1.below hb
  replace h2 := h2.below hb
  replace hB := hB.thru hb (Nat.le_of_lt z)
  replace z := Nat.lt_of_lt_of_le z hb.size
  clear hb
  cases ho : okNums needs
  · have HF : Hid (chkN ⟨site, number, needs, deeds⟩ = 3) := by show _ = _; rw [HC2.out, if_pos ho]
    clear HC2 ho
    go_wp2_with fail
    go_ret
    rw [HZ.out]
    exact ⟨ret_int HF.out.symm, hB⟩
  have HC3 : Hid (chkN ⟨site, number, needs, deeds⟩ = if needOf ⟨site, number, needs, deeds⟩ site ≠ number - 1 then 4 else if deeds.length = 0 then 1 else if 20 < deeds.length then 2 else chkDl deeds) := by show _ = _; rw [HC2.out, if_neg (by rw [ho]; decide)]
  clear HC2 ho
  obtain ⟨s, rfl⟩ : ∃ s : Nat, site = s := ⟨site.toNat, by omega⟩
  have hs5 : s < 5 := by omega
  rcases h1 with e | ⟨b, o, rfl, hbl, hc⟩
  · rw [e] at hn5; simp at hn5
  have HND : Hid (needOf ⟨s, number, needs, deeds⟩ s = needs[s]) := by
    show _ = _
    unfold needOf
    simp [List.getD, List.getElem?_eq_getElem (show s < needs.length by omega)]
  have c0 := hc s (by omega)
  clear hc
  have HB1 := hidE (fun d os => (h2.below (below_regrown w1 d os)))
  generalize needs[s] = x at c0 HND
  have k0 := cell_regrown q0
  have k1 := cell_regrown q1
  have k2 := cell_regrown q2
  have k3 := cell_regrown q3
  have k4 := cell_regrown c0
  have hsi : (s : Int) < 5 := by omega
  have hw1 : IntKind.i64.wrap (number - 1) = number - 1 := by rw [IntKind.wrap_i64] <;> omega
  go_upto_region 8 with fail
  refine wp_region_quiet_below (by kernel_rfl) (by kernel_rfl) ?_
  repeat (first | go_big_quiet_step (fail) | quiet_step (fail))
  refine wpQuiet_nil ?_
  intro _ hw'
  obtain ⟨⟨dq, osq⟩, hw''⟩ := hw'
  subst hw''
  have hb := below_regrown w1 dq osq
  dsimp only
  generalize «Sort».grow (redrawn w1 dq) osq = w2 at hb ⊢
  replace q3 := (hb.cell (p := ⟨Z, 3, none⟩) z).trans q3
  replace h2 := h2.below hb
  replace hB := hB.thru hb (Nat.le_of_lt z)
  replace z := Nat.lt_of_lt_of_le z hb.size
  clear hb k0 k1 k2 k3 k4 HB1 q0 q1 q2 c0 hbl
  cases hx : (x != number - 1)
  case true =>
    have HF : Hid (chkN ⟨s, number, needs, deeds⟩ = 4) := by show _ = _; rw [HC3.out, HND.out, if_pos (by rwa [bne_iff_ne] at hx)]
    clear HC3 HND hx
    go_wp2_with fail
    go_ret
    rw [HZ.out]
    exact ⟨ret_int HF.out.symm, hB⟩
  have HC4 : Hid (chkN ⟨s, number, needs, deeds⟩ = if deeds.length = 0 then 1 else if 20 < deeds.length then 2 else chkDl deeds) := by show _ = _; rw [HC3.out, HND.out, if_neg (fun e => by rw [← bne_iff_ne, hx] at e; cases e)]
  clear HC3 HND hx
  by_cases hd0 : deeds.length = 0
  · have HF : Hid (chkN ⟨s, number, needs, deeds⟩ = 1) := by show _ = _; rw [HC4.out, if_pos hd0]
    rw [hd0] at q3
    clear HC4 hd0
    go_wp2_with fail
    go_ret
    rw [HZ.out]
    exact ⟨ret_int HF.out.symm, hB⟩
  have HC5 : Hid (chkN ⟨s, number, needs, deeds⟩ = if 20 < deeds.length then 2 else chkDl deeds) := by show _ = _; rw [HC4.out, if_neg hd0]
  have hdb : ((deeds.length : Int) == 0) = false := by simpa using hd0
  clear HC4
  by_cases hd20 : (deeds.length : Int) > 20
  · have HF : Hid (chkN ⟨s, number, needs, deeds⟩ = 2) := by show _ = _; rw [HC5.out, if_pos (by omega)]
    clear HC5
    go_wp2_with fail
    go_ret
    rw [HZ.out]
    exact ⟨ret_int HF.out.symm, hB⟩
  have HC6 : Hid (chkN ⟨s, number, needs, deeds⟩ = chkDl deeds) := by show _ = _; rw [HC5.out, if_neg (by omega)]
  clear HC5
  go_wp2_with fail
  go_loopw [60] (fun i wr => ∃ k : Nat, k ≤ deeds.length ∧ i = .int .i64 k ∧ chkDl (deeds.drop k) = chkDl deeds ∧ Below w2.heap.size w2 wr) (fun i _ => deeds.length - (intOf i).toNat)
  case atStart => exact ⟨0, Nat.zero_le _, rfl, rfl, Below.refl _ _⟩
  case round =>
    obtain ⟨k, hk, rfl, hck, hb⟩ := hrel
    have HK := hidE hck
    clear hck
    by_cases hlt : k < deeds.length
    · rcases h2.below hb with e | ⟨ab, ao, rfl, hab, hc⟩
      · simp [e] at hlt
      have HCD := hidE (chkDl_drop hlt)
      obtain ⟨pp, cp', qq, cq', c0, c1, c2, c3, c4, c5, c6, hDd, hm1, hm2⟩ := hc k hlt
      have hi1 : (k : Int) < deeds.length := by omega
      generalize deeds[k] = dd at *
      clear hc h2
      go_upto_region 17 with fail
      have hbA : Below wr.heap.size wr (wr.alloc (Obj.cells #[.int .i64 dd.kind, .slice pp dd.rp.length cp', .int .i64 dd.rc, .string dd.rt, .slice qq dd.mp.length cq', .int .i64 dd.mc, .int .i64 dd.many] 54)) := (Below.refl _ _).alloc (Nat.le_refl _) _
      have d0 : (wr.alloc (Obj.cells #[.int .i64 dd.kind, .slice pp dd.rp.length cp', .int .i64 dd.rc, .string dd.rt, .slice qq dd.mp.length cq', .int .i64 dd.mc, .int .i64 dd.many] 54)).cell? ⟨wr.heap.size, 0, none⟩ = some (.int .i64 dd.kind) := by simp
      have d1 : (wr.alloc (Obj.cells #[.int .i64 dd.kind, .slice pp dd.rp.length cp', .int .i64 dd.rc, .string dd.rt, .slice qq dd.mp.length cq', .int .i64 dd.mc, .int .i64 dd.many] 54)).cell? ⟨wr.heap.size, 1, none⟩ = some (.slice pp dd.rp.length cp') := by simp
      have d2 : (wr.alloc (Obj.cells #[.int .i64 dd.kind, .slice pp dd.rp.length cp', .int .i64 dd.rc, .string dd.rt, .slice qq dd.mp.length cq', .int .i64 dd.mc, .int .i64 dd.many] 54)).cell? ⟨wr.heap.size, 2, none⟩ = some (.int .i64 dd.rc) := by simp
      have d3 : (wr.alloc (Obj.cells #[.int .i64 dd.kind, .slice pp dd.rp.length cp', .int .i64 dd.rc, .string dd.rt, .slice qq dd.mp.length cq', .int .i64 dd.mc, .int .i64 dd.many] 54)).cell? ⟨wr.heap.size, 3, none⟩ = some (.string dd.rt) := by simp
      have d4 : (wr.alloc (Obj.cells #[.int .i64 dd.kind, .slice pp dd.rp.length cp', .int .i64 dd.rc, .string dd.rt, .slice qq dd.mp.length cq', .int .i64 dd.mc, .int .i64 dd.many] 54)).cell? ⟨wr.heap.size, 4, none⟩ = some (.slice qq dd.mp.length cq') := by simp
      have d5 : (wr.alloc (Obj.cells #[.int .i64 dd.kind, .slice pp dd.rp.length cp', .int .i64 dd.rc, .string dd.rt, .slice qq dd.mp.length cq', .int .i64 dd.mc, .int .i64 dd.many] 54)).cell? ⟨wr.heap.size, 5, none⟩ = some (.int .i64 dd.mc) := by simp
      have d6 : (wr.alloc (Obj.cells #[.int .i64 dd.kind, .slice pp dd.rp.length cp', .int .i64 dd.rc, .string dd.rt, .slice qq dd.mp.length cq', .int .i64 dd.mc, .int .i64 dd.many] 54)).cell? ⟨wr.heap.size, 6, none⟩ = some (.int .i64 dd.many) := by simp
      generalize (wr.alloc (Obj.cells #[.int .i64 dd.kind, .slice pp dd.rp.length cp', .int .i64 dd.rc, .string dd.rt, .slice qq dd.mp.length cq', .int .i64 dd.mc, .int .i64 dd.many] 54)) = w3 at hbA d0 d1 d2 d3 d4 d5 d6 ⊢
      have HDD := hidE (deed_any dd pp qq cp' cq' w3 (hDd.below hbA) hm1 hm2)
      unfold ddV at HDD
      go_wp2_with fail
      refine HDD.out.mono ?_
      rintro e w4 ⟨rfl, hb4⟩
      replace hb4 := hb.thru (hbA.thru hb4 hbA.size) hb.size
      clear HDD d0 d1 d2 d3 d4 d5 d6 hbA
      by_cases hcd : chkD dd = 0
      · have HN : Hid (chkDl (deeds.drop (k + 1)) = chkDl deeds) := by show _ = _; rw [← HK.out, HCD.out, if_neg (by simpa using hcd)]
        rw [hcd]
        clear hcd HCD
        go_wp2_with fail
        go_roundw
        case rel => exact ⟨k + 1, by omega, by go_num, HN.out, hb4⟩
        case measure => simp [intOf]; omega
      · have HF : Hid (chkN ⟨s, number, needs, deeds⟩ = chkD dd) := by show _ = _; rw [HC6.out, ← HK.out, HCD.out, if_pos hcd]
        have hcb : (chkD dd != 0) = true := by rw [bne_iff_ne]; exact hcd
        clear hcd HCD
        go_wp2_with fail
        go_ret
        rw [HZ.out]
        exact ⟨ret_int HF.out.symm, hB.thru hb4 (Nat.le_of_lt z)⟩
    · have HF : Hid (chkN ⟨s, number, needs, deeds⟩ = 0) := by show _ = _; rw [HC6.out, ← HK.out, List.drop_eq_nil_of_le (by omega)]; rfl
      go_wp2_with fail
      go_ret
      rw [HZ.out]
      exact ⟨ret_int HF.out.symm, hB.thru hb (Nat.le_of_lt z)⟩
end Go.Proofs.Ytnhjebdlcbhkcaf
