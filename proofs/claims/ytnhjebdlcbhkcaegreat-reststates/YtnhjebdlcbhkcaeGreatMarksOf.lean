/- Contract of edit.checkPut. -/
import Derived.Test.YtnhjebdlcbhkcaeGreatEditP
import Derived.Test.YtnhjebdlcbhkcaeGreatDoD
import Derived.Test.YtnhjebdlcbhkcaeGreatPutS
import Derived.Test.YtnhjebdlcbhkcaeGreatUsedC
import Derived.Test.YtnhjebdlcbhkcaeGreatPutLe
import Derived.Test.YtnhjebdlcbhkcaeGreatPutA
namespace Go.Proofs.YtnhjebdlcbhkcaeGreat
open Go.RowKit

def putCk (l : List At) (g : List (List (Int × Int) × Int)) (n : Int) (t : ByteArray) (site clock : Int) : Int :=
  if chkS l g ≠ 0 then chkS l g else if inB n 0 l.length = false then 3 else if usedS site clock l g = true then 4 else if 60 < t.size ∨ 300 < l.length + t.size then 2 else if t.size = 0 then 1 else if allS t.data.toList = false then 3 else 0

set_option maxRecDepth 100000 in
set_option maxHeartbeats 4000000 in
theorem editCheckPut_any (a b : Option Addr) (cap cap' : Nat) (l : List At) (g : List (List (Int × Int) × Int)) (n : Int) (t : ByteArray) (site clock : Int) (w : World) (hl : l.length ≤ maxLen) (_ht : t.size ≤ maxLen) (h : AtomsAt w a l) (h' : MarksAt w b g) :
    Calls Tryz.prog 80 #[.agg #[.slice a l.length cap, .slice b g.length cap'], .int .i64 n, .string t, .int .i64 site, .int .i64 clock] w fun e w' => e = .returned (.int .i64 (putCk l g n t site clock)) ∧ Below w.heap.size w w' := by
  have hB := (Below.refl w.heap.size w).alloc (Nat.le_refl _) (Obj.cells #[.slice a l.length cap, .slice b g.length cap'] 25)
  have q0 : (w.alloc (Obj.cells #[.slice a l.length cap, .slice b g.length cap'] 25)).cell? ⟨w.heap.size, 0, none⟩ = some (.slice a l.length cap) := by simp
  have q1 : (w.alloc (Obj.cells #[.slice a l.length cap, .slice b g.length cap'] 25)).cell? ⟨w.heap.size, 1, none⟩ = some (.slice b g.length cap') := by simp
  have z : w.heap.size < (w.alloc (Obj.cells #[.slice a l.length cap, .slice b g.length cap'] 25)).heap.size := by simp
  replace h := h.below hB (Nat.le_refl _)
  replace h' := h'.below hB (Nat.le_refl _)
  go_enter Tryz.func80, Tryz.ntmps80
  go_upto_region 1 with fail
  generalize w.alloc (Obj.cells #[.slice a l.length cap, .slice b g.length cap'] 25) = W at hB q0 q1 z h h' ⊢
  generalize hzz : w.heap.size = Z at hB q0 q1 z ⊢
  have HZ := hidE hzz
  clear hzz
  have HC := hidE (stateCheck_any a b cap cap' l g W hl h h')
  go_wp2_with fail
  refine HC.out.mono ?_
  rintro e w1 ⟨rfl, hb⟩
  replace q0 := (hb.cell (p := ⟨Z, 0, none⟩) z).trans q0
  replace q1 := (hb.cell (p := ⟨Z, 1, none⟩) z).trans q1
  replace h := h.below hb (Nat.le_refl _)
  replace h' := h'.below hb (Nat.le_refl _)
  replace hB := hB.thru hb (Nat.le_of_lt z)
  replace z := Nat.lt_of_lt_of_le z hb.size
  clear HC hb
  by_cases hS : chkS l g = 0
  case neg =>
    have HE : Hid (putCk l g n t site clock = chkS l g) := by show _ = _; unfold putCk; rw [if_pos hS]
    have hcb : (chkS l g != 0) = true := by rw [bne_iff_ne]; exact hS
    generalize chkS l g = er at *
    clear hS
    go_wp2_with fail
    go_ret
    exact ⟨by rw [HE.out]; rfl, by rw [HZ.out]; exact hB⟩
  have ok := okS_of hS
  have hl300 := ok.atoms.len
  have hg600 := ok.len
  have HE : Hid (putCk l g n t site clock = if inB n 0 l.length = false then 3 else if usedS site clock l g = true then 4 else if 60 < t.size ∨ 300 < l.length + t.size then 2 else if t.size = 0 then 1 else if allS t.data.toList = false then 3 else 0) := by show _ = _; unfold putCk; rw [if_neg (by simpa using hS)]
  have HU := hidE (isUsed_any a b cap cap' l g site clock w1 hl (by unfold maxLen; omega) h h' (fun x hx => by obtain ⟨i, hi, rfl⟩ := List.getElem_of_mem hx; exact (okPath ok.atoms i hi).1) (fun x hx => (chk_ok (ok.each x hx)).1))
  have HS := hidE hS
  rw [hS]
  clear h h' ok hS
  generalize chkS l g = er at *
  generalize usedS site clock l g = us at *
  generalize g.length = ng at *
  generalize l.length = nl at *
  cases h1 : inB n 0 nl
  · have HE2 : Hid (putCk l g n t site clock = 3) := by show _ = _; rw [HE.out, if_pos h1]
    have H1 := hidE h1
    clear h1 HE
    go_wp2_with (go_at_call 169; refine (isPlace_any _ _ _).mono ?_; rintro e w' ⟨rfl, hw⟩; replace hw := hw.symm; subst hw; rw [H1.out])
    go_ret
    exact ⟨by rw [HE2.out]; rfl, by rw [HZ.out]; exact hB⟩
  have HE1 : Hid (putCk l g n t site clock = if us = true then 4 else if 60 < t.size ∨ 300 < nl + t.size then 2 else if t.size = 0 then 1 else if allS t.data.toList = false then 3 else 0) := by show _ = _; rw [HE.out, if_neg (by rw [h1]; decide)]
  have H1 := hidE h1
  clear h1 HE
  cases us
  case true =>
    have HE2 : Hid (putCk l g n t site clock = 4) := by show _ = _; rw [HE1.out, if_pos rfl]
    clear HE1
    go_wp2_with (first | (go_at_call 169; refine (isPlace_any _ _ _).mono ?_; rintro e w' ⟨rfl, hw⟩; replace hw := hw.symm; subst hw; rw [H1.out]) | (go_at_call 170; refine HU.out.mono ?_; rintro e w2 ⟨rfl, hb2⟩))
    go_ret
    exact ⟨by rw [HE2.out]; rfl, by rw [HZ.out]; exact hB.trans (hb2.mono (Nat.le_of_lt z))⟩
  have HE2 : Hid (putCk l g n t site clock = if 60 < t.size ∨ 300 < nl + t.size then 2 else if t.size = 0 then 1 else if allS t.data.toList = false then 3 else 0) := by show _ = _; rw [HE1.out, if_neg (by decide)]
  clear HE1
  by_cases h60 : (t.size : Int) > 60
  · have HE3 : Hid (putCk l g n t site clock = 2) := by show _ = _; rw [HE2.out, if_pos (by omega)]
    clear HE2
    go_wp2_with (first | (go_at_call 169; refine (isPlace_any _ _ _).mono ?_; rintro e w' ⟨rfl, hw⟩; replace hw := hw.symm; subst hw; rw [H1.out]) | (go_at_call 170; refine HU.out.mono ?_; rintro e w2 ⟨rfl, hb2⟩))
    go_ret
    exact ⟨by rw [HE3.out]; rfl, by rw [HZ.out]; exact hB.trans (hb2.mono (Nat.le_of_lt z))⟩
  have hw1 : IntKind.i64.wrap ((nl : Int) + t.size) = nl + t.size := by rw [IntKind.wrap_i64] <;> omega
  have HQ : Hid (∀ w2, Below w1.heap.size w1 w2 → w2.cell? ⟨Z, 0, none⟩ = some (.slice a nl cap)) := fun w2 hb2 => (hb2.cell (p := ⟨Z, 0, none⟩) z).trans q0
  by_cases h3 : (nl : Int) + t.size > 300
  · have HE3 : Hid (putCk l g n t site clock = 2) := by show _ = _; rw [HE2.out, if_pos (by omega)]
    clear HE2
    go_wp2_with (first | (go_at_call 169; refine (isPlace_any _ _ _).mono ?_; rintro e w' ⟨rfl, hw⟩; replace hw := hw.symm; subst hw; rw [H1.out]) | (go_at_call 170; refine HU.out.mono ?_; rintro e w2 ⟨rfl, hb2⟩; have r0 := HQ.out _ hb2))
    go_ret
    exact ⟨by rw [HE3.out]; rfl, by rw [HZ.out]; exact hB.trans (hb2.mono (Nat.le_of_lt z))⟩
  have HE3 : Hid (putCk l g n t site clock = if t.size = 0 then 1 else if allS t.data.toList = false then 3 else 0) := by show _ = _; rw [HE2.out, if_neg (by omega)]
  clear HE2
  by_cases h0 : t.size = 0
  · have HE4 : Hid (putCk l g n t site clock = 1) := by show _ = _; rw [HE3.out, if_pos h0]
    have h0b : t.toList.isEmpty = true := by rw [isEmpty_size, h0]; rfl
    have h0c : ((t.size : Int) == 0) = true := by rw [h0]; rfl
    clear HE3
    go_wp2_with (first | (go_at_call 169; refine (isPlace_any _ _ _).mono ?_; rintro e w' ⟨rfl, hw⟩; replace hw := hw.symm; subst hw; rw [H1.out]) | (go_at_call 170; refine HU.out.mono ?_; rintro e w2 ⟨rfl, hb2⟩; have r0 := HQ.out _ hb2))
    go_ret
    exact ⟨by rw [HE4.out]; rfl, by rw [HZ.out]; exact hB.trans (hb2.mono (Nat.le_of_lt z))⟩
  have h0c : ((t.size : Int) == 0) = false := by rw [beq_eq_false_iff_ne]; omega
  cases hs : allS t.data.toList
  all_goals
    have HE4 : Hid (putCk l g n t site clock = if allS t.data.toList = false then 3 else 0) := by show _ = _; rw [HE3.out, if_neg h0]
    rw [hs] at HE4
    have HSG := hidE hs
    clear HE3 h0 hs
    go_wp2_with (first | (go_at_call 169; refine (isPlace_any _ _ _).mono ?_; rintro e w' ⟨rfl, hw⟩; replace hw := hw.symm; subst hw; rw [H1.out]) | (go_at_call 170; refine HU.out.mono ?_; rintro e w2 ⟨rfl, hb2⟩; have r0 := HQ.out _ hb2) | (go_at_call 88; refine (signAll_any t _ (by unfold maxLen; omega)).mono ?_; rintro e w' ⟨rfl, hw⟩; replace hw := hw.symm; subst hw; rw [HSG.out]))
    go_ret
    exact ⟨by rw [HE4.out]; rfl, by rw [HZ.out]; exact hB.trans (hb2.mono (Nat.le_of_lt z))⟩
end Go.Proofs.YtnhjebdlcbhkcaeGreat

namespace Go.Proofs.YtnhjebdlcbhkcaeGreat
open Go.RowKit

structure PutAs (l : List At) (g : List (List (Int × Int) × Int)) (n : Nat) (t : ByteArray) (site clock : Int) (ax : List At) : Prop where
  len : ax.length = t.size
  ok : OkL ax
  clk : ∀ i (h : i < ax.length), ax[i].clock = clock + i
  site' : ∀ i (h : i < ax.length), (lastS ax[i].path).2 = site
  sign : ∀ i (h : i < ax.length), ax[i].sign = (t.data.toList.getD i 0).toNat
  lo : ∀ x ∈ l.take n, ∀ y ∈ ax, ordA x y < 0
  hi : ∀ x ∈ ax, ∀ y ∈ l.drop n, ordA x y < 0
  newG : ∀ x ∈ ax, (x.path, x.clock) ∉ g
  newL : ∀ x ∈ ax, ∀ y ∈ l, (x.path, x.clock) ≠ (y.path, y.clock)

theorem comeL_get (ms : List (List (Int × Int) × Int)) (t : ByteArray) (k i : Nat) (h : i < (comeL ms t k).length) (hm : i < ms.length) : (comeL ms t k)[i] = ⟨ms[i].1, ms[i].2, (t.data.toList.getD i 0).toNat⟩ := by
  simp [comeL, List.getD_eq_getElem?_getD, List.getElem?_eq_getElem hm]

theorem getD_sign {t : ByteArray} (h : allS t.data.toList = true) {i : Nat} (hi : i < t.size) : isSignB (t.data.toList.getD i 0).toNat = true := by
  unfold allS at h
  rw [List.all_eq_true] at h
  rw [List.getD_eq_getElem?_getD, List.getElem?_eq_getElem (by simpa using hi)]
  exact h _ (List.getElem_mem _)

theorem putAs_of {l : List At} {g : List (List (Int × Int) × Int)} {n : Nat} {t : ByteArray} {site clock r : Int} {pl : List (Int × Int)} (hok : OkS l g) (hn : n ≤ l.length) (hu : usedS site clock l g = false) (hsg : allS t.data.toList = true) (h60 : t.size ≤ 60)
   (hb : btwErr (aheadM l n).1 (aheadM l n).2 (behindM l n).1 (behindM l n).2 site clock t.size = 0) (hc : Cand (aheadM l n).1 (behindM l n).1 pl) (h1 : gapLow pl (aheadM l n).1 site ≤ r) (h2 : r + t.size ≤ gapHigh pl (behindM l n).1 site + 1) :
    PutAs l g n t site clock (comeL (rowOf pl r site clock t.size) t t.size) := by
  have B := btw_all hb hc h1 h2
  have hrl := rowOf_length pl r site clock t.size
  have hget : ∀ i (h : i < (comeL (rowOf pl r site clock t.size) t t.size).length) (h2 : i < (rowOf pl r site clock t.size).length), (comeL (rowOf pl r site clock t.size) t t.size)[i] = ⟨(rowOf pl r site clock t.size)[i].1, (rowOf pl r site clock t.size)[i].2, (t.data.toList.getD i 0).toNat⟩ := fun i h h2 => comeL_get _ _ _ _ h h2
  have hlen := comeL_len (rowOf pl r site clock t.size) t t.size
  generalize comeL (rowOf pl r site clock t.size) t t.size = ax at hget hlen ⊢
  have hlt : ∀ i, i < ax.length → i < (rowOf pl r site clock t.size).length := fun i h => by rw [hrl]; omega
  have clk : ∀ i (h : i < ax.length), ax[i].clock = clock + i := fun i h => by rw [hget i h (hlt i h)]; exact (B i (hlt i h)).clk
  have st : ∀ i (h : i < ax.length), (lastS ax[i].path).2 = site := fun i h => by rw [hget i h (hlt i h)]; exact (B i (hlt i h)).site
  have ck : ∀ i (h : i < ax.length), chk ax[i].path ax[i].clock = 0 := fun i h => by rw [hget i h (hlt i h)]; exact (B i (hlt i h)).ok
  have rise1 : ∀ i (h : i + 1 < ax.length), ordA ax[i] ax[i + 1] < 0 := fun i h => by
    have := (B (i + 1) (hlt _ h)).rise (by omega)
    simp only [Nat.add_sub_cancel] at this
    rw [hget (i + 1) h (hlt _ h), hget i (by omega) (hlt i (by omega))]
    show ordM _ _ _ _ < 0
    rw [this]; decide
  have rise : ax.Pairwise (fun x y => ordA x y < 0) := by
    have key : ∀ d i (h : i + d + 1 < ax.length), ordA ax[i] ax[i + d + 1] < 0 := by
      intro d
      induction d with
      | zero => intro i h; exact rise1 i h
      | succ d ih => intro i h; exact ordA_trans (ih i (by omega)) (rise1 (i + d + 1) h)
    rw [List.pairwise_iff_getElem]
    intro i j hi hj hij
    have := key (j - i - 1) i (by omega)
    have e : i + (j - i - 1) + 1 = j := by omega
    simpa only [e] using this
  have ok : OkL ax := by
    refine ⟨by omega, fun x hx => ?_, rise⟩
    obtain ⟨i, hi, rfl⟩ := List.getElem_of_mem hx
    refine ⟨ck i hi, ?_⟩
    rw [hget i hi (hlt i hi)]
    exact getD_sign hsg (by omega)
  have unused : ∀ i (h : i < ax.length), usedM site clock ax[i].path ax[i].clock = true := fun i h => by
    unfold usedM
    rw [st i h, clk i h]
    simp
    omega
  have hu' : l.any (fun x => usedM site clock x.path x.clock) = false ∧ g.any (fun x => usedM site clock x.1 x.2) = false := by
    unfold usedS at hu
    rwa [Bool.or_eq_false_iff] at hu
  refine ⟨hlen, ok, clk, st, fun i h => by rw [hget i h (hlt i h)], ?_, ?_, ?_, ?_⟩
  · intro x hx y hy
    obtain ⟨i, hi, rfl⟩ := List.getElem_of_mem hy
    have h0 : 0 < n := by
      rcases Nat.eq_zero_or_pos n with e | e
      · rw [e] at hx; simp at hx
      · exact e
    have ha : aheadM l n = (l[n - 1].path, l[n - 1].clock) := by unfold aheadM; rw [if_neg (by omega), List.getElem?_eq_getElem (by omega)]
    have hpos := (okPath hok.atoms (n - 1) (by omega)).1
    have h3 := (B i (hlt i hi)).above (by rw [ha]; simp; intro e; rw [e] at hpos; simp at hpos)
    rw [ha] at h3
    have h4 : ordA l[n - 1] ax[i] < 0 := by
      rw [hget i hi (hlt i hi)]; show ordM _ _ _ _ < 0; rw [h3]; decide
    obtain ⟨j, hj, rfl⟩ := List.getElem_of_mem hx
    have hj' : j < n := by simp at hj; omega
    rw [List.getElem_take]
    by_cases e : j = n - 1
    · subst e; exact h4
    · have := List.pairwise_iff_getElem.1 hok.atoms.rise j (n - 1) (by omega) (by omega) (by omega)
      exact ordA_trans this h4
  · intro x hx y hy
    obtain ⟨i, hi, rfl⟩ := List.getElem_of_mem hx
    obtain ⟨j, hj, rfl⟩ := List.getElem_of_mem hy
    have hj' : n + j < l.length := by simp at hj; omega
    have ha : behindM l n = (l[n].path, l[n].clock) := by unfold behindM; rw [List.getElem?_eq_getElem (by omega)]
    have hpos := (okPath hok.atoms n (by omega)).1
    have h3 := (B i (hlt i hi)).below (by rw [ha]; simp; intro e; rw [e] at hpos; simp at hpos)
    rw [ha] at h3
    have h4 : ordA ax[i] l[n] < 0 := by
      rw [hget i hi (hlt i hi)]; show ordM _ _ _ _ < 0; rw [h3]; decide
    rw [List.getElem_drop]
    by_cases e : j = 0
    · subst e; exact h4
    · have := List.pairwise_iff_getElem.1 hok.atoms.rise n (n + j) (by omega) hj' (by omega)
      exact ordA_trans h4 this
  · intro x hx hm
    obtain ⟨i, hi, rfl⟩ := List.getElem_of_mem hx
    have := List.any_eq_false.1 hu'.2 _ hm
    exact this (unused i hi)
  · intro x hx y hy he
    obtain ⟨i, hi, rfl⟩ := List.getElem_of_mem hx
    have h3 := List.any_eq_false.1 hu'.1 _ hy
    have e1 : ax[i].path = y.path := congrArg Prod.fst he
    have e2 : ax[i].clock = y.clock := congrArg Prod.snd he
    have := unused i hi
    rw [e1, e2] at this
    exact h3 this
end Go.Proofs.YtnhjebdlcbhkcaeGreat

namespace Go.Proofs.YtnhjebdlcbhkcaeGreat
open Go.RowKit

def marksD (d : Dd) : List Mk := if d.kind = 1 then nextsL d.rp d.rc d.rt.size else nextsL d.mp d.mc d.many.toNat

set_option maxRecDepth 100000 in
set_option maxHeartbeats 4000000 in
theorem marksOf_put (rp mp : List (Int × Int)) (rc mc many : Int) (rt : ByteArray) (p q : Option Addr) (cp cq : Nat) (w : World) (nn pb po : Nat) (hpq : p = some ⟨pb, po, none⟩) (h : StepsAt w p rp) (hn : nn = rt.size) (h60 : nn ≤ 60) (hc : chk rp rc = 0) :
    Calls Tryz.prog 126 #[.agg #[.int .i64 1, .slice p rp.length cp, .int .i64 rc, .string rt, .slice q mp.length cq, .int .i64 mc, .int .i64 many]] w fun e w' => ∃ v c, e = .returned (.slice v nn c) ∧ MkRow w' w.heap.size (.slice v nn c) (nextsL rp rc nn) ∧ Below w.heap.size w w' := by
  subst hpq
  have hB := (Below.refl w.heap.size w).alloc (Nat.le_refl _) (Obj.cells #[.int .i64 1, .slice (some ⟨pb, po, none⟩) rp.length cp, .int .i64 rc, .string rt, .slice q mp.length cq, .int .i64 mc, .int .i64 many] 64)
  have hcc : ∀ i, i < 7 → (w.alloc (Obj.cells #[.int .i64 1, .slice (some ⟨pb, po, none⟩) rp.length cp, .int .i64 rc, .string rt, .slice q mp.length cq, .int .i64 mc, .int .i64 many] 64)).cell? ⟨w.heap.size, i, none⟩ = #[.int .i64 1, .slice (some ⟨pb, po, none⟩) rp.length cp, .int .i64 rc, .string rt, .slice q mp.length cq, .int .i64 mc, .int .i64 many][i]? := fun i hi => by simp
  have q0 := hcc 0 (by decide)
  have qa := hcc 1 (by decide)
  have qb := hcc 2 (by decide)
  have qn := hcc 3 (by decide)
  simp only [List.getElem?_toArray, List.getElem?_cons_succ, List.getElem?_cons_zero] at q0 qa qb qn
  have z : w.heap.size < (w.alloc (Obj.cells #[.int .i64 1, .slice (some ⟨pb, po, none⟩) rp.length cp, .int .i64 rc, .string rt, .slice q mp.length cq, .int .i64 mc, .int .i64 many] 64)).heap.size := by simp
  clear hcc
  replace h := h.below hB (Nat.le_refl _)
  obtain ⟨i0, hi0, hz0, hz1, hz2⟩ := Tryz.info42
  have hl1 := (chk_ok hc).2.1
  have HC := hidE hc
  clear hc
  subst hn
  go_enter Tryz.func126, Tryz.ntmps126
  go_upto_region 1 with fail
  generalize w.alloc (Obj.cells #[.int .i64 1, .slice (some ⟨pb, po, none⟩) rp.length cp, .int .i64 rc, .string rt, .slice q mp.length cq, .int .i64 mc, .int .i64 many] 64) = W at hB q0 qa qb qn z h ⊢
  generalize hzz : w.heap.size = Z at hB q0 qa qb qn z ⊢
  have HZ := hidE hzz
  clear hzz
  have hZW := Nat.le_of_lt z
  go_wp2_with fail
  go_loopw [3, 4] (fun v3 i wr => ∃ k : Nat, k ≤ rt.size ∧ i = .int .i64 k ∧ MkRow wr W.heap.size v3 (nextsL rp rc k) ∧ Below W.heap.size W wr) (fun _ i _ => rt.size - (intOf i).toNat)
  case atStart => exact ⟨0, Nat.zero_le _, rfl, MkRow.nil _ _, Below.refl _ _⟩
  case round =>
    obtain ⟨k, hk, rfl, hrow, hb⟩ := hrel
    have g0 := (hb.cell (p := ⟨Z, 1, none⟩) z).trans qa
    have g1 := (hb.cell (p := ⟨Z, 2, none⟩) z).trans qb
    have gn := (hb.cell (p := ⟨Z, 3, none⟩) z).trans qn
    by_cases hlt : k < rt.size
    · have hi1 : (k : Int) < rt.size := by omega
      have HNX := hidE (afterOf_any pb po cp rp rc k wr (h.below hb (Nat.le_refl _)) HC.out (by omega) (by omega))
      have HSC := hidE (nextsL_succ rp rc k)
      have HKL := hidE (nextsL_len rp rc k)
      go_wp2_with fail
      refine HNX.out.mono ?_
      rintro e w2 ⟨gg, cap2, rfl, _, hb2, hownM⟩
      clear HNX g0 g1
      have hownA := owns_base hownM hb.size
      have hbX := (Below.refl w2.heap.size w2).alloc (Nat.le_refl _) (Obj.cells #[.slice (some ⟨gg, 0, none⟩) rp.length cap2, .int .i64 (rc + k)] 42)
      have hrowX := (hrow.below hb2).below hbX
      have hownX := owns_below hownA hbX
      have hBX : Below W.heap.size W (w2.alloc (Obj.cells #[.slice (some ⟨gg, 0, none⟩) rp.length cap2, .int .i64 (rc + k)] 42)) := (hb.thru hb2 hb.size).thru hbX (Nat.le_trans hb.size hb2.size)
      have hpk : PickK (w2.alloc (Obj.cells #[.slice (some ⟨gg, 0, none⟩) rp.length cap2, .int .i64 (rc + k)] 42)) W.heap.size ⟨some ⟨gg, 0, none⟩, (bump rp k).length, cap2, rc + k⟩ (bump rp k, rc + k) := by
        refine ⟨gg, cap2, rfl, ?_, by rw [bump_len]; unfold maxLen; omega⟩
        rw [bump_len]; exact hownX
      have hnew : ∀ j u, (flatK [⟨some ⟨gg, 0, none⟩, rp.length, cap2, rc + k⟩])[j]? = some u → (w2.alloc (Obj.cells #[.slice (some ⟨gg, 0, none⟩) rp.length cap2, .int .i64 (rc + k)] 42)).cell? ((⟨w2.heap.size, 0, none⟩ : Addr).add j) = some u := by
        intro j u hj
        rw [Addr.add_lit, Nat.zero_add]
        exact rawK_new w2 ⟨some ⟨gg, 0, none⟩, rp.length, cap2, rc + k⟩ j u (by simpa [flatK] using hj)
      have hbase : W.heap.size ≤ (w2.alloc (Obj.cells #[.slice (some ⟨gg, 0, none⟩) rp.length cap2, .int .i64 (rc + k)] 42)).heap.size := hBX.size
      obtain ⟨rs, hrl, hrown, hrr⟩ := hrowX
      rw [HKL.out] at hrown
      have HRR := hidE hrr
      have HNEW := hidE hnew
      have HRL := hidE hrl
      clear hrr hnew hrl hrow hownA hownM
      go_wp2_with (at_builtin; refine wpList_append_own _ rfl _ _ 23 rfl W.heap.size 42 i0 (.agg #[.slice none 0 0, .int .i64 0]) 2 32 Tryz.underlying23 hi0 hz0 hz1 hz2 rfl (by decide) _ _ _ rfl hrown ⟨w2.heap.size, 0, none⟩ 1 1 (flatK [⟨some ⟨gg, 0, none⟩, rp.length, cap2, rc + k⟩]) rfl rfl HNEW.out (flatK_one _) ?qa4 ?qa5 hbase ?_)
      case qa4 => unfold maxLen; omega
      case qa5 => omega
      intro v' w5 hown5 hgrow _
      have hrow5 : MkRow w5 W.heap.size v' (nextsL rp rc (k + 1)) := by
        rw [HSC.out]
        refine MkRow.snoc HRL.out (by rw [HKL.out]; exact hrown) HRR.out hpk hgrow ?_
        rw [HKL.out, bump_len]
        simpa [flatK] using hown5
      have hb5 := hBX.grown hgrow hbase (fun j hj => (hrown.lt j hj).1)
      go_wp2_with fail
      go_roundw
      case rel => exact ⟨k + 1, by omega, by go_num, hrow5, hb5⟩
      case measure => simp [intOf]; omega
    · have hke : rt.size = k := by omega
      subst hke
      obtain ⟨pn, cn, hvn, _, _, _⟩ := hrow.marks
      subst hvn
      have HKL := hidE (nextsL_len rp rc rt.size)
      have HROW := hidE hrow
      clear hrow
      go_wp2_with fail
      go_ret
      rw [HZ.out]
      refine ⟨pn, cn, ?_, ?_, hB.thru hb hZW⟩
      · rw [HKL.out]; rfl
      · have := HROW.out.mono hZW
        rw [HKL.out] at this
        exact this

set_option maxRecDepth 100000 in
set_option maxHeartbeats 4000000 in
theorem marksOf_take (rp mp : List (Int × Int)) (rc mc many : Int) (rt : ByteArray) (p q : Option Addr) (cp cq : Nat) (w : World) (nn pb po : Nat) (hpq : q = some ⟨pb, po, none⟩) (h : StepsAt w q mp) (hn : many = nn) (h60 : nn ≤ 60) (hc : chk mp mc = 0) :
    Calls Tryz.prog 126 #[.agg #[.int .i64 2, .slice p rp.length cp, .int .i64 rc, .string rt, .slice q mp.length cq, .int .i64 mc, .int .i64 many]] w fun e w' => ∃ v c, e = .returned (.slice v nn c) ∧ MkRow w' w.heap.size (.slice v nn c) (nextsL mp mc nn) ∧ Below w.heap.size w w' := by
  subst hpq
  have hB := (Below.refl w.heap.size w).alloc (Nat.le_refl _) (Obj.cells #[.int .i64 2, .slice p rp.length cp, .int .i64 rc, .string rt, .slice (some ⟨pb, po, none⟩) mp.length cq, .int .i64 mc, .int .i64 many] 64)
  have hcc : ∀ i, i < 7 → (w.alloc (Obj.cells #[.int .i64 2, .slice p rp.length cp, .int .i64 rc, .string rt, .slice (some ⟨pb, po, none⟩) mp.length cq, .int .i64 mc, .int .i64 many] 64)).cell? ⟨w.heap.size, i, none⟩ = #[.int .i64 2, .slice p rp.length cp, .int .i64 rc, .string rt, .slice (some ⟨pb, po, none⟩) mp.length cq, .int .i64 mc, .int .i64 many][i]? := fun i hi => by simp
  have q0 := hcc 0 (by decide)
  have qa := hcc 4 (by decide)
  have qb := hcc 5 (by decide)
  have qn := hcc 6 (by decide)
  simp only [List.getElem?_toArray, List.getElem?_cons_succ, List.getElem?_cons_zero] at q0 qa qb qn
  have z : w.heap.size < (w.alloc (Obj.cells #[.int .i64 2, .slice p rp.length cp, .int .i64 rc, .string rt, .slice (some ⟨pb, po, none⟩) mp.length cq, .int .i64 mc, .int .i64 many] 64)).heap.size := by simp
  clear hcc
  replace h := h.below hB (Nat.le_refl _)
  obtain ⟨i0, hi0, hz0, hz1, hz2⟩ := Tryz.info42
  have hl1 := (chk_ok hc).2.1
  have HC := hidE hc
  clear hc
  subst hn
  go_enter Tryz.func126, Tryz.ntmps126
  go_upto_region 1 with fail
  generalize w.alloc (Obj.cells #[.int .i64 2, .slice p rp.length cp, .int .i64 rc, .string rt, .slice (some ⟨pb, po, none⟩) mp.length cq, .int .i64 mc, .int .i64 nn] 64) = W at hB q0 qa qb qn z h ⊢
  generalize hzz : w.heap.size = Z at hB q0 qa qb qn z ⊢
  have HZ := hidE hzz
  clear hzz
  have hZW := Nat.le_of_lt z
  go_wp2_with fail
  go_loopw [3, 5] (fun v3 i wr => ∃ k : Nat, k ≤ nn ∧ i = .int .i64 k ∧ MkRow wr W.heap.size v3 (nextsL mp mc k) ∧ Below W.heap.size W wr) (fun _ i _ => nn - (intOf i).toNat)
  case atStart => exact ⟨0, Nat.zero_le _, rfl, MkRow.nil _ _, Below.refl _ _⟩
  case round =>
    obtain ⟨k, hk, rfl, hrow, hb⟩ := hrel
    have g0 := (hb.cell (p := ⟨Z, 4, none⟩) z).trans qa
    have g1 := (hb.cell (p := ⟨Z, 5, none⟩) z).trans qb
    have gn := (hb.cell (p := ⟨Z, 6, none⟩) z).trans qn
    by_cases hlt : k < nn
    · have hi1 : (k : Int) < nn := by omega
      have HNX := hidE (afterOf_any pb po cq mp mc k wr (h.below hb (Nat.le_refl _)) HC.out (by omega) (by omega))
      have HSC := hidE (nextsL_succ mp mc k)
      have HKL := hidE (nextsL_len mp mc k)
      go_wp2_with fail
      refine HNX.out.mono ?_
      rintro e w2 ⟨gg, cap2, rfl, _, hb2, hownM⟩
      clear HNX g0 g1
      have hownA := owns_base hownM hb.size
      have hbX := (Below.refl w2.heap.size w2).alloc (Nat.le_refl _) (Obj.cells #[.slice (some ⟨gg, 0, none⟩) mp.length cap2, .int .i64 (mc + k)] 42)
      have hrowX := (hrow.below hb2).below hbX
      have hownX := owns_below hownA hbX
      have hBX : Below W.heap.size W (w2.alloc (Obj.cells #[.slice (some ⟨gg, 0, none⟩) mp.length cap2, .int .i64 (mc + k)] 42)) := (hb.thru hb2 hb.size).thru hbX (Nat.le_trans hb.size hb2.size)
      have hpk : PickK (w2.alloc (Obj.cells #[.slice (some ⟨gg, 0, none⟩) mp.length cap2, .int .i64 (mc + k)] 42)) W.heap.size ⟨some ⟨gg, 0, none⟩, (bump mp k).length, cap2, mc + k⟩ (bump mp k, mc + k) := by
        refine ⟨gg, cap2, rfl, ?_, by rw [bump_len]; unfold maxLen; omega⟩
        rw [bump_len]; exact hownX
      have hnew : ∀ j u, (flatK [⟨some ⟨gg, 0, none⟩, mp.length, cap2, mc + k⟩])[j]? = some u → (w2.alloc (Obj.cells #[.slice (some ⟨gg, 0, none⟩) mp.length cap2, .int .i64 (mc + k)] 42)).cell? ((⟨w2.heap.size, 0, none⟩ : Addr).add j) = some u := by
        intro j u hj
        rw [Addr.add_lit, Nat.zero_add]
        exact rawK_new w2 ⟨some ⟨gg, 0, none⟩, mp.length, cap2, mc + k⟩ j u (by simpa [flatK] using hj)
      have hbase : W.heap.size ≤ (w2.alloc (Obj.cells #[.slice (some ⟨gg, 0, none⟩) mp.length cap2, .int .i64 (mc + k)] 42)).heap.size := hBX.size
      obtain ⟨rs, hrl, hrown, hrr⟩ := hrowX
      rw [HKL.out] at hrown
      have HRR := hidE hrr
      have HNEW := hidE hnew
      have HRL := hidE hrl
      clear hrr hnew hrl hrow hownA hownM
      go_wp2_with (at_builtin; refine wpList_append_own _ rfl _ _ 23 rfl W.heap.size 42 i0 (.agg #[.slice none 0 0, .int .i64 0]) 2 32 Tryz.underlying23 hi0 hz0 hz1 hz2 rfl (by decide) _ _ _ rfl hrown ⟨w2.heap.size, 0, none⟩ 1 1 (flatK [⟨some ⟨gg, 0, none⟩, mp.length, cap2, mc + k⟩]) rfl rfl HNEW.out (flatK_one _) ?qa4 ?qa5 hbase ?_)
      case qa4 => unfold maxLen; omega
      case qa5 => omega
      intro v' w5 hown5 hgrow _
      have hrow5 : MkRow w5 W.heap.size v' (nextsL mp mc (k + 1)) := by
        rw [HSC.out]
        refine MkRow.snoc HRL.out (by rw [HKL.out]; exact hrown) HRR.out hpk hgrow ?_
        rw [HKL.out, bump_len]
        simpa [flatK] using hown5
      have hb5 := hBX.grown hgrow hbase (fun j hj => (hrown.lt j hj).1)
      go_wp2_with fail
      go_roundw
      case rel => exact ⟨k + 1, by omega, by go_num, hrow5, hb5⟩
      case measure => simp [intOf]; omega
    · have hke : nn = k := by omega
      subst hke
      obtain ⟨pn, cn, hvn, _, _, _⟩ := hrow.marks
      subst hvn
      have HKL := hidE (nextsL_len mp mc nn)
      have HROW := hidE hrow
      clear hrow
      go_wp2_with fail
      go_ret
      rw [HZ.out]
      refine ⟨pn, cn, ?_, ?_, hB.thru hb hZW⟩
      · rw [HKL.out]; rfl
      · have := HROW.out.mono hZW
        rw [HKL.out] at this
        exact this

theorem marksOf_ok (d : Dd) (p q : Option Addr) (cp cq : Nat) (w : World) (h : DdAt w d p q) (hc : chkD d = 0) :
    Calls Tryz.prog 126 #[ddV d p q cp cq] w fun e w' => ∃ v c, e = .returned (.slice v (marksD d).length c) ∧ MkRow w' w.heap.size (.slice v (marksD d).length c) (marksD d) ∧ Below w.heap.size w w' := by
  rcases kind_of hc with hk | hk
  · have ok := okRun_of (okPut_of hk hc)
    have hm : marksD d = nextsL d.rp d.rc d.rt.size := by unfold marksD; rw [if_pos hk]
    have hpos := (chk_ok ok.mark).1
    rw [hm, nextsL_len]
    unfold ddV
    rw [hk]
    rcases h.run with hs | ⟨pb, po, hp, hr⟩
    · rw [hs] at hpos; simp at hpos
    · exact marksOf_put d.rp d.mp d.rc d.mc d.many d.rt p q cp cq w d.rt.size pb po hp h.run rfl ok.len ok.mark
  · obtain ⟨h0, h1, h60, hn⟩ := okTake_of hk hc
    have hm : marksD d = nextsL d.mp d.mc d.many.toNat := by unfold marksD; rw [if_neg (by omega)]
    have hpos := (chk_ok h0).1
    rw [hm, nextsL_len]
    unfold ddV
    rw [hk]
    rcases h.mark with hs | ⟨pb, po, hp, hr⟩
    · rw [hs] at hpos; simp at hpos
    · exact marksOf_take d.rp d.mp d.rc d.mc d.many d.rt p q cp cq w d.many.toNat pb po hp h.mark (by omega) (by omega) h0
end Go.Proofs.YtnhjebdlcbhkcaeGreat
