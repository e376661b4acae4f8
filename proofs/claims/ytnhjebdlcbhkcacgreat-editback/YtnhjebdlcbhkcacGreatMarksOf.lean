/- Contract of the reference's MarksOf. -/
import Derived.Test.YtnhjebdlcbhkcacGreatDoD
import Derived.Test.YtnhjebdlcbhkcacGreatNextOf
namespace Go.Proofs.YtnhjebdlcbhkcacGreat
open Go.RowKit

/-- the marks of a deed -/
def marksD (d : Dd) : List Mk := if d.kind = 1 then nextsL d.rp d.rc d.rt.size else nextsL d.mp d.mc d.many.toNat

set_option maxRecDepth 100000 in
set_option maxHeartbeats 4000000 in
theorem marksOf_put (rp mp : List (Int × Int)) (rc mc many : Int) (rt : ByteArray) (p q : Option Addr) (cp cq : Nat) (w : World) (nn pb po : Nat) (hpq : p = some ⟨pb, po, none⟩) (h : StepsAt w p rp) (hn : nn = rt.size) (h60 : nn ≤ 60) (hc : chk rp rc = 0) :
    Calls Tryz.prog 26 #[.agg #[.int .i64 1, .slice p rp.length cp, .int .i64 rc, .string rt, .slice q mp.length cq, .int .i64 mc, .int .i64 many]] w fun e w' => ∃ v c, e = .returned (.slice v nn c) ∧ MkRow w' w.heap.size (.slice v nn c) (nextsL rp rc nn) ∧ Below w.heap.size w w' := by
  subst hpq
  have hB := (Below.refl w.heap.size w).alloc (Nat.le_refl _) (Obj.cells #[.int .i64 1, .slice (some ⟨pb, po, none⟩) rp.length cp, .int .i64 rc, .string rt, .slice q mp.length cq, .int .i64 mc, .int .i64 many] 50)
  have hcc : ∀ i, i < 7 → (w.alloc (Obj.cells #[.int .i64 1, .slice (some ⟨pb, po, none⟩) rp.length cp, .int .i64 rc, .string rt, .slice q mp.length cq, .int .i64 mc, .int .i64 many] 50)).cell? ⟨w.heap.size, i, none⟩ = #[.int .i64 1, .slice (some ⟨pb, po, none⟩) rp.length cp, .int .i64 rc, .string rt, .slice q mp.length cq, .int .i64 mc, .int .i64 many][i]? := fun i hi => by simp
  have q0 := hcc 0 (by decide)
  have qa := hcc 1 (by decide)
  have qb := hcc 2 (by decide)
  have qn := hcc 3 (by decide)
  simp only [List.getElem?_toArray, List.getElem?_cons_succ, List.getElem?_cons_zero] at q0 qa qb qn
  have z : w.heap.size < (w.alloc (Obj.cells #[.int .i64 1, .slice (some ⟨pb, po, none⟩) rp.length cp, .int .i64 rc, .string rt, .slice q mp.length cq, .int .i64 mc, .int .i64 many] 50)).heap.size := by simp
  clear hcc
  replace h := h.below hB (Nat.le_refl _)
  obtain ⟨i0, hi0, hz0, hz1, hz2⟩ := Tryz.info46
  have hl1 := (chk_ok hc).2.1
  have HC := hidE hc
  clear hc
  subst hn
  go_enter Tryz.func26, Tryz.ntmps26
  go_upto_region 1 with fail
  generalize w.alloc (Obj.cells #[.int .i64 1, .slice (some ⟨pb, po, none⟩) rp.length cp, .int .i64 rc, .string rt, .slice q mp.length cq, .int .i64 mc, .int .i64 many] 50) = W at hB q0 qa qb qn z h ⊢
  generalize hzz : w.heap.size = Z at hB q0 qa qb qn z ⊢
  have HZ := hidE hzz
  clear hzz
  have hZW := Nat.le_of_lt z
  go_wp2_with fail
  go_loopw [3, 4] (fun v3 i wr => ∃ k : Nat, k ≤ rt.size ∧ i = .int .i64 k ∧ MkRow wr W.heap.size v3 (nextsL rp rc k) ∧ Below W.heap.size W wr) (fun _ i _ => rt.size - (intOf i).toNat)
  case atStart => exact ⟨0, Nat.zero_le _, rfl, MkRow.nil _ _, Below.refl _ _⟩
  case round =>
    obtain ⟨k, hk, rfl, hrow, hb⟩ := hrel
    have g0 := (hb.cell (p := ⟨Z, 1, none⟩) z).trans qa
    have g1 := (hb.cell (p := ⟨Z, 2, none⟩) z).trans qb
    have gn := (hb.cell (p := ⟨Z, 3, none⟩) z).trans qn
    by_cases hlt : k < rt.size
    · have hi1 : (k : Int) < rt.size := by omega
      have HNX := hidE (afterOf_any pb po cp rp rc k wr (h.below hb (Nat.le_refl _)) HC.out (by omega) (by omega))
      have HSC := hidE (nextsL_succ rp rc k)
      have HKL := hidE (nextsL_len rp rc k)
      go_wp2_with fail
      refine HNX.out.mono ?_
      rintro e w2 ⟨gg, cap2, rfl, _, hb2, hownM⟩
      clear HNX g0 g1
      have hownA := owns_base hownM hb.size
      have hbX := (Below.refl w2.heap.size w2).alloc (Nat.le_refl _) (Obj.cells #[.slice (some ⟨gg, 0, none⟩) rp.length cap2, .int .i64 (rc + k)] 46)
      have hrowX := (hrow.below hb2).below hbX
      have hownX := owns_below hownA hbX
      have hBX : Below W.heap.size W (w2.alloc (Obj.cells #[.slice (some ⟨gg, 0, none⟩) rp.length cap2, .int .i64 (rc + k)] 46)) := (hb.thru hb2 hb.size).thru hbX (Nat.le_trans hb.size hb2.size)
      have hpk : PickK (w2.alloc (Obj.cells #[.slice (some ⟨gg, 0, none⟩) rp.length cap2, .int .i64 (rc + k)] 46)) W.heap.size ⟨some ⟨gg, 0, none⟩, (bump rp k).length, cap2, rc + k⟩ (bump rp k, rc + k) := by
        refine ⟨gg, cap2, rfl, ?_, by rw [bump_len]; unfold maxLen; omega⟩
        rw [bump_len]; exact hownX
      have hnew : ∀ j u, (flatK [⟨some ⟨gg, 0, none⟩, rp.length, cap2, rc + k⟩])[j]? = some u → (w2.alloc (Obj.cells #[.slice (some ⟨gg, 0, none⟩) rp.length cap2, .int .i64 (rc + k)] 46)).cell? ((⟨w2.heap.size, 0, none⟩ : Addr).add j) = some u := by
        intro j u hj
        rw [Addr.add_lit, Nat.zero_add]
        exact rawK_new w2 ⟨some ⟨gg, 0, none⟩, rp.length, cap2, rc + k⟩ j u (by simpa [flatK] using hj)
      have hbase : W.heap.size ≤ (w2.alloc (Obj.cells #[.slice (some ⟨gg, 0, none⟩) rp.length cap2, .int .i64 (rc + k)] 46)).heap.size := hBX.size
      obtain ⟨rs, hrl, hrown, hrr⟩ := hrowX
      rw [HKL.out] at hrown
      have HRR := hidE hrr
      have HNEW := hidE hnew
      have HRL := hidE hrl
      clear hrr hnew hrl hrow hownA hownM
      go_wp2_with (at_builtin; refine wpList_append_own _ rfl _ _ 23 rfl W.heap.size 46 i0 (.agg #[.slice none 0 0, .int .i64 0]) 2 32 Tryz.underlying23 hi0 hz0 hz1 hz2 rfl (by decide) _ _ _ rfl hrown ⟨w2.heap.size, 0, none⟩ 1 1 (flatK [⟨some ⟨gg, 0, none⟩, rp.length, cap2, rc + k⟩]) rfl rfl HNEW.out (flatK_one _) ?qa4 ?qa5 hbase ?_)
      case qa4 => unfold maxLen; omega
      case qa5 => omega
      intro v' w5 hown5 hgrow _
      have hrow5 : MkRow w5 W.heap.size v' (nextsL rp rc (k + 1)) := by
        rw [HSC.out]
        refine MkRow.snoc HRL.out (by rw [HKL.out]; exact hrown) HRR.out hpk hgrow ?_
        rw [HKL.out, bump_len]
        simpa [flatK] using hown5
      have hb5 := hBX.grown hgrow hbase (fun j hj => (hrown.lt j hj).1)
      go_wp2_with fail
      go_roundw
      case rel => exact ⟨k + 1, by omega, by go_num, hrow5, hb5⟩
      case measure => simp [intOf]; omega
    · have hke : rt.size = k := by omega
      subst hke
      obtain ⟨pn, cn, hvn, _, _, _⟩ := hrow.marks
      subst hvn
      have HKL := hidE (nextsL_len rp rc rt.size)
      have HROW := hidE hrow
      clear hrow
      go_wp2_with fail
      go_ret
      rw [HZ.out]
      refine ⟨pn, cn, ?_, ?_, hB.thru hb hZW⟩
      · rw [HKL.out]; rfl
      · have := HROW.out.mono hZW
        rw [HKL.out] at this
        exact this

set_option maxRecDepth 100000 in
set_option maxHeartbeats 4000000 in
theorem marksOf_take (rp mp : List (Int × Int)) (rc mc many : Int) (rt : ByteArray) (p q : Option Addr) (cp cq : Nat) (w : World) (nn pb po : Nat) (hpq : q = some ⟨pb, po, none⟩) (h : StepsAt w q mp) (hn : many = nn) (h60 : nn ≤ 60) (hc : chk mp mc = 0) :
    Calls Tryz.prog 26 #[.agg #[.int .i64 2, .slice p rp.length cp, .int .i64 rc, .string rt, .slice q mp.length cq, .int .i64 mc, .int .i64 many]] w fun e w' => ∃ v c, e = .returned (.slice v nn c) ∧ MkRow w' w.heap.size (.slice v nn c) (nextsL mp mc nn) ∧ Below w.heap.size w w' := by
  subst hpq
  have hB := (Below.refl w.heap.size w).alloc (Nat.le_refl _) (Obj.cells #[.int .i64 2, .slice p rp.length cp, .int .i64 rc, .string rt, .slice (some ⟨pb, po, none⟩) mp.length cq, .int .i64 mc, .int .i64 many] 50)
  have hcc : ∀ i, i < 7 → (w.alloc (Obj.cells #[.int .i64 2, .slice p rp.length cp, .int .i64 rc, .string rt, .slice (some ⟨pb, po, none⟩) mp.length cq, .int .i64 mc, .int .i64 many] 50)).cell? ⟨w.heap.size, i, none⟩ = #[.int .i64 2, .slice p rp.length cp, .int .i64 rc, .string rt, .slice (some ⟨pb, po, none⟩) mp.length cq, .int .i64 mc, .int .i64 many][i]? := fun i hi => by simp
  have q0 := hcc 0 (by decide)
  have qa := hcc 4 (by decide)
  have qb := hcc 5 (by decide)
  have qn := hcc 6 (by decide)
  simp only [List.getElem?_toArray, List.getElem?_cons_succ, List.getElem?_cons_zero] at q0 qa qb qn
  have z : w.heap.size < (w.alloc (Obj.cells #[.int .i64 2, .slice p rp.length cp, .int .i64 rc, .string rt, .slice (some ⟨pb, po, none⟩) mp.length cq, .int .i64 mc, .int .i64 many] 50)).heap.size := by simp
  clear hcc
  replace h := h.below hB (Nat.le_refl _)
  obtain ⟨i0, hi0, hz0, hz1, hz2⟩ := Tryz.info46
  have hl1 := (chk_ok hc).2.1
  have HC := hidE hc
  clear hc
  subst hn
  go_enter Tryz.func26, Tryz.ntmps26
  go_upto_region 1 with fail
  generalize w.alloc (Obj.cells #[.int .i64 2, .slice p rp.length cp, .int .i64 rc, .string rt, .slice (some ⟨pb, po, none⟩) mp.length cq, .int .i64 mc, .int .i64 nn] 50) = W at hB q0 qa qb qn z h ⊢
  generalize hzz : w.heap.size = Z at hB q0 qa qb qn z ⊢
  have HZ := hidE hzz
  clear hzz
  have hZW := Nat.le_of_lt z
  go_wp2_with fail
  go_loopw [3, 5] (fun v3 i wr => ∃ k : Nat, k ≤ nn ∧ i = .int .i64 k ∧ MkRow wr W.heap.size v3 (nextsL mp mc k) ∧ Below W.heap.size W wr) (fun _ i _ => nn - (intOf i).toNat)
  case atStart => exact ⟨0, Nat.zero_le _, rfl, MkRow.nil _ _, Below.refl _ _⟩
  case round =>
    obtain ⟨k, hk, rfl, hrow, hb⟩ := hrel
    have g0 := (hb.cell (p := ⟨Z, 4, none⟩) z).trans qa
    have g1 := (hb.cell (p := ⟨Z, 5, none⟩) z).trans qb
    have gn := (hb.cell (p := ⟨Z, 6, none⟩) z).trans qn
    by_cases hlt : k < nn
    · have hi1 : (k : Int) < nn := by omega
      have HNX := hidE (afterOf_any pb po cq mp mc k wr (h.below hb (Nat.le_refl _)) HC.out (by omega) (by omega))
      have HSC := hidE (nextsL_succ mp mc k)
      have HKL := hidE (nextsL_len mp mc k)
      go_wp2_with fail
      refine HNX.out.mono ?_
      rintro e w2 ⟨gg, cap2, rfl, _, hb2, hownM⟩
      clear HNX g0 g1
      have hownA := owns_base hownM hb.size
      have hbX := (Below.refl w2.heap.size w2).alloc (Nat.le_refl _) (Obj.cells #[.slice (some ⟨gg, 0, none⟩) mp.length cap2, .int .i64 (mc + k)] 46)
      have hrowX := (hrow.below hb2).below hbX
      have hownX := owns_below hownA hbX
      have hBX : Below W.heap.size W (w2.alloc (Obj.cells #[.slice (some ⟨gg, 0, none⟩) mp.length cap2, .int .i64 (mc + k)] 46)) := (hb.thru hb2 hb.size).thru hbX (Nat.le_trans hb.size hb2.size)
      have hpk : PickK (w2.alloc (Obj.cells #[.slice (some ⟨gg, 0, none⟩) mp.length cap2, .int .i64 (mc + k)] 46)) W.heap.size ⟨some ⟨gg, 0, none⟩, (bump mp k).length, cap2, mc + k⟩ (bump mp k, mc + k) := by
        refine ⟨gg, cap2, rfl, ?_, by rw [bump_len]; unfold maxLen; omega⟩
        rw [bump_len]; exact hownX
      have hnew : ∀ j u, (flatK [⟨some ⟨gg, 0, none⟩, mp.length, cap2, mc + k⟩])[j]? = some u → (w2.alloc (Obj.cells #[.slice (some ⟨gg, 0, none⟩) mp.length cap2, .int .i64 (mc + k)] 46)).cell? ((⟨w2.heap.size, 0, none⟩ : Addr).add j) = some u := by
        intro j u hj
        rw [Addr.add_lit, Nat.zero_add]
        exact rawK_new w2 ⟨some ⟨gg, 0, none⟩, mp.length, cap2, mc + k⟩ j u (by simpa [flatK] using hj)
      have hbase : W.heap.size ≤ (w2.alloc (Obj.cells #[.slice (some ⟨gg, 0, none⟩) mp.length cap2, .int .i64 (mc + k)] 46)).heap.size := hBX.size
      obtain ⟨rs, hrl, hrown, hrr⟩ := hrowX
      rw [HKL.out] at hrown
      have HRR := hidE hrr
      have HNEW := hidE hnew
      have HRL := hidE hrl
      clear hrr hnew hrl hrow hownA hownM
      go_wp2_with (at_builtin; refine wpList_append_own _ rfl _ _ 23 rfl W.heap.size 46 i0 (.agg #[.slice none 0 0, .int .i64 0]) 2 32 Tryz.underlying23 hi0 hz0 hz1 hz2 rfl (by decide) _ _ _ rfl hrown ⟨w2.heap.size, 0, none⟩ 1 1 (flatK [⟨some ⟨gg, 0, none⟩, mp.length, cap2, mc + k⟩]) rfl rfl HNEW.out (flatK_one _) ?qa4 ?qa5 hbase ?_)
      case qa4 => unfold maxLen; omega
      case qa5 => omega
      intro v' w5 hown5 hgrow _
      have hrow5 : MkRow w5 W.heap.size v' (nextsL mp mc (k + 1)) := by
        rw [HSC.out]
        refine MkRow.snoc HRL.out (by rw [HKL.out]; exact hrown) HRR.out hpk hgrow ?_
        rw [HKL.out, bump_len]
        simpa [flatK] using hown5
      have hb5 := hBX.grown hgrow hbase (fun j hj => (hrown.lt j hj).1)
      go_wp2_with fail
      go_roundw
      case rel => exact ⟨k + 1, by omega, by go_num, hrow5, hb5⟩
      case measure => simp [intOf]; omega
    · have hke : nn = k := by omega
      subst hke
      obtain ⟨pn, cn, hvn, _, _, _⟩ := hrow.marks
      subst hvn
      have HKL := hidE (nextsL_len mp mc nn)
      have HROW := hidE hrow
      clear hrow
      go_wp2_with fail
      go_ret
      rw [HZ.out]
      refine ⟨pn, cn, ?_, ?_, hB.thru hb hZW⟩
      · rw [HKL.out]; rfl
      · have := HROW.out.mono hZW
        rw [HKL.out] at this
        exact this

theorem marksOf_ok (d : Dd) (p q : Option Addr) (cp cq : Nat) (w : World) (h : DdAt w d p q) (hc : chkD d = 0) :
    Calls Tryz.prog 26 #[ddV d p q cp cq] w fun e w' => ∃ v c, e = .returned (.slice v (marksD d).length c) ∧ MkRow w' w.heap.size (.slice v (marksD d).length c) (marksD d) ∧ Below w.heap.size w w' := by
  rcases kind_of hc with hk | hk
  · have ok := okRun_of (okPut_of hk hc)
    have hm : marksD d = nextsL d.rp d.rc d.rt.size := by unfold marksD; rw [if_pos hk]
    have hpos := (chk_ok ok.mark).1
    rw [hm, nextsL_len]
    unfold ddV
    rw [hk]
    rcases h.run with hs | ⟨pb, po, hp, hr⟩
    · rw [hs] at hpos; simp at hpos
    · exact marksOf_put d.rp d.mp d.rc d.mc d.many d.rt p q cp cq w d.rt.size pb po hp h.run rfl ok.len ok.mark
  · obtain ⟨h0, h1, h60, hn⟩ := okTake_of hk hc
    have hm : marksD d = nextsL d.mp d.mc d.many.toNat := by unfold marksD; rw [if_neg (by omega)]
    have hpos := (chk_ok h0).1
    rw [hm, nextsL_len]
    unfold ddV
    rw [hk]
    rcases h.mark with hs | ⟨pb, po, hp, hr⟩
    · rw [hs] at hpos; simp at hpos
    · exact marksOf_take d.rp d.mp d.rc d.mc d.many d.rt p q cp cq w d.many.toNat pb po hp h.mark (by omega) (by omega) h0
end Go.Proofs.YtnhjebdlcbhkcacGreat
