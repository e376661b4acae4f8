/- Contracts of the reference's runsIn, IsPut. -/
import Derived.Test.YtnhjebdlcbhkcaeGreatCkPutR
import Derived.Test.YtnhjebdlcbhkcaeGreatTextOf
import Derived.Test.YtnhjebdlcbhkcaeGreatSameR
import Derived.Test.YtnhjebdlcbhkcaeGreatStateCkR
import Derived.Test.YtnhjebdlcbhkcaeGreatDoOf
import Derived.Test.YtnhjebdlcbhkcaeGreatEditPu
import Derived.Test.YtnhjebdlcbhkcaeGreatDiffPl
namespace Go.Proofs.YtnhjebdlcbhkcaeGreat
open Go.RowKit

def runD (d : Dd) : Rn := ⟨d.rp, d.rc, d.rt⟩

set_option maxRecDepth 100000 in
set_option maxHeartbeats 2000000 in
theorem runsIn_ok (r : Option Addr) (cr : Nat) (ds : List Dd) (w : World) (hn : ds.length ≤ 1048576) (h : DeedsAt w r ds) :
    Calls Tryz.prog 120 #[.slice r ds.length cr] w fun e w' => ∃ p k, e = .returned (.slice p ds.length k) ∧ RunsAt w' p (ds.map runD) ∧ Below w.heap.size w w' := by
  obtain ⟨i0, hi0, hz0, hz1, hz2⟩ := Tryz.info59
  go_enter Tryz.func120, Tryz.ntmps120
  go_wp2_with fail
  go_loopw [3, 4] (fun v i wr => ∃ k : Nat, k ≤ ds.length ∧ i = .int .i64 k ∧ OwnsN w wr w.heap.size v ((ds.take k).map runD) ∧ Below w.heap.size w wr) (fun _ i _ => ds.length - (intOf i).toNat)
  case atStart => exact ⟨0, Nat.zero_le _, rfl, ⟨[], rfl, World.ownsRow_nil _ _ _ _, fun i h => by simp at h⟩, Below.refl _ _⟩
  case round =>
    obtain ⟨k, hk, rfl, hrow, hb⟩ := hrel
    by_cases hlt : k < ds.length
    · have hi1 : (k : Int) < ds.length := by omega
      rcases h with hs | ⟨bb, oo, rfl, hbb, hc⟩
      · simp [hs] at hlt
      obtain ⟨p, cp, q, cq, c0, c1, c2, c3, c4, c5, c6, hD, -, -⟩ := hc k hlt
      have e1 := (hb.cell (p := ⟨bb, oo + k * 7 + 1, none⟩) hbb).trans c1
      have e2 := (hb.cell (p := ⟨bb, oo + k * 7 + 1 + 1, none⟩) hbb).trans c2
      have e3 := (hb.cell (p := ⟨bb, oo + k * 7 + 1 + 2, none⟩) hbb).trans c3
      have HTK : Hid ((ds.take (k + 1)).map runD = (ds.take k).map runD ++ [runD ds[k]]) := by
        show _ = _
        rw [List.take_succ_eq_append_getElem hlt, List.map_append]; rfl
      have HX : Hid (RawNOf w ⟨p, ds[k].rp.length, cp, ds[k].rc, ds[k].rt⟩ (runD ds[k])) := ⟨rfl, rfl, rfl, hD.run, hD.rl, hD.tl⟩
      have HL : Hid (((ds.take k).map runD).length = k) := by show _ = _; simp; omega
      clear hc c0 c1 c2 c3 c4 c5 c6 hD
      generalize ds[k] = x at *
      generalize (ds.take k).map runD = xs at *
      obtain ⟨rs, hrl, hown, hrr⟩ := hrow
      have HRR := hidE hrr
      have hRN := rawN_new wr ⟨p, x.rp.length, cp, x.rc, x.rt⟩
      have hown2 := hown.alloc (Obj.cells #[.slice p x.rp.length cp, .int .i64 x.rc, .string x.rt] 59)
      have hB2 := hb.alloc hb.size (Obj.cells #[.slice p x.rp.length cp, .int .i64 x.rc, .string x.rt] 59)
      clear hrr
      go_wp2_with (at_builtin; refine wpList_append_own _ rfl _ _ 44 rfl w.heap.size 59 i0 (.agg #[.slice none 0 0, .int .i64 0, .string ⟨#[]⟩]) 3 48 Tryz.underlying44 hi0 hz0 hz1 hz2 rfl (by decide) _ _ _ rfl hown2 ⟨wr.heap.size, 0, none⟩ 1 1 (⟨p, x.rp.length, cp, x.rc, x.rt⟩ : RawN).cells rfl rfl ?qa3 ?qa2 ?qa4 ?qa5 hB2.size ?_)
      case qa3 => intro j u hj; first | (rw [Addr.add_lit, Nat.zero_add]; exact hRN j u hj) | exact hj
      case qa2 => exact fun u hu => flatN_one [(⟨p, x.rp.length, cp, x.rc, x.rt⟩ : RawN)] u (by simpa [flatN] using hu)
      case qa4 => have := HL.out; unfold maxLen; omega
      case qa5 => have := HL.out; omega
      intro v' w5 hown5 hgrow _
      have hb5 := hB2.grown hgrow hB2.size (fun j hj => (hown2.lt j hj).1)
      have HR5 := hidE (ownsN_snoc hrl HRR.out HX.out hown5)
      clear hown5 hgrow hown hown2 hRN
      go_wp2_with fail
      go_roundw
      case rel => exact ⟨k + 1, by omega, by go_num, by rw [HTK.out]; exact HR5.out, hb5⟩
      case measure => simp [intOf]; omega
    · have hke : k = ds.length := by omega
      subst hke
      rw [List.take_length] at hrow
      obtain ⟨p, c, rfl, hat, _⟩ := hrow.runs hb
      have HAT := hidE hat
      have HL : Hid ((ds.map runD).length = ds.length) := by show _ = _; simp
      rw [HL.out]
      clear hat hrow
      go_wp2_with fail
      go_ret
      exact ⟨p, c, rfl, HAT.out, hb⟩

theorem PickRow.cat {w w' : World} {base : Nat} {v v' : Value} {xs ys : List At} {rs qs : List Raw} (hl : rs.length = xs.length) (hown : w.ownsRow base 108 3 v xs.length (flatR rs)) (hr : ∀ i (h : i < xs.length) (h' : i < rs.length), PickRaw w base rs[i] xs[i]) (hl2 : qs.length = ys.length) (hr2 : ∀ i (h : i < ys.length) (h' : i < qs.length), PickRaw w base qs[i] ys[i]) (hg : w.grownBy w' v.ownBlock) (h : w'.ownsRow base 108 3 v' (xs.length + ys.length) (flatR rs ++ flatR qs)) :
    PickRow w' base v' (xs ++ ys) := by
  refine ⟨rs ++ qs, by simp [hl, hl2], ?_, fun i hi hi' => ?_⟩
  · rw [flatR_append, List.length_append]; exact h
  · by_cases e : i < xs.length
    · rw [List.getElem_append_left (by omega), List.getElem_append_left e]
      exact (hr i e (by omega)).kept hg (fun g cap _ ho => types_ne ho hown)
    · have hi2 : i < xs.length + ys.length := by simpa using hi
      rw [List.getElem_append_right (by omega), List.getElem_append_right (by omega)]
      have := hr2 (i - xs.length) (by omega) (by omega)
      simp only [hl]
      exact this.kept hg (fun g cap _ ho => types_ne ho hown)

def catR (rs : List Rn) : List At := rs.flatMap fun r => atomsR r.path r.clock r.text

theorem catR_snoc (rs : List Rn) (r : Rn) : catR (rs ++ [r]) = catR rs ++ atomsR r.path r.clock r.text := by unfold catR; simp
theorem catR_take_le (rs : List Rn) (k : Nat) : (catR (rs.take k)).length ≤ (catR rs).length := by
  conv => rhs; rw [← List.take_append_drop k rs]
  unfold catR
  rw [List.flatMap_append, List.length_append]
  omega

theorem hasMk_new {l : List At} {p : List (Int × Int)} {c : Int} (h : ∀ y ∈ l, (p, c) ≠ (y.path, y.clock)) : hasMk l p c = false := by
  unfold hasMk
  rw [List.any_eq_false]
  intro x hx e
  rw [beq_iff_eq] at e
  obtain ⟨e1, e2⟩ := ordM_zero e
  exact h x hx (by rw [e1, e2])

theorem hasGone_new {g : List (List (Int × Int) × Int)} {p : List (Int × Int)} {c : Int} (h : (p, c) ∉ g) : hasGone g p c = false := by
  unfold hasGone
  rw [List.any_eq_false]
  intro x hx e
  rw [beq_iff_eq] at e
  obtain ⟨e1, e2⟩ := ordM_zero e
  apply h
  rw [← e1, ← e2]
  exact hx

set_option maxRecDepth 100000 in
set_option maxHeartbeats 8000000 in
theorem isPut_true (a b r : Option Addr) (cap cap' cr : Nat) (l : List At) (g : List (List (Int × Int) × Int)) (n : Nat) (t : ByteArray) (site clock : Int) (ax : List At) (w : World) (hok : OkS l g) (hn : n ≤ l.length) (h60 : t.size ≤ 60) (h300 : l.length + t.size ≤ 300) (hP : PutAs l g n t site clock ax) (h : AtomsAt w a l) (h' : MarksAt w b g) (hr : DeedsAt w r ((runsL ax).map putDd)) :
    Calls Tryz.prog 41 #[.agg #[.slice a l.length cap, .slice b g.length cap'], .int .i64 n, .string t, .int .i64 site, .int .i64 clock, .slice r (runsL ax).length cr] w fun e w' => e = .returned (.bool true) ∧ Below w.heap.size w w' := by
  obtain ⟨i0, hi0, hz0, hz1, hz2⟩ := Tryz.info108
  have hB := (Below.refl w.heap.size w).alloc (Nat.le_refl _) (Obj.cells #[.slice a l.length cap, .slice b g.length cap'] 25)
  have q0 : (w.alloc (Obj.cells #[.slice a l.length cap, .slice b g.length cap'] 25)).cell? ⟨w.heap.size, 0, none⟩ = some (.slice a l.length cap) := by simp
  have q1 : (w.alloc (Obj.cells #[.slice a l.length cap, .slice b g.length cap'] 25)).cell? ⟨w.heap.size, 1, none⟩ = some (.slice b g.length cap') := by simp
  have z : w.heap.size < (w.alloc (Obj.cells #[.slice a l.length cap, .slice b g.length cap'] 25)).heap.size := by simp
  replace h := h.below hB (Nat.le_refl _)
  replace h' := h'.below hB (Nat.le_refl _)
  replace hr := hr.below hB
  have HOK := hidE hok
  have HP := hidE hP
  have hal := hP.len
  have hrl := runsL_lenE ax
  have HE := hidE (runsL_each hP.ok)
  have HCAT : Hid (catR (runsL ax) = ax) := runsL_cat hP.ok
  have HAL := hidE hal
  have h300a : ax.length ≤ 60 := by omega
  clear hok hP hal
  go_enter Tryz.func41, Tryz.ntmps41
  go_upto_region 1 with fail
  generalize w.alloc (Obj.cells #[.slice a l.length cap, .slice b g.length cap'] 25) = W at hB q0 q1 z h h' hr ⊢
  generalize hzz : w.heap.size = Z at hB q0 q1 z ⊢
  have HZ := hidE hzz
  clear hzz
  go_wp2_with fail
  go_loopw [13, 14] (fun v i wr => ∃ k : Nat, k ≤ (runsL ax).length ∧ i = .int .i64 k ∧ PickRow wr W.heap.size v (catR ((runsL ax).take k)) ∧ Below W.heap.size W wr) (fun _ i _ => (runsL ax).length - (intOf i).toNat)
  case atStart => exact ⟨0, Nat.zero_le _, rfl, ⟨[], rfl, World.ownsRow_nil _ _ _ _, fun i h => by simp [catR] at h⟩, Below.refl _ _⟩
  case round =>
    obtain ⟨k, hk, rfl, hrow, hb⟩ := hrel
    have r0 := (hb.cell (p := ⟨Z, 0, none⟩) z).trans q0
    have r1 := (hb.cell (p := ⟨Z, 1, none⟩) z).trans q1
    have zr := Nat.lt_of_lt_of_le z hb.size
    by_cases hlt : k < (runsL ax).length
    · have hi1 : (k : Int) < (runsL ax).length := by omega
      rcases hr.below hb with hs | ⟨bb, oo, rfl, hbb, hc⟩
      · rw [List.map_eq_nil_iff] at hs; rw [hs] at hlt; simp at hlt
      obtain ⟨p, cp, q, cq, c0, c1, c2, c3, c4, c5, c6, hD, hm1, hm2⟩ := hc k (by simpa using hlt)
      have HTK : Hid (catR ((runsL ax).take (k + 1)) = catR ((runsL ax).take k) ++ atomsR (runsL ax)[k].path (runsL ax)[k].clock (runsL ax)[k].text) := by
        show _ = _
        rw [List.take_succ_eq_append_getElem hlt, catR_snoc]
      have hle := catR_take_le (runsL ax) (k + 1)
      rw [HTK.out, HCAT.out, List.length_append, atomsR_len] at hle
      have hck := HE.out _ (List.getElem_mem hlt)
      simp only [List.getElem_map] at c0 c1 c2 c3 c4 c5 c6 hD hm1 hm2
      clear hc
      generalize (runsL ax)[k] = x at *
      generalize catR ((runsL ax).take k) = xs at *
      have okx := okRun_of hck
      have hx0 := okx.len0
      have hxp := (chk_ok okx.mark).1
      have HCK := hidE (putDd_chk hck)
      have hCD := checkDeed_any (putDd x) p q cp cq wr hD hm1 hm2
      rw [HCK.out] at hCD
      have HCD := hidE hCD
      obtain ⟨pb, po, rfl⟩ : ∃ pb po, p = some ⟨pb, po, none⟩ := by
        rcases hD.run with e | ⟨b, off, rfl, _⟩
        · have : x.path = [] := e
          rw [this] at hxp; simp at hxp
        · exact ⟨b, off, rfl⟩
      have hst : StepsAt wr (some ⟨pb, po, none⟩) x.path := hD.run
      replace c0 : wr.cell? ⟨bb, oo + k * 7, none⟩ = some (.int .i64 1) := c0
      replace c1 : wr.cell? ⟨bb, oo + k * 7 + 1, none⟩ = some (.slice (some ⟨pb, po, none⟩) x.path.length cp) := c1
      replace c2 : wr.cell? ⟨bb, oo + k * 7 + 2, none⟩ = some (.int .i64 x.clock) := c2
      replace c3 : wr.cell? ⟨bb, oo + k * 7 + 3, none⟩ = some (.string x.text) := c3
      replace c4 : wr.cell? ⟨bb, oo + k * 7 + 4, none⟩ = some (.slice q 0 cq) := c4
      replace c5 : wr.cell? ⟨bb, oo + k * 7 + 5, none⟩ = some (.int .i64 0) := c5
      replace c6 : wr.cell? ⟨bb, oo + k * 7 + 6, none⟩ = some (.int .i64 0) := c6
      clear hCD hD hm1 hm2 hck hk
      go_wp2_with fail
      refine HCD.out.mono ?_
      rintro e w2 ⟨rfl, hb2⟩
      have e1 : w2.cell? ⟨bb, oo + k * 7 + 1, none⟩ = some (.slice (some ⟨pb, po, none⟩) x.path.length cp) := (hb2.cell (p := ⟨bb, oo + k * 7 + 1, none⟩) hbb).trans c1
      have e2 : w2.cell? ⟨bb, oo + k * 7 + 1 + 1, none⟩ = some (.int .i64 x.clock) := (hb2.cell (p := ⟨bb, oo + k * 7 + 1 + 1, none⟩) hbb).trans c2
      have e3 : w2.cell? ⟨bb, oo + k * 7 + 1 + 2, none⟩ = some (.string x.text) := (hb2.cell (p := ⟨bb, oo + k * 7 + 1 + 2, none⟩) hbb).trans c3
      have HAT := hidE (atomsOf_pick pb po cp x.path x.clock x.text w2 okx (hst.below hb2 (Nat.le_refl _)))
      have HPL : Hid ((atomsR x.path x.clock x.text).length = x.text.size) := hidE (atomsR_len ..)
      replace hrow := hrow.below hb2
      have hb3 := hb.thru hb2 hb.size
      clear c0 c1 c2 c3 c4 c5 c6 HCD HCK hst hb2 hb r0 r1 okx
      generalize atomsR x.path x.clock x.text = pt at *
      go_wp2_with fail
      refine HAT.out.mono ?_
      rintro e w4 ⟨pA, kA, rfl, _, hrowA, hb4⟩
      replace hrow := hrow.below hb4
      replace hrowA := hrowA.mono hb3.size
      have hb24 := hb3.thru hb4 hb3.size
      clear HAT hb3 hb4
      obtain ⟨rs, hrl2, hown, hrr⟩ := hrow
      obtain ⟨qs, hql, hownA, hqr⟩ := hrowA
      obtain ⟨gA, kA', hv⟩ := owns_form hownA (by have := HPL.out; omega)
      obtain ⟨rfl, rfl⟩ : pA = some ⟨gA, 0, none⟩ ∧ kA = kA' := by simpa using hv
      clear hv
      have HRR := hidE hrr
      have HQR := hidE hqr
      have HQC : Hid (∀ j u, (flatR qs)[j]? = some u → w4.cell? ⟨gA, j, none⟩ = some u) := by
        intro j u hj
        have := hownA.cells (g := gA) rfl j u hj
        rwa [Addr.add_lit, Nat.zero_add] at this
      have hqn : (flatR qs).length = pt.length * 3 := by rw [flatR_length, hql]
      clear hrr hqr
      go_wp2_with (at_builtin; refine wpList_append_own _ rfl _ _ 22 rfl W.heap.size 108 i0 (.agg #[.slice none 0 0, .int .i64 0, .int .u8 0]) 3 40 Tryz.underlying22 hi0 hz0 hz1 hz2 rfl (by decide) _ _ _ rfl hown ⟨gA, 0, none⟩ pt.length kA (flatR qs) rfl ?qa1 ?qa2 ?qa3 ?qa4 ?qa5 ?qa6 ?_)
      case qa1 => exact hqn
      case qa2 => intro j u hj; first | exact HQC.out j u hj | (rw [Addr.add_lit, Nat.zero_add]; exact HQC.out j u hj)
      case qa3 => exact flatR_one qs
      case qa4 => have := HPL.out; unfold maxLen; omega
      case qa5 => have := HPL.out; omega
      case qa6 => exact hb24.size
      intro v' w5 hown5 hgrow _
      have hrow5 := hidE (PickRow.cat hrl2 hown HRR.out hql HQR.out hgrow hown5)
      have hb5 := hb24.grown hgrow hb24.size (fun j hj => (hown.lt j hj).1)
      clear hown5 hgrow hown hownA hqn
      go_wp2_with fail
      go_roundw
      case rel => exact ⟨k + 1, by omega, by go_num, by rw [HTK.out]; exact hrow5.out, hb5⟩
      case measure => simp [intOf]; omega
    · have hke : k = (runsL ax).length := by omega
      subst hke
      rw [List.take_length, HCAT.out] at hrow
      replace h := h.below hb (Nat.le_refl _)
      replace h' := h'.below hb (Nat.le_refl _)
      replace hr := hr.below hb
      replace hB := hB.trans (hb.mono (Nat.le_of_lt z))
      obtain ⟨pa, ca, rfl, hat, _⟩ := hrow.owns.atoms (Below.refl _ _)
      clear q0 q1 z hb hrow hlt hk
      have hneb : ((ax.length : Int) != (t.size : Int)) = false := by rw [HAL.out]; simp
      go_wp2_with fail
      refine (runsOf_ok pa ca ax wr hat HP.out.ok).mono ?_
      rintro e w2 ⟨p1, k1, rfl, hru, hb2⟩
      have HRI := hidE (runsIn_ok r cr ((runsL ax).map putDd) w2 (by simp; omega) (hr.below hb2))
      have HL : Hid (((runsL ax).map putDd).length = (runsL ax).length) := by show _ = _; simp
      have HM : Hid (((runsL ax).map putDd).map runD = runsL ax) := by
        show _ = _
        rw [List.map_map]
        conv => rhs; rw [← List.map_id (runsL ax)]
        rfl
      rw [HL.out, HM.out] at HRI
      go_wp2_with fail
      refine HRI.out.mono ?_
      rintro e w3 ⟨p2, k2, rfl, hru2, hb3⟩
      have hb23 := hb2.thru hb3 hb2.size
      have HSR := hidE (sameRuns_true p1 p2 k1 k2 (runsL ax) w3 (by unfold maxLen; omega) (hru.below hb3 (Nat.le_refl _)) hru2)
      clear HRI HL HM hru hru2
      go_wp2_with fail
      refine HSR.out.mono ?_
      rintro e w4 ⟨rfl, hb4⟩
      have hb24 := hb23.thru hb4 hb23.size
      clear HSR hb23 hb2 hb3 hb4
      replace h := h.below hb24 (Nat.le_refl _)
      replace h' := h'.below hb24 (Nat.le_refl _)
      replace hr := hr.below hb24
      replace hat := hat.below hb24 (Nat.le_refl _)
      replace r0 := (hb24.cell (p := ⟨Z, 0, none⟩) zr).trans r0
      replace r1 := (hb24.cell (p := ⟨Z, 1, none⟩) zr).trans r1
      replace hB := hB.trans (hb24.mono (Nat.le_of_lt zr))
      replace zr := Nat.lt_of_lt_of_le zr hb24.size
      clear hb24
      go_wp2_with fail
      go_loopw [15] (fun i wq => ∃ m : Nat, m ≤ ax.length ∧ i = .int .i64 m ∧ Below w4.heap.size w4 wq) (fun i _ => ax.length - (intOf i).toNat)
      case atStart => exact ⟨0, Nat.zero_le _, rfl, Below.refl _ _⟩
      case round =>
        obtain ⟨m, hm, rfl, hb⟩ := hrel
        replace h := h.below hb (Nat.le_refl _)
        replace h' := h'.below hb (Nat.le_refl _)
        replace hr := hr.below hb
        have hatq := hat.below hb (Nat.le_refl _)
        replace r0 := (hb.cell (p := ⟨Z, 0, none⟩) zr).trans r0
        replace r1 := (hb.cell (p := ⟨Z, 1, none⟩) zr).trans r1
        replace hB := hB.trans (hb.mono (Nat.le_of_lt zr))
        replace zr := Nat.lt_of_lt_of_le zr hb.size
        by_cases hlm : m < ax.length
        · rcases hatq with hs | ⟨ab, ao, rfl, hab, hc⟩
          · simp [hs] at hlm
          obtain ⟨p, cp, c0, c1, c2, hst, hle, -, -, -⟩ := hc m hlm
          have hi1 : (m : Int) < (ax.length : Int) := by omega
          have hmt : m < t.size := by have := HAL.out; omega
          have hi2 : (m : Int) < (t.size : Int) := by omega
          have hck := (HP.out.ok.each _ (List.getElem_mem hlm)).1
          have hsg := HP.out.sign m hlm
          rw [List.getD_eq_getElem?_getD, List.getElem?_eq_getElem (by simpa using hmt)] at hsg
          have hsg' : ax[m].sign = (t[m].toNat : Int) := hsg
          have hsi := HP.out.site' m hlm
          have hcl := HP.out.clk m hlm
          have hnm := hasMk_new (HP.out.newL _ (List.getElem_mem hlm))
          have hng := hasGone_new (HP.out.newG _ (List.getElem_mem hlm))
          have hpos := (chk_ok hck).1
          obtain ⟨_, _, _, _, hc1', hc2'⟩ := chk_ok hck
          clear hc hsg hck hat
          rw [hsg'] at c2
          rw [hcl] at c1 hnm hng
          have hwc : IntKind.i64.wrap (clock + (m : Int)) = clock + m := by rw [IntKind.wrap_i64] <;> omega
          generalize ax[m].path = pk at *
          clear hsg' hcl hc1' hc2'
          have hbA := (Below.refl wr.heap.size wr).alloc (Nat.le_refl _) (Obj.cells #[.slice p pk.length cp, .int .i64 (clock + m)] 42)
          have m0 : (wr.alloc (Obj.cells #[.slice p pk.length cp, .int .i64 (clock + m)] 42)).cell? ⟨wr.heap.size, 0, none⟩ = some (.slice p pk.length cp) := by simp
          have m1 : (wr.alloc (Obj.cells #[.slice p pk.length cp, .int .i64 (clock + m)] 42)).cell? ⟨wr.heap.size, 1, none⟩ = some (.int .i64 (clock + m)) := by simp
          go_upto_region 14 with fail
          generalize wr.alloc (Obj.cells #[.slice p pk.length cp, .int .i64 (clock + m)] 42) = wA at hbA m0 m1 ⊢
          have hbX := hb.thru hbA hb.size
          replace c2 := (hbA.cell (p := ⟨ab, ao + m * 3 + 2, none⟩) hab).trans c2
          replace c1 := (hbA.cell (p := ⟨ab, ao + m * 3 + 1, none⟩) hab).trans c1
          replace r0 := (hbA.cell (p := ⟨Z, 0, none⟩) zr).trans r0
          replace r1 := (hbA.cell (p := ⟨Z, 1, none⟩) zr).trans r1
          replace hst := hst.below hbA (Nat.le_refl _)
          replace h := h.below hbA (Nat.le_refl _)
          replace h' := h'.below hbA (Nat.le_refl _)
          have k0 := cell_regrown r0
          have k1 := cell_regrown r1
          have k2 := cell_regrown c2
          have k3 := cell_regrown m0
          have k4 := cell_regrown m1
          have hlm1 : l.length ≤ maxLen := by unfold maxLen; omega
          have hgm1 : g.length ≤ maxLen := by have := HOK.out.len; unfold maxLen; omega
          have HLS := hidE (fun d os => lastSite_any p cp pk (clock + m) _ hpos hle (hst.below (below_regrown wA d os) (Nat.le_refl _)))
          rw [hsi] at HLS
          have HHM := hidE (fun d os => hasMark_any a p cap cp l pk (clock + m) _ hlm1 hle (h.below (below_regrown wA d os) (Nat.le_refl _)) (hst.below (below_regrown wA d os) (Nat.le_refl _)))
          rw [hnm] at HHM
          have HHG := hidE (fun d os => hasGone_any b p cap' cp g pk (clock + m) _ hgm1 hle (h'.below (below_regrown wA d os) (Nat.le_refl _)) (hst.below (below_regrown wA d os) (Nat.le_refl _)))
          rw [hng] at HHG
          clear hsi hnm hng hst h h' hr hlm1 hgm1 hab hpos hle r0 r1 c0 c1 c2 m0 m1
          generalize wr.heap.size = Y at *
          refine wp_region_quiet_below (by kernel_rfl) (by kernel_rfl) ?_
          repeat (first | go_big_quiet_step ((first | (go_at_call 108; with_reducible exact Calls.regrown_of (HLS.out _ _)) | (go_at_call 121; with_reducible exact Calls.regrown_of (HHM.out _ _)) | (go_at_call 122; with_reducible exact Calls.regrown_of (HHG.out _ _)))) | quiet_step ((first | (go_at_call 108; with_reducible exact Calls.regrown_of (HLS.out _ _)) | (go_at_call 121; with_reducible exact Calls.regrown_of (HHM.out _ _)) | (go_at_call 122; with_reducible exact Calls.regrown_of (HHG.out _ _)))))
          refine wpQuiet_nil ?_
          intro _ hw'
          obtain ⟨⟨dq, osq⟩, hw''⟩ := hw'
          subst hw''
          replace hbX := hbX.thru (below_regrown wA dq osq) hbX.size
          go_wp2_with fail
          go_roundw
          case rel => exact ⟨m + 1, by omega, by go_num, hbX⟩
          case measure => simp [intOf]; omega
        · have hme : m = ax.length := by omega
          subst hme
          have HDS : Hid (∀ d ∈ (runsL ax).map putDd, chkD d = 0) := fun d hd => by
            obtain ⟨x, hx, rfl⟩ := List.mem_map.1 hd
            exact putDd_chk (HE.out x hx)
          have HPD := hidE (put_does HOK.out HP.out.ok n (by have := HAL.out; omega) HP.out.lo HP.out.hi HP.out.newG)
          have HDO := hidE (doOf_ok a b r cap cap' cr l g ((runsL ax).map putDd) _ HOK.out HDS.out (by simp; unfold maxLen; omega) h h' hr)
          rw [HPD.out] at HDO
          have HL : Hid (((runsL ax).map putDd).length = (runsL ax).length) := by show _ = _; simp
          rw [HL.out] at HDO
          have HTX := hidE (fun (W' : World) (hbW : Below wr.heap.size wr W') => textOf_ok a cap l W' (h.below hbW (Nat.le_refl _)) (by omega))
          clear HL HDS HPD hatq hm hlm hb h h' hr hat HE
          go_wp2_with fail
          refine HDO.out.mono ?_
          rintro e w6 ⟨hb6, h0 | ⟨l', g', p6, c6, q6, d6, h0, rfl, hA6, hM6⟩⟩
          · simp at h0
          · simp only [Option.some.injEq, Prod.mk.injEq] at h0
            obtain ⟨h0, rfl⟩ := h0
            have hl6 : l'.length ≤ 300 := by
              rw [← h0]
              simp only [List.length_append, List.length_take, List.length_drop]
              have := HAL.out
              omega
            have HTP := hidE (txt_put (l := l) n HAL.out HP.out.sign)
            rw [h0] at HTP
            have HTL := hidE (fun (W' : World) (hbW : Below w6.heap.size w6 W') => textOf_ok p6 c6 l' W' (hA6.below hbW (Nat.le_refl _)) hl6)
            rw [HTP.out] at HTL
            have HTS := hidE (HTX.out _ ((hb6.alloc hb6.size (Obj.cells #[.slice p6 l'.length c6, .slice q6 g.length d6] 25))))
            have hws : (strOfNums (l.map At.sign)).size = l.length := by rw [strOfNums_size, List.length_map]
            have hnw : n ≤ (strOfNums (l.map At.sign)).size := by omega
            have hwl : (strOfNums (l.map At.sign)).size ≤ 300 := by omega
            have hbT := (Below.refl w6.heap.size w6).alloc (Nat.le_refl _) (Obj.cells #[.slice p6 l'.length c6, .slice q6 g.length d6] 25)
            have t0 : (w6.alloc (Obj.cells #[.slice p6 l'.length c6, .slice q6 g.length d6] 25)).cell? ⟨w6.heap.size, 0, none⟩ = some (.slice p6 l'.length c6) := by simp
            have zt : w6.heap.size < (w6.alloc (Obj.cells #[.slice p6 l'.length c6, .slice q6 g.length d6] 25)).heap.size := by simp
            have hB6 := hB.trans (hb6.mono (Nat.le_of_lt zr))
            have r6 := (hb6.cell (p := ⟨Z, 0, none⟩) zr).trans r0
            have z6 := Nat.lt_of_lt_of_le zr hb6.size
            replace r6 := (hbT.cell (p := ⟨Z, 0, none⟩) z6).trans r6
            have hBT := hB6.trans (hbT.mono (Nat.le_of_lt z6))
            have zT := Nat.lt_of_lt_of_le z6 hbT.size
            clear HTP HTX HDO hws hA6 hM6 h0 r0 r1 hB6 hb6 hB zr
            go_upto_region 17 with fail
            generalize w6.alloc (Obj.cells #[.slice p6 l'.length c6, .slice q6 g.length d6] 25) = w7 at *
            generalize w6.heap.size = T6 at *
            generalize strOfNums (l.map At.sign) = wt at *
            go_upto_region 18 with (go_at_call 117; refine HTS.out.mono ?_; rintro e w8 ⟨rfl, hb8⟩)
            have u0 := (hb8.cell (p := ⟨T6, 0, none⟩) zt).trans t0
            have HT6 := hidE (fun d os => HTL.out _ (hbT.trans ((hb8.trans ((below_regrown w8 d os).mono hb8.size)).mono (Nat.le_of_lt zt))))
            have k0 := cell_regrown u0
            have hB8 := hBT.trans (hb8.mono (Nat.le_of_lt zT))
            have z8 := Nat.lt_of_lt_of_le zT hb8.size
            clear HTL HTS u0 t0 r6 hbT hb8 hBT
            refine wp_region_quiet_below (by kernel_rfl) (by kernel_rfl) ?_
            repeat (first | go_big_quiet_step ((go_at_call 117; with_reducible exact Calls.regrown_of (HT6.out _ _))) | quiet_step ((go_at_call 117; with_reducible exact Calls.regrown_of (HT6.out _ _))))
            refine wpQuiet_nil ?_
            intro _ hw'
            obtain ⟨⟨dq, osq⟩, hw''⟩ := hw'
            subst hw''
            have hB9 := hB8.trans ((below_regrown w8 dq osq).mono (Nat.le_of_lt z8))
            go_wp2_with fail
            go_ret
            exact ⟨rfl, by rw [HZ.out]; exact hB9⟩
end Go.Proofs.YtnhjebdlcbhkcaeGreat
