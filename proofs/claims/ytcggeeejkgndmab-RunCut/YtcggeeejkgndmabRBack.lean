/- The contract of RunBack. -/
import Derived.Test.YtcggeeejkgndmabRBeg
import Derived.Test.YtcggeeejkgndmabRunPu
namespace Go.Proofs.Ytcggeeejkgndmab
open Go.RowKit

theorem PickRow.append {w w' : World} {base : Nat} {v v' : Value} {xs ys : List At} {rs qs : List Raw} (hl : rs.length = xs.length) (hown : w.ownsRow base 69 3 v xs.length (flatR rs)) (hr : ∀ i (h : i < xs.length) (h' : i < rs.length), PickRaw w base rs[i] xs[i]) (hl2 : qs.length = ys.length) (hr2 : ∀ i (h : i < ys.length) (h' : i < qs.length), PickRaw w base qs[i] ys[i]) (hg : w.grownBy w' v.ownBlock) (h : w'.ownsRow base 69 3 v' (xs.length + ys.length) (flatR rs ++ flatR qs)) :
    PickRow w' base v' (xs ++ ys) := by
  refine ⟨rs ++ qs, by simp [hl, hl2], ?_, fun i hi hi' => ?_⟩
  · rw [flatR_append, List.length_append]; exact h
  · by_cases e : i < xs.length
    · rw [List.getElem_append_left (by omega), List.getElem_append_left e]
      exact (hr i e (by omega)).kept hg (fun g cap _ ho => types_ne ho hown)
    · have hi2 : i < xs.length + ys.length := by simpa using hi
      rw [List.getElem_append_right (by omega), List.getElem_append_right (by omega)]
      have := hr2 (i - xs.length) (by omega) (by omega)
      simp only [hl]
      exact this.kept hg (fun g cap _ ho => types_ne ho hown)

theorem next_anyO (a : Option Addr) (cap : Nat) (l : List (Int × Int)) (c n : Int) (w : World) (hl : l.length ≤ maxLen) (h : StepsAt w a l) :
    Calls Try.prog 19 #[.agg #[.slice a l.length cap, .int .i64 c], .int .i64 n] w (NextGivesO w l c n) := by
  by_cases hok : chk l c = 0
  · by_cases hr : n < 0 ∨ 60 < n
    · have hn : nxt l c n = ([], 0, 3) := by unfold nxt; rw [if_neg (by omega), if_pos hr]
      refine (next_range a cap l c n w hl h hok hr).mono ?_
      rintro e w' ⟨a', c', h1, h2, h3⟩
      exact ⟨a', c', h1, h2, h3, fun e => by rw [hn] at e; cases e⟩
    · rcases id h with hs | ⟨b, off, rfl, _⟩
      · have := (chk_ok hok).1
        simp [hs] at this
      · exact next_in b off cap l c n w h hok (by omega) (by omega)
  · have hn : nxt l c n = ([], 0, chk l c) := by unfold nxt; rw [if_pos hok]
    refine (next_bad a cap l c n w hl h hok).mono ?_
    rintro e w' ⟨a', c', h1, h2, h3⟩
    exact ⟨a', c', h1, h2, h3, fun e => by rw [hn] at e; exact absurd e hok⟩

/-- the path of what Next gave lies apart from a block that lay there before -/
theorem nextO_set {w w' : World} {l : List (Int × Int)} {c n : Int} {a : Option Addr} {cap N o o' : Nat} {u u' : Value} (hN : N < w.heap.size) (hs : StepsAt w' a (nxt l c n).1) (ho : (nxt l c n).2.2 = 0 → w'.ownsRow w.heap.size 88 2 (.slice a (nxt l c n).1.length cap) (nxt l c n).1.length (flatS (nxt l c n).1)) : StepsAt ((w'.setCell ⟨N, o, none⟩ u).setCell ⟨N, o', none⟩ u') a (nxt l c n).1 := by
  by_cases e : (nxt l c n).2.2 = 0
  · rcases (ho e).2 with ⟨h, h0⟩ | ⟨g, c', cur, h, hb, _⟩
    · exact Or.inl (List.length_eq_zero_iff.1 h0)
    · simp only [Value.slice.injEq] at h
      obtain ⟨rfl, _⟩ := h
      exact (hs.setOld (by show g ≠ N; omega)).setOld (by show g ≠ N; omega)
  · have : (nxt l c n).1 = [] := by
      unfold nxt at e ⊢
      split
      · rfl
      · split
        · rfl
        · split
          · rfl
          · rename_i h1 h2 h3; rw [if_neg h1, if_neg h2, if_neg h3] at e; exact absurd rfl e
    exact Or.inl this

theorem keepR {w1 w' : World} {z o : Nat} {v0 v1 v2 : Value} (hb : Below w1.heap.size w1 w') (hz : z < w1.heap.size) (q0 : w1.cell? ⟨z, o, none⟩ = some v0) (q1 : w1.cell? ⟨z, o + 1, none⟩ = some v1) (q2 : w1.cell? ⟨z, o + 2, none⟩ = some v2) :
    Below w1.heap.size w1 w' ∧ w'.cell? ⟨z, o, none⟩ = some v0 ∧ w'.cell? ⟨z, o + 1, none⟩ = some v1 ∧ w'.cell? ⟨z, o + 2, none⟩ = some v2 :=
  ⟨hb, (hb.cell (p := ⟨z, o, none⟩) hz).trans q0, (hb.cell (p := ⟨z, o + 1, none⟩) hz).trans q1, (hb.cell (p := ⟨z, o + 2, none⟩) hz).trans q2⟩

theorem runsL_get {l : List At} {k : Nat} (h : k < (runsL l).length) : (runsL l)[k] = runOf l ((pst l l.length).1[k]'(by simpa [runsL] using h)) := by simp [runsL]

theorem runsL_len (l : List At) : (runsL l).length ≤ l.length := by
  have key : ∀ k, (pst l k).1.length ≤ k := by
    intro k
    induction k with
    | zero => simp [pst]
    | succ k ih =>
      unfold pst
      split
      · omega
      · simp; omega
  have := key l.length
  simpa [runsL] using this

/-- the atoms of the first k runs -/
def backTo (l : List At) (k : Nat) : List At := ((pst l l.length).1.take k).flatMap fun p => part l p.1 (p.2 - p.1)

theorem backTo_succ {l : List At} {k : Nat} (h : k < (pst l l.length).1.length) : backTo l (k + 1) = backTo l k ++ part l (pst l l.length).1[k].1 ((pst l l.length).1[k].2 - (pst l l.length).1[k].1) := by
  unfold backTo
  rw [List.take_succ_eq_append_getElem h, List.flatMap_append]; simp

theorem backTo_all (l : List At) : backTo l (pst l l.length).1.length = l := by
  have h := pstInv l l.length (Nat.le_refl _)
  unfold backTo
  rw [List.take_length, h.cat]
  by_cases e : 0 < l.length
  · rw [h.shut rfl e, List.take_length]
  · have : l = [] := List.length_eq_zero_iff.1 (by omega)
    subst this; rfl

theorem backTo_len (l : List At) (k : Nat) : (backTo l k).length ≤ l.length := by
  have h := backTo_all l
  have e : (pst l l.length).1.flatMap (fun p => part l p.1 (p.2 - p.1)) = backTo l k ++ ((pst l l.length).1.drop k).flatMap (fun p => part l p.1 (p.2 - p.1)) := by
    unfold backTo
    rw [← List.flatMap_append, List.take_append_drop]
  have e2 : (pst l l.length).1.flatMap (fun p => part l p.1 (p.2 - p.1)) = l := by
    rw [← List.take_length (l := (pst l l.length).1)]; exact h
  have := congrArg List.length (e.symm.trans e2)
  simp at this
  omega

set_option maxRecDepth 100000 in
set_option maxHeartbeats 4000000 in
theorem runBack_bad (a : Option Addr) (cap : Nat) (l : List At) (w : World) (hl : l.length ≤ maxLen) (h : AtomsAt w a l) (h0 : chkL l ≠ 0) :
    Calls Try.prog 4 #[.slice a l.length cap] w fun e w' => e = .returned (.bool true) ∧ Below w.heap.size w w' := by
  have hx : (chkL l != 0) = true := bne_iff_ne.2 h0
  have H0 := hidE h0
  clear h0
  go_enter Try.func4, Try.ntmps4
  go_wp2_with fail
  refine (runs_bad _ _ l _ hl h H0.out).mono ?_
  rintro e w1 ⟨rfl, hb1⟩
  go_wp2_with fail
  refine (runBegun_true _).mono ?_
  rintro e w2 ⟨rfl, hb2⟩
  go_wp2_with fail
  go_ret
  exact ⟨rfl, hb1.thru hb2 hb1.size⟩

set_option maxRecDepth 100000 in
set_option maxHeartbeats 40000000 in
theorem runBack_ok (a : Option Addr) (cap : Nat) (l : List At) (w : World) (hcap : l.length ≤ cap) (hcm : cap ≤ maxLen) (h : AtomsAt w a l) (h0 : chkL l = 0) :
    Calls Try.prog 4 #[.slice a l.length cap] w fun e w' => e = .returned (.bool true) ∧ Below w.heap.size w w' := by
  have ok := okL_of h0
  have h300 := ok.len
  have hl : l.length ≤ maxLen := by unfold maxLen; omega
  have HOK := hidE ok
  have HI := hidE (pstInv l l.length (Nat.le_refl _))
  have H0 := hidE h0
  have hrl := runsL_len l
  have HPL : Hid ((runsL l).length = (pst l l.length).1.length) := by show _ = _; simp [runsL]
  obtain ⟨i0, hi0, hz0, hz1, hz2⟩ := Try.info69
  clear h0 ok
  go_enter Try.func4, Try.ntmps4
  go_wp2_with fail
  refine (runs_ok _ _ l _ hcap hcm h H0.out).mono ?_
  rintro e w1 ⟨pR, kR, rfl, HR, _, hb1⟩
  go_wp2_with fail
  refine (runBegun_true _).mono ?_
  rintro e w2 ⟨rfl, hb2⟩
  replace HR := HR.below hb2 (Nat.le_refl _)
  have hB := hb1.thru hb2 hb1.size
  clear hb1 hb2
  go_wp2_with fail
  go_loopw [6, 5] (fun i v wr => ∃ k : Nat, k ≤ (runsL l).length ∧ i = .int .i64 k ∧ PickRow wr w2.heap.size v (backTo l k) ∧ Below w2.heap.size w2 wr) (fun i _ _ => (runsL l).length - (intOf i).toNat)
  case atStart => exact ⟨0, Nat.zero_le _, rfl, ⟨[], rfl, World.ownsRow_nil _ _ _ _, fun i h => by simp [backTo] at h⟩, Below.refl _ _⟩
  case round =>
    obtain ⟨k, hk, rfl, hrow, hb⟩ := hrel
    have hbw := hB.thru hb hB.size
    by_cases hlt : k < (runsL l).length
    · have hi1 : (k : Int) < (runsL l).length := by omega
      have hkp : k < (pst l l.length).1.length := by rw [← HPL.out]; exact hlt
      have hpc := HI.out.each _ (List.getElem_mem hkp)
      have hrun := pc_run HOK.out hpc
      rw [← runsL_get hlt] at hrun
      have HBS := hidE (backTo_succ hkp)
      have hbl := backTo_len l (k + 1)
      have hbl0 := backTo_len l k
      rcases HR.below hb (Nat.le_refl _) with hs | ⟨rb, ro, rfl, hrb, hc⟩
      · rw [hs] at hlt; simp at hlt
      obtain ⟨p, cp, c0, c1, c2, hst, hle, htl⟩ := hc k hlt
      have HC := hidE hc
      have HLEN : Hid ((part l (pst l l.length).1[k].1 ((pst l l.length).1[k].2 - (pst l l.length).1[k].1)).length = (pst l l.length).1[k].2 - (pst l l.length).1[k].1) := part_len (by have := hpc.le; have := hpc.lt; omega)
      have hpl0 : 0 < (part l (pst l l.length).1[k].1 ((pst l l.length).1[k].2 - (pst l l.length).1[k].1)).length := by rw [HLEN.out]; have := hpc.lt; omega
      rw [HBS.out] at hbl
      generalize hPT : part l (pst l l.length).1[k].1 ((pst l l.length).1[k].2 - (pst l l.length).1[k].1) = pt at *
      obtain ⟨hr1, hr2⟩ := hrun
      have hra := runAtoms_ok p cp (runsL l)[k].path (runsL l)[k].clock (runsL l)[k].text wr hst hr1
      rw [hr2] at hra
      have HRA := hidE hra
      have HPC := hidE hpc
      clear hra hr1 hr2 hc hpc hPT
      go_wp2_with fail
      refine HRA.out.mono ?_
      rintro e w4 ⟨pA, kA, rfl, _, hrowA, hb4⟩
      have hrow4 := hrow.below hb4
      replace hrowA := hrowA.mono hb.size
      have hb24 := hb.thru hb4 hb.size
      clear hrow HRA
      have hz4 : rb < w4.heap.size := Nat.lt_of_lt_of_le hrb hb4.size
      -- what is common to all ways: the atoms are appended
      obtain ⟨rs, hrl2, hown, hrr⟩ := hrow4
      obtain ⟨qs, hql, hownA, hqr⟩ := hrowA
      obtain ⟨gA, kA', hv⟩ := owns_form hownA hpl0
      obtain ⟨rfl, rfl⟩ : pA = some ⟨gA, 0, none⟩ ∧ kA = kA' := by simpa using hv
      clear hv
      have HRR := hidE hrr
      have HQR := hidE hqr
      have HQC : Hid (∀ j u, (flatR qs)[j]? = some u → w4.cell? ⟨gA, j, none⟩ = some u) := by
        intro j u hj
        have := hownA.cells (g := gA) rfl j u hj
        rwa [Addr.add_lit, Nat.zero_add] at this
      have hqn : (flatR qs).length = pt.length * 3 := by rw [flatR_length, hql]
      clear hrr hqr
      rcases Nat.eq_zero_or_pos k with rfl | hk0
      · have hg0 : decide ((0 : Int) > 0) = false := by decide
        go_wp2_with (at_builtin; refine wpList_append_own _ rfl _ _ 27 rfl w2.heap.size 69 i0 (.agg #[.slice none 0 0, .int .i64 0, .int .u8 0]) 3 40 Try.underlying27 hi0 hz0 hz1 hz2 rfl (by decide) _ _ _ rfl hown ⟨gA, 0, none⟩ pt.length kA (flatR qs) rfl ?qa1 ?qa2 ?qa3 ?qa4 ?qa5 ?qa6 ?_)
        case qa1 => exact hqn
        case qa2 => intro j u hj; first | exact HQC.out j u hj | (rw [Addr.add_lit, Nat.zero_add]; exact HQC.out j u hj)
        case qa3 => exact flatR_one qs
        case qa4 => simp at hbl; unfold maxLen; omega
        case qa5 => simp at hbl; omega
        case qa6 => have := hb.size; have := hb4.size; omega
        intro v' w5 hown5 hgrow _
        have hrow5 : PickRow w5 w2.heap.size v' (backTo l (0 + 1)) := by
          rw [HBS.out]
          exact PickRow.append hrl2 hown HRR.out hql HQR.out hgrow hown5
        have hb5 := hb24.grown hgrow hb24.size (fun j hj => (hown.lt j hj).1)
        go_wp2_with fail
        go_roundw
        case rel => exact ⟨0 + 1, by omega, by go_num, hrow5, hb5⟩
        case measure => simp [intOf]; omega
      · obtain ⟨j, rfl⟩ : ∃ j, k = j + 1 := ⟨k - 1, by omega⟩
        obtain ⟨p', cp', d0, d1, d2, hst', hle', htl'⟩ := HC.out j (by omega)
        have hg0 : decide (((j + 1 : Nat) : Int) > 0) = true := by simp
        have hw1 : IntKind.i64.wrap (((j + 1 : Nat) : Int) - 1) = (j : Int) := by rw [IntKind.wrap_i64] <;> omega
        have hj1 : (j : Int) < (runsL l).length := by omega
        have f0 := (hb4.cell (p := ⟨rb, ro + j * 3, none⟩) hrb).trans d0
        have f1 := (hb4.cell (p := ⟨rb, ro + j * 3 + 1, none⟩) hrb).trans d1
        have f2 := (hb4.cell (p := ⟨rb, ro + j * 3 + 2, none⟩) hrb).trans d2
        have e0 := (hb4.cell (p := ⟨rb, ro + (j + 1) * 3, none⟩) hrb).trans c0
        have e1 := (hb4.cell (p := ⟨rb, ro + (j + 1) * 3 + 1, none⟩) hrb).trans c1
        have hstA := hst'.below hb4 (Nat.le_refl _)
        have hstB := hst.below hb4 (Nat.le_refl _)
        have hjp : j < (pst l l.length).1.length := by rw [← HPL.out]; omega
        have hpj := HI.out.each _ (List.getElem_mem hjp)
        have hnext := fun h60 hn => pc_next HOK.out hpj HPC.out (HI.out.link j hkp) h60 hn
        rw [← runsL_get (show j < (runsL l).length by omega), ← runsL_get hlt] at hnext
        have htl60 : (runsL l)[j].text.size ≤ 60 := by
          have := (okRun_of (pc_run HOK.out hpj).1).len
          rwa [← runsL_get (show j < (runsL l).length by omega)] at this
        have HNX := hidE hnext
        clear hnext hpj hst hst' c0 c1 c2 d0 d1 d2 HC
        generalize (runsL l)[j] = rj at *
        generalize (runsL l)[j + 1] = rk at *
        by_cases h60 : rj.text.size < 60
        · have hd6 : decide ((rj.text.size : Int) < 60) = true := by simp; omega
          have hBd : Below w4.heap.size w4 w4.drew := (Below.refl _ _).drew
          have hg4 : ((rj.text.size : Nat) : Int) ≤ 60 := by omega
          have hw2 : IntKind.i64.wrap ((j : Int) + 1 - 1) = (j : Int) := by rw [IntKind.wrap_i64] <;> omega
          have hw3 : IntKind.i64.wrap (j : Int) = (j : Int) := by rw [IntKind.wrap_i64] <;> omega
          go_upto_region 14 with fail
          go_cut [9, 10] (fun t9 t10 wc => ∃ N na nc, t9 = .pointer (some ⟨N, 0, none⟩) ∧ t10 = .int .i64 (nxt rj.path rj.clock rj.text.size).2.2 ∧ N < wc.heap.size ∧ wc.cell? ⟨N, 0, none⟩ = some (.slice na (nxt rj.path rj.clock rj.text.size).1.length nc) ∧ wc.cell? ⟨N, 1, none⟩ = some (.int .i64 (nxt rj.path rj.clock rj.text.size).2.1) ∧ StepsAt wc na (nxt rj.path rj.clock rj.text.size).1 ∧ Below w4.heap.size w4 wc)
          case first =>
            go_region_held_law (fun w' => Below w4.heap.size w4 w' ∧ w'.cell? ⟨rb, ro + j * 3, none⟩ = some (.slice p' rj.path.length cp') ∧ w'.cell? ⟨rb, ro + j * 3 + 1, none⟩ = some (.int .i64 rj.clock) ∧ w'.cell? ⟨rb, ro + j * 3 + 2, none⟩ = some (.string rj.text))
              ((refine keepR ?_ hz4 f0 f1 f2; first | exact hBd | exact hBN | exact ((Below.refl _ _).alloc (Nat.le_refl _) _).drew | exact hBN.alloc hBN.size _ | exact (hBN.setCell (by simp) _).setCell (by simp) _))
              ((go_at_call 19; refine (next_anyO _ _ rj.path _ _ _ hle' (hstA.below (And.left ‹Below w4.heap.size w4 _ ∧ _›) (Nat.le_refl _))).mono ?_; rintro e wN ⟨na, nc, rfl, hsN, hbN, hoN⟩; have hBN := (And.left ‹Below w4.heap.size w4 _ ∧ _›).thru hbN (And.left ‹Below w4.heap.size w4 _ ∧ _›).size; have cN := fun o (hh : w4.heap.size < _) => hbN.cell (p := ⟨w4.heap.size, o, none⟩) hh; have fN := fun o (hh : w4.heap.size < _) => hbN.frozen (p := ⟨w4.heap.size, o, none⟩) hh))
            · go_wp2_with fail
              go_meet
              exact ⟨wN.heap.size, na, nc, rfl, rfl, by simp, by simp, by simp, hsN.below ((Below.refl _ _).alloc (Nat.le_refl _) _) (Nat.le_refl _), hBN.alloc hBN.size _⟩
            · have y0 : wN.cell? ⟨w4.heap.size, 0, none⟩ = some (.slice none 0 0) := (cN 0 (by simp)).trans (by simp)
              have y1 : wN.cell? ⟨w4.heap.size, 1, none⟩ = some (.int .i64 0) := (cN 1 (by simp)).trans (by simp)
              have hzN : w4.heap.size < wN.heap.size := by have := hbN.size; simp at this; omega
              go_wp2_with fail
              go_meet
              exact ⟨w4.heap.size, na, nc, rfl, rfl, by simp [World.setCell]; exact hzN, by go_simp, by go_simp, nextO_set (by simp) hsN hoN, (hBN.setCell (by simp) _).setCell (by simp) _⟩
          case rest =>
            obtain ⟨N, na, nc, rfl, rfl, hN, n0, n1, hsN, hbN⟩ := hcut
            have g0 := (hbN.cell (p := ⟨rb, ro + (j + 1) * 3, none⟩) hz4).trans e0
            have g1 := (hbN.cell (p := ⟨rb, ro + (j + 1) * 3 + 1, none⟩) hz4).trans e1
            have hstX := hstB.below hbN (Nat.le_refl _)
            have k0 := cell_regrown g0
            have k1 := cell_regrown g1
            have k2 := cell_regrown n0
            have k3 := cell_regrown n1
            have hj2 : ((j : Int) + 1) < (runsL l).length := by omega
            have hw4 : ((j : Int) + 1).toNat = j + 1 := by omega
            have S1 := hidE (fun d os => hsN.below (below_regrown wc d os) (Nat.le_refl _))
            have S2 := hidE (fun d os => hstX.below (below_regrown wc d os) (Nat.le_refl _))
            clear n0 n1 g0 g1 f0 f1 f2
            have hnl : (nxt rj.path rj.clock rj.text.size).1.length ≤ maxLen := by
              unfold nxt
              split
              · exact Nat.zero_le _
              · split
                · exact Nat.zero_le _
                · split
                  · exact Nat.zero_le _
                  · rw [bump_len]; exact hle'
            by_cases hne : (nxt rj.path rj.clock rj.text.size).2.2 = 0
            · have hz := HNX.out h60 hne
              generalize nxt rj.path rj.clock rj.text.size = nx at *
              obtain ⟨nx1, nx2, nx3⟩ := nx
              simp only at hne hz hnl S1 k2 k3 hsN
              subst hne
              have hzb : (ordM nx1 nx2 rk.path rk.clock == 0) = false := beq_eq_false_iff_ne.2 hz
              have HZ := hidE hz
              clear hz
              go_upto_region 15 with fail
              refine wp_region_quiet_below (by kernel_rfl) (by kernel_rfl) ?_
              repeat (first | go_big_quiet_step ((go_at_call 20; exact Calls.regrown_of (order_any _ _ _ _ nx1 rk.path _ _ _ hnl hle (S1.out _ _) (S2.out _ _)))) | quiet_step ((go_at_call 20; exact Calls.regrown_of (order_any _ _ _ _ nx1 rk.path _ _ _ hnl hle (S1.out _ _) (S2.out _ _)))))
              refine wpQuiet_nil ?_
              intro X hw'
              obtain ⟨⟨dq, osq⟩, hw''⟩ := hw'
              have hbq : Below wc.heap.size wc X := by rw [hw'']; exact below_regrown wc dq osq
              clear hw''
              have hbX := hbN.thru hbq hbN.size
              have hownX := owns_below hown hbX
              have HQX : Hid (∀ j u, (flatR qs)[j]? = some u → X.cell? ⟨gA, j, none⟩ = some u) := fun j u hj => (hbX.cell (p := ⟨gA, j, none⟩) (hownA.lt gA rfl).2).trans (HQC.out j u hj)
              go_wp2_with (at_builtin; refine wpList_append_own _ rfl _ _ 27 rfl w2.heap.size 69 i0 (.agg #[.slice none 0 0, .int .i64 0, .int .u8 0]) 3 40 Try.underlying27 hi0 hz0 hz1 hz2 rfl (by decide) _ _ _ rfl hownX ⟨gA, 0, none⟩ pt.length kA (flatR qs) rfl ?qb1 ?qb2 ?qb3 ?qb4 ?qb5 ?qb6 ?_)
              try (case qb1 => exact hqn)
              case qb2 => intro j u hj; first | exact HQX.out j u hj | (rw [Addr.add_lit, Nat.zero_add]; exact HQX.out j u hj)
              case qb3 => exact flatR_one qs
              case qb4 => simp at hbl; unfold maxLen; omega
              case qb5 => simp at hbl; omega
              case qb6 => have := hb24.size; have := hbX.size; omega
              intro v' w5 hown5 hgrow _
              have hrow5 : PickRow w5 w2.heap.size v' (backTo l (j + 1 + 1)) := by
                rw [HBS.out]
                exact PickRow.append hrl2 hownX (fun i h h' => (HRR.out i h h').below hbX) hql (fun i h h' => (HQR.out i h h').below hbX) hgrow hown5
              have hb2X := hb24.thru hbX hb24.size
              have hb5 := hb2X.grown hgrow hb2X.size (fun j hj => (hown.lt j hj).1)
              go_wp2_with fail
              go_roundw
              case rel => exact ⟨j + 1 + 1, by omega, by go_num, hrow5, hb5⟩
              case measure => simp [intOf]; omega
            · have hneb : ((nxt rj.path rj.clock rj.text.size).2.2 == 0) = false := beq_eq_false_iff_ne.2 hne
              generalize (nxt rj.path rj.clock rj.text.size).2.2 = er at *
              clear hne
              go_upto_region 15 with fail
              refine wp_region_quiet_below (by kernel_rfl) (by kernel_rfl) ?_
              repeat (first | go_big_quiet_step (fail) | quiet_step (fail))
              refine wpQuiet_nil ?_
              intro X hw'
              obtain ⟨⟨dq, osq⟩, hw''⟩ := hw'
              have hbq : Below wc.heap.size wc X := by rw [hw'']; exact below_regrown wc dq osq
              clear hw''
              have hbX := hbN.thru hbq hbN.size
              have hownX := owns_below hown hbX
              have HQX : Hid (∀ j u, (flatR qs)[j]? = some u → X.cell? ⟨gA, j, none⟩ = some u) := fun j u hj => (hbX.cell (p := ⟨gA, j, none⟩) (hownA.lt gA rfl).2).trans (HQC.out j u hj)
              go_wp2_with (at_builtin; refine wpList_append_own _ rfl _ _ 27 rfl w2.heap.size 69 i0 (.agg #[.slice none 0 0, .int .i64 0, .int .u8 0]) 3 40 Try.underlying27 hi0 hz0 hz1 hz2 rfl (by decide) _ _ _ rfl hownX ⟨gA, 0, none⟩ pt.length kA (flatR qs) rfl ?qc1 ?qc2 ?qc3 ?qc4 ?qc5 ?qc6 ?_)
              case qc1 => exact hqn
              case qc2 => intro j u hj; first | exact HQX.out j u hj | (rw [Addr.add_lit, Nat.zero_add]; exact HQX.out j u hj)
              case qc3 => exact flatR_one qs
              case qc4 => simp at hbl; unfold maxLen; omega
              case qc5 => simp at hbl; omega
              case qc6 => have := hb24.size; have := hbX.size; omega
              intro v' w5 hown5 hgrow _
              have hrow5 : PickRow w5 w2.heap.size v' (backTo l (j + 1 + 1)) := by
                rw [HBS.out]
                exact PickRow.append hrl2 hownX (fun i h h' => (HRR.out i h h').below hbX) hql (fun i h h' => (HQR.out i h h').below hbX) hgrow hown5
              have hb2X := hb24.thru hbX hb24.size
              have hb5 := hb2X.grown hgrow hb2X.size (fun j hj => (hown.lt j hj).1)
              go_wp2_with fail
              go_roundw
              case rel => exact ⟨j + 1 + 1, by omega, by go_num, hrow5, hb5⟩
              case measure => simp [intOf]; omega
        · have hd6 : decide ((rj.text.size : Int) < 60) = false := by simp; omega
          go_wp2_with (at_builtin; refine wpList_append_own _ rfl _ _ 27 rfl w2.heap.size 69 i0 (.agg #[.slice none 0 0, .int .i64 0, .int .u8 0]) 3 40 Try.underlying27 hi0 hz0 hz1 hz2 rfl (by decide) _ _ _ rfl hown ⟨gA, 0, none⟩ pt.length kA (flatR qs) rfl ?qd1 ?qd2 ?qd3 ?qd4 ?qd5 ?qd6 ?_)
          case qd1 => exact hqn
          case qd2 => intro j u hj; first | exact HQC.out j u hj | (rw [Addr.add_lit, Nat.zero_add]; exact HQC.out j u hj)
          case qd3 => exact flatR_one qs
          case qd4 => simp at hbl; unfold maxLen; omega
          case qd5 => simp at hbl; omega
          case qd6 => have := hb.size; have := hb4.size; omega
          intro v' w5 hown5 hgrow _
          have hrow5 : PickRow w5 w2.heap.size v' (backTo l (j + 1 + 1)) := by
            rw [HBS.out]
            exact PickRow.append hrl2 hown HRR.out hql HQR.out hgrow hown5
          have hb5 := hb24.grown hgrow hb24.size (fun j hj => (hown.lt j hj).1)
          go_wp2_with fail
          go_roundw
          case rel => exact ⟨j + 1 + 1, by omega, by go_num, hrow5, hb5⟩
          case measure => simp [intOf]; omega
    · have hkl : k = (runsL l).length := by omega
      subst hkl
      have hback := hrow
      rw [HPL.out, backTo_all] at hback
      obtain ⟨pB, kB, rfl, hat, _⟩ := hback.owns.atoms (Below.refl _ _)
      go_wp2_with fail
      refine (sameAtoms_any _ _ _ _ l l _ hl hl hat (h.below hbw (Nat.le_refl _))).mono ?_
      rintro e w5 ⟨rfl, hb5⟩
      rw [sameL_refl]
      go_wp2_with fail
      go_ret
      exact ⟨rfl, hbw.thru hb5 hbw.size⟩

theorem runBack_true (a : Option Addr) (cap : Nat) (l : List At) (w : World) (hl : l.length ≤ maxLen) (hcap : l.length ≤ cap) (hcm : cap ≤ maxLen) (h : AtomsAt w a l) :
    Calls Try.prog 4 #[.slice a l.length cap] w fun e w' => e = .returned (.bool true) ∧ Below w.heap.size w w' := by
  by_cases h0 : chkL l = 0
  · exact runBack_ok a cap l w hcap hcm h h0
  · exact runBack_bad a cap l w hl h h0
end Go.Proofs.Ytcggeeejkgndmab
