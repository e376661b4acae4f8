/- Contract of state.Check. -/
import Derived.Test.YtnhjebdlcbhkcacGreatThere
namespace Go.Proofs.YtnhjebdlcbhkcacGreat
open Go.RowKit

/-- what Check of one mark that is gone answers, behind another (none ahead: the first) -/
def chkGn (l : List At) (prev : Option (List (Int × Int) × Int)) (x : List (Int × Int) × Int) : Int :=
  if chk x.1 x.2 ≠ 0 then chk x.1 x.2 else if (match prev with | none => false | some y => decide (0 ≤ ordM y.1 y.2 x.1 x.2)) || hasMk l x.1 x.2 then 4 else 0
def chkGF (l : List At) (prev : Option (List (Int × Int) × Int)) : List (List (Int × Int) × Int) → Int
  | [] => 0
  | x :: g => if chkGn l prev x ≠ 0 then chkGn l prev x else chkGF l (some x) g
/-- what Check of a state answers -/
def chkS (l : List At) (g : List (List (Int × Int) × Int)) : Int := if chkL l ≠ 0 then chkL l else if 600 < g.length then 2 else chkGF l none g

theorem chkGF_cons (l : List At) (prev : Option (List (Int × Int) × Int)) (x : List (Int × Int) × Int) (g : List (List (Int × Int) × Int)) : chkGF l prev (x :: g) = if chkGn l prev x ≠ 0 then chkGn l prev x else chkGF l (some x) g := rfl
def prevM (l : List (List (Int × Int) × Int)) (k : Nat) : Option (List (Int × Int) × Int) := if k = 0 then none else l[k - 1]?

set_option maxRecDepth 100000 in
set_option maxHeartbeats 4000000 in
theorem stateCheck_any (a b : Option Addr) (cap cap' : Nat) (l : List At) (g : List (List (Int × Int) × Int)) (w : World) (hl : l.length ≤ maxLen) (h : AtomsAt w a l) (h' : MarksAt w b g) :
    Calls Tryz.prog 15 #[.agg #[.slice a l.length cap, .slice b g.length cap']] w fun e w' => e = .returned (.int .i64 (chkS l g)) ∧ Below w.heap.size w w' := by
  have hB := (Below.refl w.heap.size w).alloc (Nat.le_refl _) (Obj.cells #[.slice a l.length cap, .slice b g.length cap'] 25)
  have q0 : (w.alloc (Obj.cells #[.slice a l.length cap, .slice b g.length cap'] 25)).cell? ⟨w.heap.size, 0, none⟩ = some (.slice a l.length cap) := by simp
  have q1 : (w.alloc (Obj.cells #[.slice a l.length cap, .slice b g.length cap'] 25)).cell? ⟨w.heap.size, 1, none⟩ = some (.slice b g.length cap') := by simp
  have z : w.heap.size < (w.alloc (Obj.cells #[.slice a l.length cap, .slice b g.length cap'] 25)).heap.size := by simp
  replace h := h.below hB (Nat.le_refl _)
  replace h' := h'.below hB (Nat.le_refl _)
  go_enter Tryz.func15, Tryz.ntmps15
  go_upto_region 1 with fail
  generalize w.alloc (Obj.cells #[.slice a l.length cap, .slice b g.length cap'] 25) = W at hB q0 q1 z h h' ⊢
  generalize w.heap.size = Z at q0 q1 z
  go_wp2_with fail
  refine (atomCheck_any _ _ l _ hl h).mono ?_
  rintro e w1 ⟨rfl, hb⟩
  replace q0 := (hb.cell (p := ⟨Z, 0, none⟩) z).trans q0
  replace q1 := (hb.cell (p := ⟨Z, 1, none⟩) z).trans q1
  replace z := Nat.lt_of_lt_of_le z hb.size
  replace h := h.below hb (Nat.le_refl _)
  replace h' := h'.below hb (Nat.le_refl _)
  replace hB := hB.thru hb hB.size
  clear hb
  by_cases hc : chkL l = 0
  case neg =>
    have hcb : (chkL l != 0) = true := by rw [bne_iff_ne]; exact hc
    have HA : Hid (chkS l g = chkL l) := by show _ = _; unfold chkS; rw [if_pos hc]
    clear hc
    go_wp2_with fail
    go_ret
    exact ⟨ret_int HA.out.symm, hB⟩
  have HOK := hidE (okL_of hc)
  have HC0 := hidE hc
  rw [hc]
  clear hc
  by_cases h600 : 600 < g.length
  · have hd : ((g.length : Int) > 600) := by omega
    have HA : Hid (chkS l g = 2) := by show _ = _; unfold chkS; rw [if_neg (by rw [HC0.out]; decide), if_pos h600]
    go_wp2_with fail
    go_ret
    exact ⟨ret_int HA.out.symm, hB⟩
  have hd : ¬ ((g.length : Int) > 600) := by omega
  have HC : Hid (chkS l g = chkGF l none g) := by show _ = _; unfold chkS; rw [if_neg (by rw [HC0.out]; decide), if_neg h600]
  go_wp2_with fail
  go_loopw [20] (fun i wr => ∃ k : Nat, k ≤ g.length ∧ i = .int .i64 k ∧ chkGF l (prevM g k) (g.drop k) = chkGF l none g ∧ Below w1.heap.size w1 wr) (fun i _ => g.length - (intOf i).toNat)
  case atStart => exact ⟨0, Nat.zero_le _, rfl, rfl, Below.refl _ _⟩
  case round =>
    obtain ⟨k, hk, rfl, hck, hb⟩ := hrel
    have HK := hidE hck
    clear hck
    replace hB := hB.thru hb hB.size
    by_cases hlt : k < g.length
    · replace q0 := (hb.cell (p := ⟨Z, 0, none⟩) z).trans q0
      replace q1 := (hb.cell (p := ⟨Z, 1, none⟩) z).trans q1
      replace z := Nat.lt_of_lt_of_le z hb.size
      replace h := h.below hb (Nat.le_refl _)
      rcases h'.below hb (Nat.le_refl _) with hs | ⟨ab, ao, rfl, hab, hc⟩
      · simp [hs] at hlt
      have hcons : Hid (chkGF l (prevM g k) (g.drop k) = if chkGn l (prevM g k) g[k] ≠ 0 then chkGn l (prevM g k) g[k] else chkGF l (some g[k]) (g.drop (k + 1))) := by
        show _ = _
        rw [List.drop_eq_getElem_cons hlt, chkGF_cons]
      have hnext : Hid (prevM g (k + 1) = some g[k]) := by
        show _ = _
        unfold prevM; rw [if_neg (by omega), Nat.add_sub_cancel, List.getElem?_eq_getElem hlt]
      obtain ⟨p, cp, c0, c1, hst, hle⟩ := hc k hlt
      have HP : Hid (chkGn l (prevM g k) g[k] = chkGn l (prevM g k) (g[k].1, g[k].2)) := rfl
      have hi1 : (k : Int) < g.length := by omega
      have HAll := hidE hc
      generalize g[k].1 = pk at *
      generalize g[k].2 = ck at *
      clear hc h'
      go_upto_region 9 with fail
      have hbA : Below wr.heap.size wr (wr.alloc (Obj.cells #[.slice p pk.length cp, .int .i64 ck] 46)) := (Below.refl _ _).alloc (Nat.le_refl _) _
      have m0 : (wr.alloc (Obj.cells #[.slice p pk.length cp, .int .i64 ck] 46)).cell? ⟨wr.heap.size, 0, none⟩ = some (.slice p pk.length cp) := by simp
      have m1 : (wr.alloc (Obj.cells #[.slice p pk.length cp, .int .i64 ck] 46)).cell? ⟨wr.heap.size, 1, none⟩ = some (.int .i64 ck) := by simp
      have zm : wr.heap.size < (wr.alloc (Obj.cells #[.slice p pk.length cp, .int .i64 ck] 46)).heap.size := by simp
      generalize wr.alloc (Obj.cells #[.slice p pk.length cp, .int .i64 ck] 46) = wA at hbA m0 m1 zm ⊢
      go_wp2_with fail
      refine (check_any _ _ pk _ _ hle (hst.below hbA (Nat.le_refl _))).mono ?_
      rintro e w2 ⟨rfl, hb2⟩
      replace m0 := (hb2.cell (p := ⟨wr.heap.size, 0, none⟩) zm).trans m0
      replace m1 := (hb2.cell (p := ⟨wr.heap.size, 1, none⟩) zm).trans m1
      have hbW : Below wr.heap.size wr w2 := hbA.thru hb2 hbA.size
      replace q0 := (hbW.cell (p := ⟨Z, 0, none⟩) z).trans q0
      replace q1 := (hbW.cell (p := ⟨Z, 1, none⟩) z).trans q1
      replace h := h.below hbW (Nat.le_refl _)
      have hB2 := hB.thru hbW hB.size
      have hb2w := hb.thru hbW hb.size
      replace hst := hst.below hbW (Nat.le_refl _)
      clear hbA hb2 hb c0 c1
      have HR : Hid (chkS l g = if chkGn l (prevM g k) (pk, ck) ≠ 0 then chkGn l (prevM g k) (pk, ck) else chkGF l (some g[k]) (g.drop (k + 1))) := by
        show _ = _
        rw [HC.out, ← HK.out, hcons.out, HP.out]
      have HCC := hidE HC.out
      clear HC HP hcons
      by_cases hc0 : chk pk ck = 0
      case neg =>
        have hcb : (chk pk ck != 0) = true := by rw [bne_iff_ne]; exact hc0
        have HA : Hid (chkS l g = chk pk ck) := by
          show _ = _
          have : chkGn l (prevM g k) (pk, ck) = chk pk ck := by unfold chkGn; rw [if_pos hc0]
          rw [HR.out, this, if_pos hc0]
        clear hc0
        go_wp2_with fail
        go_ret
        exact ⟨ret_int HA.out.symm, hB2⟩
      rw [hc0]
      have HA : Hid (chkGn l (prevM g k) (pk, ck) = if (match prevM g k with | none => false | some y => decide (0 ≤ ordM y.1 y.2 pk ck)) || hasMk l pk ck then 4 else 0) := by
        show _ = _
        unfold chkGn
        rw [if_neg (by simpa using hc0)]
      clear hc0
      have k2 := cell_regrown m0
      have k3 := cell_regrown m1
      have k4 := cell_regrown q0
      have k5 := cell_regrown q1
      have S2 := hidE (fun d os => hst.below (below_regrown w2 d os) (Nat.le_refl _))
      have S3 := hidE (fun d os => h.below (below_regrown w2 d os) (Nat.le_refl _))
      rcases Nat.eq_zero_or_pos k with rfl | hk0
      · have hgz : decide ((0 : Int) > 0) = false := by decide
        go_upto_region 12 with fail
        refine wp_region_quiet_below (by kernel_rfl) (by kernel_rfl) ?_
        repeat (first | go_big_quiet_step ((go_at_call 47; exact Calls.regrown_of (isThere_ok _ _ _ _ l pk _ _ HOK.out hle (S3.out _ _) (S2.out _ _)))) | quiet_step ((go_at_call 47; exact Calls.regrown_of (isThere_ok _ _ _ _ l pk _ _ HOK.out hle (S3.out _ _) (S2.out _ _)))))
        refine wpQuiet_nil ?_
        intro _ hw'
        obtain ⟨⟨dq, osq⟩, hw''⟩ := hw'
        subst hw''
        clear k2 k3 k4 k5
        cases hhas : hasMk l pk ck
        · have HF : Hid (chkGF l (some g[0]) (g.drop 1) = chkGF l none g) := by
            show _ = _
            rw [← HCC.out, HR.out, HA.out, hhas]
            rfl
          clear hhas
          go_wp2
          go_roundw
          case rel => exact ⟨1, by omega, by go_num, by rw [hnext.out, HF.out], hb2w.thru (below_regrown _ _ _) hb2w.size⟩
          case measure => simp [intOf]; omega
        · have HF : Hid (chkS l g = 4) := by show _ = _; rw [HR.out, HA.out, hhas]; rfl
          clear hhas
          go_wp2
          go_ret
          exact ⟨ret_int HF.out.symm, hB2.thru (below_regrown _ _ _) hB2.size⟩
      · obtain ⟨j, rfl⟩ : ∃ j, k = j + 1 := ⟨k - 1, by omega⟩
        obtain ⟨py, cy, c0, c1, hsy, hly⟩ := HAll.out j (by omega)
        have d0 := (hbW.cell (p := ⟨ab, ao + j * 2, none⟩) hab).trans c0
        have d1 := (hbW.cell (p := ⟨ab, ao + j * 2 + 1, none⟩) hab).trans c1
        have hpv : Hid (prevM g (j + 1) = some g[j]) := by
          show _ = _
          unfold prevM; rw [if_neg (by omega), Nat.add_sub_cancel, List.getElem?_eq_getElem (by omega)]
        have HA3 : Hid (chkGn l (prevM g (j + 1)) (pk, ck) = if decide (0 ≤ ordM g[j].1 g[j].2 pk ck) || hasMk l pk ck then 4 else 0) := by
          show _ = _
          rw [HA.out, hpv.out]
        have k0 := cell_regrown d0
        have k1 := cell_regrown d1
        have S1 := hidE (fun d os => (hsy.below hbW (Nat.le_refl _)).below (below_regrown w2 d os) (Nat.le_refl _))
        clear c0 c1 HA hsy hst
        generalize g[j].1 = lp at d0 d1 hly HA3 k0 S1
        generalize g[j].2 = lc at d0 d1 HA3 k1
        have hw1 : IntKind.i64.wrap (((j + 1 : Nat) : Int) - 1) = (j : Int) := by rw [IntKind.wrap_i64] <;> omega
        have hgz : decide (((j + 1 : Nat) : Int) > 0) = true := by simp
        have hj1 : (j : Int) < g.length := by omega
        go_upto_region 12 with fail
        by_cases ho : 0 ≤ ordM lp lc pk ck
        · have ho' : decide (ordM lp lc pk ck ≥ 0) = true := decide_eq_true ho
          have HF : Hid (chkS l g = 4) := by show _ = _; rw [HR.out, HA3.out, decide_eq_true ho, Bool.true_or, if_pos rfl, if_pos (by decide)]
          clear ho
          refine wp_region_quiet_below (by kernel_rfl) (by kernel_rfl) ?_
          repeat (first | go_big_quiet_step ((go_at_call 46; exact Calls.regrown_of (order_any _ _ _ _ lp pk _ _ _ hly hle (S1.out _ _) (S2.out _ _)))) | quiet_step ((go_at_call 46; exact Calls.regrown_of (order_any _ _ _ _ lp pk _ _ _ hly hle (S1.out _ _) (S2.out _ _)))))
          refine wpQuiet_nil ?_
          intro _ hw'
          obtain ⟨⟨dq, osq⟩, hw''⟩ := hw'
          subst hw''
          go_wp2
          go_ret
          exact ⟨ret_int HF.out.symm, hB2.thru (below_regrown _ _ _) hB2.size⟩
        · have ho' : decide (ordM lp lc pk ck ≥ 0) = false := decide_eq_false ho
          have HNO := hidE (decide_eq_false ho)
          clear ho
          refine wp_region_quiet_below (by kernel_rfl) (by kernel_rfl) ?_
          repeat (first | go_big_quiet_step (first | (go_at_call 46; exact Calls.regrown_of (order_any _ _ _ _ lp pk _ _ _ hly hle (S1.out _ _) (S2.out _ _))) | (go_at_call 47; exact Calls.regrown_of (isThere_ok _ _ _ _ l pk _ _ HOK.out hle (S3.out _ _) (S2.out _ _)))) | quiet_step (first | (go_at_call 46; exact Calls.regrown_of (order_any _ _ _ _ lp pk _ _ _ hly hle (S1.out _ _) (S2.out _ _))) | (go_at_call 47; exact Calls.regrown_of (isThere_ok _ _ _ _ l pk _ _ HOK.out hle (S3.out _ _) (S2.out _ _)))))
          refine wpQuiet_nil ?_
          intro _ hw'
          obtain ⟨⟨dq, osq⟩, hw''⟩ := hw'
          subst hw''
          clear k0 k1 k2 k3 k4 k5
          cases hhas : hasMk l pk ck
          · have HF : Hid (chkGF l (some g[j + 1]) (g.drop (j + 1 + 1)) = chkGF l none g) := by
              show _ = _
              rw [← HCC.out, HR.out, HA3.out, hhas, HNO.out]
              rfl
            clear hhas
            go_wp2
            go_roundw
            case rel => exact ⟨j + 1 + 1, by omega, by go_num, by rw [hnext.out, HF.out], hb2w.thru (below_regrown _ _ _) hb2w.size⟩
            case measure => simp [intOf]; omega
          · have HF : Hid (chkS l g = 4) := by show _ = _; rw [HR.out, HA3.out, hhas, HNO.out]; rfl
            clear hhas
            go_wp2
            go_ret
            exact ⟨ret_int HF.out.symm, hB2.thru (below_regrown _ _ _) hB2.size⟩
    · have HF : Hid (chkS l g = 0) := by show _ = _; rw [HC.out, ← HK.out, List.drop_eq_nil_of_le (by omega)]; rfl
      go_wp2
      go_ret
      exact ⟨ret_int HF.out.symm, hB⟩
end Go.Proofs.YtnhjebdlcbhkcacGreat
