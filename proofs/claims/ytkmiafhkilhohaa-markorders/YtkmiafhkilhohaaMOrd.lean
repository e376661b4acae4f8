/- MarkOrders answers true, whatever it is handed (the walk). -/
import Derived.Test.YtkmiafhkilhohaaMNext
namespace Go.Proofs.Ytkmiafhkilhohaa
open Go.RowKit

theorem boxesC (w : World) (v0 v1 u0 u1 x0 x1 : Value) (T : TypeId) : ∃ W, W = ((w.alloc (Obj.cells #[v0, v1] T)).alloc (Obj.cells #[u0, u1] T)).alloc (Obj.cells #[x0, x1] T) ∧
    Holds W [(w.heap.size, 0, v0), (w.heap.size, 1, v1), (w.heap.size + 1, 0, u0), (w.heap.size + 1, 1, u1), (w.heap.size + 1 + 1, 0, x0), (w.heap.size + 1 + 1, 1, x1)] ∧ Below w.heap.size w W := by
  refine ⟨_, rfl, ?_, (((Below.refl _ _).alloc (Nat.le_refl _) _).alloc (by simp) _).alloc (by simp; omega) _⟩
  simp only [holds_cons, holds_nil]
  exact ⟨holds_at (by go_simp), holds_at (by go_simp), holds_at (by go_simp), holds_at (by go_simp), holds_at (by go_simp), holds_at (by go_simp), trivial⟩

theorem sites_differ {pl pl' : List (Int × Int)} {x y s t c d : Int} (h : s ≠ t) : ordM (pl ++ [(x, s)]) c (pl' ++ [(y, t)]) d ≠ 0 := by
  intro e
  unfold ordM orI at e
  split at e
  · rename_i e1
    have e2 := ordP_zero e1
    have e3 : lastS (pl ++ [(x, s)]) = lastS (pl' ++ [(y, t)]) := by rw [e2]
    rw [lastS_snoc, lastS_snoc] at e3
    exact h (congrArg Prod.snd e3)
  · rename_i e1; exact e1 e

/-- what three orders of three marks may be -/
theorem three (x y z v : Int) (hv : x = -v) (hx : x = -1 ∨ x = 0 ∨ x = 1) (hy : y = -1 ∨ y = 0 ∨ y = 1) (h2 : x ≤ 0 → y < 0 → z = -1) (h3 : x < 0 → y ≤ 0 → z = -1) (h4 : x = 0 → y = z) :
    (x = 1 ∧ v = -1) ∨ (x = 0 ∧ v = 0 ∧ y = -1 ∧ z = -1) ∨ (x = 0 ∧ v = 0 ∧ y = 0 ∧ z = 0) ∨ (x = 0 ∧ v = 0 ∧ y = 1) ∨ (x = -1 ∧ v = 1 ∧ y = -1 ∧ z = -1) ∨ (x = -1 ∧ v = 1 ∧ y = 0 ∧ z = -1) ∨ (x = -1 ∧ v = 1 ∧ y = 1) := by
  have hv' : v = -x := by omega
  clear hv
  rcases hx with rfl | rfl | rfl
  · rcases hy with rfl | rfl | rfl
    · have := h2 (by decide) (by decide); simp [hv', this]
    · have := h3 (by decide) (by decide); simp [hv', this]
    · simp [hv']
  · rcases hy with rfl | rfl | rfl
    · have := h4 rfl; simp [hv', ← this]
    · have := h4 rfl; simp [hv', ← this]
    · simp [hv']
  · simp [hv']
theorem three_of (a b c : List (Int × Int) × Int) : ∃ x y z v, ordM a.1 a.2 b.1 b.2 = x ∧ ordM b.1 b.2 c.1 c.2 = y ∧ ordM a.1 a.2 c.1 c.2 = z ∧ ordM b.1 b.2 a.1 a.2 = v ∧
    ((x = 1 ∧ v = -1) ∨ (x = 0 ∧ v = 0 ∧ y = -1 ∧ z = -1) ∨ (x = 0 ∧ v = 0 ∧ y = 0 ∧ z = 0) ∨ (x = 0 ∧ v = 0 ∧ y = 1) ∨ (x = -1 ∧ v = 1 ∧ y = -1 ∧ z = -1) ∨ (x = -1 ∧ v = 1 ∧ y = 0 ∧ z = -1) ∨ (x = -1 ∧ v = 1 ∧ y = 1)) := by
  refine ⟨_, _, _, _, rfl, rfl, rfl, rfl, ?_⟩
  have hz : ordM a.1 a.2 c.1 c.2 = -1 ∨ ordM a.1 a.2 c.1 c.2 = 0 ∨ ordM a.1 a.2 c.1 c.2 = 1 := cmpM.vals a c
  exact three _ _ _ _ (cmpM.anti a b) (cmpM.vals a b) (cmpM.vals b c) (fun x y => by have : ordM a.1 a.2 c.1 c.2 < 0 := cmpM.le_lt x y; omega) (fun x y => by have : ordM a.1 a.2 c.1 c.2 < 0 := cmpM.lt_le x y; omega) (fun x => cmpM.eqv a b c x)

theorem orderIs (a a' : Option Addr) (cap cap' : Nat) (l m : List (Int × Int)) (c d : Int) (w : World) (hl : l.length ≤ maxLen) (hm : m.length ≤ maxLen) (h : StepsAt w a l) (h' : StepsAt w a' m) (x : Int) (hn : ordM l c m d = x) :
    Calls Try.prog 14 #[.agg #[.slice a l.length cap, .int .i64 c], .agg #[.slice a' m.length cap', .int .i64 d]] w fun e w' => e = .returned (.int .i64 x) ∧ Below w.heap.size w w' := by
  rw [← hn]; exact order_any a a' cap cap' l m c d w hl hm h h'

set_option maxRecDepth 100000 in
set_option maxHeartbeats 2000000 in
theorem markOrders_true (a b c : Option Addr) (ka kb kc : Nat) (la lb lc : List (Int × Int)) (ca cb cc site other clock many : Int) (w : World) (hla : la.length ≤ maxLen) (hlb : lb.length ≤ maxLen) (hlc : lc.length ≤ maxLen)
   (hka : la.length ≤ ka) (hkb : lb.length ≤ kb) (ha : StepsAt w a la) (hb : StepsAt w b lb) (hc : StepsAt w c lc) :
    Calls Try.prog 5 #[.agg #[.slice a la.length ka, .int .i64 ca], .agg #[.slice b lb.length kb, .int .i64 cb], .agg #[.slice c lc.length kc, .int .i64 cc], .int .i64 site, .int .i64 other, .int .i64 clock, .int .i64 many] w fun e w' => e = .returned (.bool true) ∧ Below w.heap.size w w' := by
  obtain ⟨W, hW, HH, hb0⟩ := boxesC w (.slice a la.length ka) (.int .i64 ca) (.slice b lb.length kb) (.int .i64 cb) (.slice c lc.length kc) (.int .i64 cc) 24
  have HW := hidE hW
  clear hW
  go_enter Try.func5, Try.ntmps5
  go_upto_region 1 with fail
  rw [← HW.out]
  clear HW
  go_wp2_with fail
  refine (markBegun_true _).mono ?_
  rintro e w1 ⟨rfl, hb1⟩
  replace HH := HH.below hb1 (Nat.le_refl _)
  replace hb0 := hb0.thru hb1 hb0.size
  clear hb1
  have haU := ha.below hb0 (Nat.le_refl _)
  have hbU := hb.below hb0 (Nat.le_refl _)
  have hcU := hc.below hb0 (Nat.le_refl _)
  obtain ⟨x, y, z, v, hx, hy, hz, hv, hcase⟩ := three_of (la, ca) (lb, cb) (lc, cc)
  simp only at hx hy hz hv
  have HX := hidE hx
  have HY := hidE hy
  have HZ := hidE hz
  have HV := hidE hv
  clear hx hy hz hv
  go_upto_region 3 with fail
  go_cut [15, 16, 17] (fun t1 t2 t3 we => t1 = .int .i64 x ∧ t2 = .int .i64 y ∧ t3 = .int .i64 z ∧ Below w1.heap.size w1 we)
  case first =>
    have X := HH
    simp only [holds_cons, holds_nil] at X
    obtain ⟨⟨_, p0⟩, ⟨_, p1⟩, ⟨_, p2⟩, ⟨_, p3⟩, ⟨_, p4⟩, ⟨_, p5⟩, _⟩ := X
    have k0 := cell_regrown p0
    have k1 := cell_regrown p1
    have k2 := cell_regrown p2
    have k3 := cell_regrown p3
    have k4 := cell_regrown p4
    have k5 := cell_regrown p5
    have sa : ∀ d os, StepsAt (Go.Sort.grow (redrawn w1 d) os) a la := fun d os => haU.below (below_regrown _ _ _) (Nat.le_refl _)
    have sb : ∀ d os, StepsAt (Go.Sort.grow (redrawn w1 d) os) b lb := fun d os => hbU.below (below_regrown _ _ _) (Nat.le_refl _)
    have sc : ∀ d os, StepsAt (Go.Sort.grow (redrawn w1 d) os) c lc := fun d os => hcU.below (below_regrown _ _ _) (Nat.le_refl _)
    have SA := hidE sa
    have SB := hidE sb
    have SC := hidE sc
    clear sa sb sc
    refine wp_region_quiet_below (by kernel_rfl) (by kernel_rfl) ?_
    repeat (first | go_big_quiet_step ((go_at_call 14; exact Calls.regrown_of (orderIs _ _ _ _ _ _ _ _ _ (by first | exact hla | exact hlb) (by first | exact hlb | exact hlc) (by first | exact SA.out _ _ | exact SB.out _ _) (by first | exact SB.out _ _ | exact SC.out _ _) _ (by first | exact HX.out | exact HY.out | exact HZ.out)))) | quiet_step ((go_at_call 14; exact Calls.regrown_of (orderIs _ _ _ _ _ _ _ _ _ (by first | exact hla | exact hlb) (by first | exact hlb | exact hlc) (by first | exact SA.out _ _ | exact SB.out _ _) (by first | exact SB.out _ _ | exact SC.out _ _) _ (by first | exact HX.out | exact HY.out | exact HZ.out)))))
    refine wpQuiet_nil ?_
    intro _ hw'
    obtain ⟨⟨dq, osq⟩, hw''⟩ := hw'
    subst hw''
    go_wp2_with fail
    go_meet
    exact ⟨rfl, rfl, rfl, below_regrown _ _ _⟩
  case rest =>
    obtain ⟨rfl, rfl, rfl, hb1⟩ := hcut
    replace HH := HH.below hb1 (Nat.le_refl _)
    replace hb0 := hb0.thru hb1 hb0.size
    clear haU hbU hcU hb1
    have haU := ha.below hb0 (Nat.le_refl _)
    have hbU := hb.below hb0 (Nat.le_refl _)
    go_upto_region 4 with fail
    go_cut [76] (fun t we => t = .bool false ∧ Below wc.heap.size wc we)
    case first =>
      have X := HH
      simp only [holds_cons, holds_nil] at X
      obtain ⟨⟨_, p0⟩, ⟨_, p1⟩, ⟨_, p2⟩, ⟨_, p3⟩, ⟨_, p4⟩, ⟨_, p5⟩, _⟩ := X
      rcases hcase with ⟨rfl, rfl⟩ | ⟨rfl, rfl, rfl, rfl⟩ | ⟨rfl, rfl, rfl, rfl⟩ | ⟨rfl, rfl, rfl⟩ | ⟨rfl, rfl, rfl, rfl⟩ | ⟨rfl, rfl, rfl, rfl⟩ | ⟨rfl, rfl, rfl⟩
      all_goals
        go_wp2_with fail
        refine (orderIs _ _ _ _ _ _ _ _ _ hlb hla hbU haU _ HV.out).mono ?_
        rintro e w2 ⟨rfl, hb1⟩
        go_wp2_with fail
        go_meet
        exact ⟨rfl, hb1⟩
    case rest =>
      obtain ⟨rfl, hb1⟩ := hcut
      replace HH := HH.below hb1 (Nat.le_refl _)
      replace hb0 := hb0.thru hb1 hb0.size
      clear haU hbU hb1 HX HY HZ HV hcase
      have haU := ha.below hb0 (Nat.le_refl _)
      have hbU := hb.below hb0 (Nat.le_refl _)
      have X := HH
      simp only [holds_cons, holds_nil] at X
      obtain ⟨⟨_, p0⟩, ⟨_, p1⟩, ⟨_, p2⟩, ⟨_, p3⟩, _⟩ := X
      go_wp2_with fail
      refine (between_fn _ _ _ _ la lb _ _ _ _ _ _ hla hlb hka hkb haU hbU).mono ?_
      rintro e w2 ⟨hb1, ⟨hne, rfl⟩ | ⟨he, O, pl, r, rfl, hmk, hcand, r1, r2⟩⟩
      all_goals
        replace HH := HH.below hb1 (Nat.le_refl _)
        replace hb0 := hb0.thru hb1 hb0.size
        clear haU hbU p0 p1 p2 p3
        have haU := ha.below hb0 (Nat.le_refl _)
        have hbU := hb.below hb0 (Nat.le_refl _)
        have X := HH
        simp only [holds_cons, holds_nil] at X
        obtain ⟨⟨_, p0⟩, ⟨_, p1⟩, ⟨_, p2⟩, ⟨_, p3⟩, _⟩ := X
      · generalize btwErr la ca lb cb site clock many = er at hne ⊢
        have hne' : (er != 0) = true := by rw [bne_iff_ne]; exact hne
        clear hne
        go_wp2_with fail
        refine (between_fn _ _ _ _ la lb _ _ _ _ _ _ hla hlb hka hkb haU hbU).mono ?_
        rintro e w3 ⟨hb2, ⟨hne, rfl⟩ | ⟨he, O, pl, r, rfl, hmk, hcand, r1, r2⟩⟩
        all_goals
          go_wp2
          go_ret
          exact ⟨rfl, hb0.thru hb2 hb0.size⟩
      · clear hcand r1 r2 he
        go_wp2_with fail
        refine (between_fn _ _ _ _ la lb _ _ _ _ _ _ hla hlb hka hkb haU hbU).mono ?_
        rintro e w3 ⟨hb2, ⟨hne, rfl⟩ | ⟨he2, O2, pl2, rr, rfl, hmk2, hcand, r1, r2⟩⟩
        · generalize btwErr la ca lb cb other clock many = er at hne ⊢
          have hne' : (er != 0) = true := by rw [bne_iff_ne]; exact hne
          clear hne
          go_wp2
          go_ret
          exact ⟨rfl, hb0.thru hb2 hb0.size⟩
        · obtain ⟨_, hargs, _⟩ := btwErr_zero he2
          obtain ⟨_, _, _, _, m1, m2⟩ := argsOk_iff hargs
          clear hcand r1 r2 he2 hargs
          replace hmk := hmk.below hb2 (Nat.le_refl _)
          replace hb0 := hb0.thru hb2 hb0.size
          clear hb2 p0 p1 p2 p3 haU hbU HH hb1
          obtain ⟨mn, rfl⟩ := Int.eq_ofNat_of_zero_le (show 0 ≤ many by omega)
          simp only [Int.toNat_natCast] at hmk hmk2 ⊢
          by_cases hso : site = other
          · have hso' : (site == other) = true := by rw [hso]; simp
            go_wp2
            go_ret
            exact ⟨rfl, hb0⟩
          · have hso' : (site == other) = false := beq_eq_false_iff_ne.2 hso
            have HSO := hidE hso
            clear hso
            have hlen := rowOf_length pl r site clock mn
            have hlen2 := rowOf_length pl2 rr other clock mn
            have HLn := hidE hlen
            have HLn2 := hidE hlen2
            clear hlen hlen2
            go_wp2
            go_loopw [22] (fun i wr => ∃ k : Nat, k ≤ mn ∧ i = .int .i64 k ∧ Below w3.heap.size w3 wr) (fun i _ => mn - (intOf i).toNat)
            case atStart => exact ⟨0, Nat.zero_le _, rfl, Below.refl _ _⟩
            case round =>
              obtain ⟨i, hi, rfl, hbr⟩ := hrel
              by_cases hlt : i < mn
              · have hi1 : (i : Int) < mn := by omega
                have hil : i < (rowOf pl r site clock mn).length := by rw [HLn.out]; exact hlt
                go_wp2
                go_loopw [23] (fun j wq => ∃ k : Nat, k ≤ mn ∧ j = .int .i64 k ∧ Below w3.heap.size w3 wq) (fun j _ => mn - (intOf j).toNat)
                case atStart => exact ⟨0, Nat.zero_le _, rfl, hbr⟩
                case round =>
                  obtain ⟨j, hj, rfl, hbq⟩ := hrel
                  by_cases hltj : j < mn
                  · have hj1 : (j : Int) < mn := by omega
                    have hjl : j < (rowOf pl2 rr other clock mn).length := by rw [HLn2.out]; exact hltj
                    rcases hmk.below hbq (Nat.le_refl _) with hs | ⟨mb, mo, hmm, hmb, hmc⟩
                    · rw [hs] at hil; simp at hil
                    rcases hmk2.below hbq (Nat.le_refl _) with hs | ⟨mb', mo', hmm', hmb', hmc'⟩
                    · rw [hs] at hjl; simp at hjl
                    simp only [Option.some.injEq, Addr.mk.injEq] at hmm hmm'
                    obtain ⟨rfl, rfl, _⟩ := hmm
                    obtain ⟨rfl, rfl, _⟩ := hmm'
                    obtain ⟨q1, c1, e0, e1, hs1, hle1⟩ := hmc i hil
                    obtain ⟨q2, c2, e2, e3, hs2, hle2⟩ := hmc' j hjl
                    rw [Nat.zero_add] at e0 e1 e2 e3
                    have hne := sites_differ (pl := pl) (pl' := pl2) (x := r + i) (y := rr + j) (c := clock + i) (d := clock + j) HSO.out
                    have g1 := rowOf_get pl r site clock mn i hil
                    have g2 := rowOf_get pl2 rr other clock mn j hjl
                    rw [g1] at e0 e1 hs1 hle1
                    rw [g2] at e2 e3 hs2 hle2
                    simp only at e0 e1 e2 e3 hs1 hs2 hle1 hle2
                    generalize pl ++ [(r + (i : Int), site)] = l1 at e0 e1 hs1 hle1 hne
                    generalize pl2 ++ [(rr + (j : Int), other)] = l2 at e2 e3 hs2 hle2 hne
                    have hne' : (ordM l1 (clock + i) l2 (clock + j) == 0) = false := beq_eq_false_iff_ne.2 hne
                    have k0 := cell_regrown e0
                    have k1 := cell_regrown e1
                    have k2 := cell_regrown e2
                    have k3 := cell_regrown e3
                    have S1 := hidE (fun d os => hs1.below (below_regrown wr d os) (Nat.le_refl _))
                    have S2 := hidE (fun d os => hs2.below (below_regrown wr d os) (Nat.le_refl _))
                    clear g1 g2 hmc hmc' hmk hmk2 hs1 hs2 hne
                    go_wp2
                    refine wp_region_quiet_below (by kernel_rfl) (by kernel_rfl) ?_
                    repeat (first | go_big_quiet_step ((go_at_call 14; exact Calls.regrown_of (order_any _ _ _ _ l1 l2 _ _ _ hle1 hle2 (S1.out _ _) (S2.out _ _)))) | quiet_step ((go_at_call 14; exact Calls.regrown_of (order_any _ _ _ _ l1 l2 _ _ _ hle1 hle2 (S1.out _ _) (S2.out _ _)))))
                    refine wpQuiet_nil ?_
                    intro _ hw'
                    obtain ⟨⟨dq, osq⟩, hw''⟩ := hw'
                    subst hw''
                    go_wp2
                    go_roundw
                    case rel => exact ⟨j + 1, by omega, by go_num, hbq.thru (below_regrown _ _ _) hbq.size⟩
                    case measure => simp [intOf]; omega
                  · go_wp2
                    go_roundw
                    case rel => exact ⟨i + 1, by omega, by go_num, hbq⟩
                    case measure => simp [intOf]; omega
              · go_wp2
                go_ret
                exact ⟨rfl, hb0.thru hbr hb0.size⟩
end Go.Proofs.Ytkmiafhkilhohaa
