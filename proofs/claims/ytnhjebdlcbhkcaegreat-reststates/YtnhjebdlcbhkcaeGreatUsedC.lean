/- The plain order of marks, and what lies between two of them. No Go text is walked here. -/
import Derived.Test.YtnhjebdlcbhkcaeGreatIsBtw
import Derived.Test.YtnhjebdlcbhkcaeGreatSearch
import Derived.Test.YtnhjebdlcbhkcaeGreatStateCk
namespace Go.Proofs.YtnhjebdlcbhkcaeGreat

theorem beg_in {l : List (Int × Int)} {n : Nat} (h : n ≤ l.length) : beg l n = l.take n := by
  unfold beg; rw [show n - l.length = 0 by omega]; simp
theorem beg_cons (s : Int × Int) (l : List (Int × Int)) (n : Nat) : beg (s :: l) (n + 1) = s :: beg l n := by
  unfold beg; simp

theorem above_cut {la : List (Int × Int)} {n : Nat} {d site : Int} (hn : n < la.length) (h : lowB la[n] site ≤ d) : ordP la (la.take n ++ [(d, site)]) = -1 := by
  have e : la = la.take n ++ la[n] :: la.drop (n + 1) := by rw [← List.drop_eq_getElem_cons hn, List.take_append_drop]
  have : ordP (la.take n ++ la[n] :: la.drop (n + 1)) (la.take n ++ [(d, site)]) = -1 := by
    rw [ordP_same]
    refine ordP_one _ _ (ordS_of ?_)
    unfold lowB at h
    simp only
    split at h <;> omega
  rwa [← e] at this
theorem below_cut {lb : List (Int × Int)} {n : Nat} {d site : Int} (hn : n < lb.length) (h : d ≤ highA lb[n] site) : ordP (lb.take n ++ [(d, site)]) lb = -1 := by
  have e : lb = lb.take n ++ lb[n] :: lb.drop (n + 1) := by rw [← List.drop_eq_getElem_cons hn, List.take_append_drop]
  have : ordP (lb.take n ++ [(d, site)]) (lb.take n ++ lb[n] :: lb.drop (n + 1)) = -1 := by
    rw [ordP_same]
    refine ordP_one _ _ (ordS_of ?_)
    unfold highA at h
    simp only
    split at h <;> omega
  rwa [← e] at this
theorem above_long {la : List (Int × Int)} {n : Nat} {x : Int × Int} (hn : la.length ≤ n) : ordP la (beg la n ++ [x]) = -1 := by
  unfold beg
  rw [List.take_of_length_le hn, List.append_assoc]
  have := ordP_same la [] (List.replicate (n - la.length) (0, 0) ++ [x])
  rw [List.append_nil] at this
  rw [this]
  cases h : List.replicate (n - la.length) ((0 : Int), (0 : Int)) ++ [x] with
  | nil => simp at h
  | cons s l => rfl
theorem above_other {la : List (Int × Int)} : ∀ {lb : List (Int × Int)} {n : Nat} {x : Int × Int}, ordP la lb = -1 → ¬ (n < la.length ∧ la.take n = lb.take n) → ordP la (lb.take n ++ [x]) = -1 := by
  induction la with
  | nil =>
    intro lb n x _ _
    cases h : lb.take n ++ [x] with
    | nil => simp at h
    | cons s l => rfl
  | cons s la ih =>
    intro lb n x h hno
    cases n with
    | zero => exact absurd ⟨by simp, by simp⟩ hno
    | succ n =>
      cases lb with
      | nil => simp [ordP] at h
      | cons t lb =>
        simp only [ordP] at h
        simp only [List.take_succ_cons, List.cons_append, ordP]
        split at h
        · rename_i e
          rw [if_pos e]
          have e2 := (ordS_zero_iff s t).1 e
          refine ih h (fun ⟨h1, h2⟩ => hno ⟨by simpa using h1, by simp [e2, h2]⟩)
        · rename_i e; rw [if_neg e]; exact h
theorem below_zeros : ∀ {m : Nat} {lb : List (Int × Int)} {x : Int × Int}, 0 < lb.length → m ≤ lb.length → okSteps lb = true → (lastS lb).1 ≠ 0 → ¬ (m < lb.length ∧ lb.take m = List.replicate m (0, 0)) → ordP (List.replicate m (0, 0) ++ [x]) lb = -1 := by
  intro m
  induction m with
  | zero => intro lb x h0 _ _ _ hno; exact absurd ⟨h0, by simp⟩ hno
  | succ m ih =>
    intro lb x h0 hm hok hlast hno
    cases lb with
    | nil => simp at h0
    | cons t lb =>
      simp only [List.replicate_succ, List.cons_append, ordP]
      have ht := okStep_iff.1 (okSteps_get hok (i := 0) (by simp))
      simp only [List.getElem_cons_zero] at ht
      by_cases e : t = (0, 0)
      · rw [if_pos ((ordS_zero_iff _ _).2 e.symm)]
        have hlb : 0 < lb.length := by
          rcases Nat.eq_zero_or_pos lb.length with h | h
          · rw [List.eq_nil_of_length_eq_zero h, e] at hlast; simp [lastS] at hlast
          · exact h
        refine ih hlb (by simpa using hm) (okSteps_true fun j hj => by have := okSteps_get hok (i := j + 1) (by simpa using hj); simpa using this) ?_ (fun ⟨h1, h2⟩ => hno ⟨by simpa using h1, by simp [h2, e, List.replicate_succ]⟩)
        rw [lastS_eq hlb]
        rw [lastS_eq h0] at hlast
        simp only [List.length_cons] at hlast
        have e3 : lb.length + 1 - 1 = (lb.length - 1) + 1 := by omega
        simp only [e3, List.getElem_cons_succ] at hlast
        exact hlast
      · rw [if_neg (fun h => e ((ordS_zero_iff _ _).1 h).symm)]
        refine ordS_of ?_
        have : ¬ (t.1 = 0 ∧ t.2 = 0) := fun h => e (Prod.ext h.1 h.2)
        simp only
        omega
theorem below_beg {la : List (Int × Int)} : ∀ {lb : List (Int × Int)} {n : Nat} {x : Int × Int}, ordP la lb = -1 → n ≤ max la.length lb.length → okSteps lb = true → (lastS lb).1 ≠ 0 → ¬ (n < lb.length ∧ lb.take n = beg la n) → ordP (beg la n ++ [x]) lb = -1 := by
  induction la with
  | nil =>
    intro lb n x h hn hok hlast hno
    have h0 : 0 < lb.length := by
      cases lb with
      | nil => simp [ordP] at h
      | cons t lb => simp
    have e : beg [] n = List.replicate n (0, 0) := by unfold beg; simp
    rw [e] at hno ⊢
    exact below_zeros h0 (by simpa using hn) hok hlast hno
  | cons s la ih =>
    intro lb n x h hn hok hlast hno
    cases lb with
    | nil => simp [ordP] at h
    | cons t lb =>
      cases n with
      | zero => exact absurd ⟨by simp, by simp [beg]⟩ hno
      | succ n =>
        simp only [ordP] at h
        rw [beg_cons] at hno ⊢
        simp only [List.cons_append, ordP]
        split at h
        · rename_i e
          rw [if_pos e]
          have e2 := (ordS_zero_iff s t).1 e
          have h0 : 0 < lb.length := by
            cases lb with
            | nil => cases la <;> simp [ordP] at h
            | cons _ _ => simp
          refine ih h (by simp at hn; omega) (okSteps_true fun j hj => by have := okSteps_get hok (i := j + 1) (by simpa using hj); simpa using this) ?_ (fun ⟨h1, h2⟩ => hno ⟨by simpa using h1, by simp [e2, h2]⟩)
          rw [lastS_eq h0]
          rw [lastS_eq (by simp)] at hlast
          simp only [List.length_cons] at hlast
          have e3 : lb.length + 1 - 1 = (lb.length - 1) + 1 := by omega
          simp only [e3, List.getElem_cons_succ] at hlast
          exact hlast
        · rename_i e; rw [if_neg e]; exact h
end Go.Proofs.YtnhjebdlcbhkcaeGreat

namespace Go.Proofs.YtnhjebdlcbhkcaeGreat

theorem lastS_snoc (pl : List (Int × Int)) (x : Int × Int) : lastS (pl ++ [x]) = x := by
  rw [lastS_eq (by simp)]
  simp

theorem okSteps_append {l m : List (Int × Int)} (hl : okSteps l = true) (hm : okSteps m = true) : okSteps (l ++ m) = true := by
  unfold okSteps at *; rw [List.all_append, hl, hm]; rfl
theorem okSteps_beg {l : List (Int × Int)} (h : okSteps l = true) (n : Nat) : okSteps (beg l n) = true := by
  unfold beg
  refine okSteps_append ?_ ?_
  · unfold okSteps at *
    rw [List.all_eq_true] at h ⊢
    exact fun x hx => h x (List.mem_of_mem_take hx)
  · unfold okSteps
    rw [List.all_eq_true]
    intro x hx
    rw [List.eq_of_mem_replicate hx]; rfl

theorem chkEnd_pos {l : List (Int × Int)} {c : Int} (h : chkEnd l c = 0) (hn : ¬ (l.length = 0 ∧ c = 0)) : chk l c = 0 := by
  unfold chkEnd at h; rwa [if_neg hn] at h
theorem ends_both {l m : List (Int × Int)} {c d : Int} (h : ends l c m d = 0) : chkEnd l c = 0 ∧ chkEnd m d = 0 := by
  unfold ends orI at h
  split at h
  · rename_i h1; exact ⟨h1, h⟩
  · rename_i h1; exact absurd h h1

theorem btwErr_zero {la lb : List (Int × Int)} {ca cb site clock many : Int} (h : btwErr la ca lb cb site clock many = 0) :
    ends la ca lb cb = 0 ∧ argsOk site clock many = true ∧ stateBad la lb = false ∧ la.length ≤ 8 ∧ lb.length ≤ 8 := by
  unfold btwErr at h
  split at h
  · rename_i e; exact absurd h e
  · rename_i e1
    split at h
    · omega
    · rename_i e2
      split at h
      · omega
      · rename_i e3
        split at h
        · omega
        · refine ⟨by omega, by simpa using e2, by simpa using e3, by omega, by omega⟩

theorem ordP_neg {la lb : List (Int × Int)} (h : stateBad la lb = false) (hb : 0 < lb.length) : ordP la lb = -1 := by
  cases la with
  | nil =>
    cases lb with
    | nil => simp at hb
    | cons t lb => rfl
  | cons s la =>
    have := cmpP.vals (s :: la) lb
    have h2 : ¬ 0 ≤ ordP (s :: la) lb := by
      intro e
      unfold stateBad at h
      rw [decide_eq_true hb, decide_eq_true e] at h
      simp at h
    omega

theorem rowOf_get (pl : List (Int × Int)) (r site clock : Int) (many i : Nat) (h : i < (rowOf pl r site clock many).length) : (rowOf pl r site clock many)[i] = (pl ++ [(r + i, site)], clock + i) := by
  simp [rowOf]
theorem rowOf_length (pl : List (Int × Int)) (r site clock : Int) (many : Nat) : (rowOf pl r site clock many).length = many := by simp [rowOf]

theorem btw_all {la lb pl : List (Int × Int)} {ca cb site clock r : Int} {many : Nat} (h : btwErr la ca lb cb site clock many = 0) (hc : Cand la lb pl) (h1 : gapLow pl la site ≤ r) (h2 : r + many ≤ gapHigh pl lb site + 1) :
    ∀ i (hi : i < (rowOf pl r site clock many).length), BtwAt la ca lb cb site clock many (rowOf pl r site clock many) i hi := by
  obtain ⟨he, ha, hs, l8, l8'⟩ := btwErr_zero h
  obtain ⟨oa, ob⟩ := ends_ok he
  obtain ⟨ea, eb⟩ := ends_both he
  obtain ⟨s1, s2, c1, c2, m1, m2⟩ := argsOk_iff ha
  have lo := gapLow_bd pl site oa
  have hi' := gapHigh_bd pl site ob
  have opl : okSteps pl = true := by
    rcases hc with ⟨n, _, rfl⟩ | ⟨n, _, rfl⟩
    · exact okSteps_beg oa n
    · exact okSteps_beg ob n
  have hpl : pl.length ≤ max la.length lb.length := by
    rcases hc with ⟨n, hn, rfl⟩ | ⟨n, hn, rfl⟩
    · rw [beg_length]; exact hn
    · rw [beg_length]; omega
  intro i hi
  have him : i < many := by rwa [rowOf_length] at hi
  have hd1 : gapLow pl la site ≤ r + i := by omega
  have hd2 : r + i ≤ gapHigh pl lb site := by omega
  refine ⟨?_, ?_, ?_, ?_, ?_, ?_, ?_⟩
  · rw [rowOf_get]
    show chk (pl ++ [(r + i, site)]) (clock + i) = 0
    unfold chk
    rw [if_neg (by simp; omega), if_neg (by simp), lastS_snoc, okSteps_append opl (by simp [okSteps, okStep, inB]; omega), if_pos (by simp [inB]; omega)]
  · rw [rowOf_get]
  · rw [rowOf_get]; show (lastS (pl ++ [(r + i, site)])).2 = site; rw [lastS_snoc]
  · rw [rowOf_get]
    show (((pl ++ [(r + (i : Int), site)]).length : Nat) : Int) ≤ _
    unfold deepOf
    simp only [List.length_append, List.length_cons, List.length_nil]
    split <;> omega
  · intro hi0
    rw [rowOf_get, rowOf_get]
    refine ordM_of ?_
    rw [ordP_same]
    refine ordP_one _ _ (ordS_of (Or.inl ?_))
    show r + ((i - 1 : Nat) : Int) < r + i
    omega
  · intro hn
    rw [rowOf_get]
    have hla := chk_ok (chkEnd_pos ea hn)
    refine ordM_of ?_
    show ordP la (pl ++ [(r + i, site)]) = -1
    rcases hc with ⟨n, hn, rfl⟩ | ⟨n, hn, rfl⟩
    · by_cases hnl : n < la.length
      · rw [beg_in (by omega)] at *
        refine above_cut hnl ?_
        have hcut : cutB (la.take n) la = true := decide_eq_true ⟨by simp; omega, by simp [Nat.min_eq_left (Nat.le_of_lt hnl)]⟩
        rw [gapLow_in (n := n) (by simp; omega) hnl site hcut] at hd1
        omega
      · exact above_long (by omega)
    · rw [beg_in (by omega)] at *
      by_cases hcut : n < la.length ∧ la.take n = lb.take n
      · obtain ⟨k1, k2⟩ := hcut
        rw [← k2] at hd1 ⊢
        refine above_cut k1 ?_
        have hcut' : cutB (la.take n) la = true := decide_eq_true ⟨by simp; omega, by simp [Nat.min_eq_left (Nat.le_of_lt k1)]⟩
        rw [gapLow_in (n := n) (by simp; omega) k1 site hcut'] at hd1
        omega
      · exact above_other (ordP_neg hs (by omega)) hcut
  · intro hn
    rw [rowOf_get]
    have hlb := chk_ok (chkEnd_pos eb hn)
    refine ordM_of ?_
    show ordP (pl ++ [(r + i, site)]) lb = -1
    have hneg := ordP_neg hs hlb.1
    have key : ∀ n, n < lb.length → lb.take n = pl → ordP (pl ++ [(r + i, site)]) lb = -1 := by
      intro n hnl e
      subst e
      refine below_cut hnl ?_
      have hcut' : cutB (lb.take n) lb = true := decide_eq_true ⟨by simp; omega, by simp [Nat.min_eq_left (Nat.le_of_lt hnl)]⟩
      rw [gapHigh_in (n := n) (by simp; omega) hnl site hcut'] at hd2
      exact hd2
    rcases hc with ⟨n, hn, rfl⟩ | ⟨n, hn, rfl⟩
    · by_cases hcut : n < lb.length ∧ lb.take n = beg la n
      · exact key n hcut.1 hcut.2
      · exact below_beg hneg hn ob hlb.2.2.2.1 hcut
    · exact key n hn (beg_in (by omega)).symm
end Go.Proofs.YtnhjebdlcbhkcaeGreat

namespace Go.Proofs.YtnhjebdlcbhkcaeGreat
open Go.RowKit

def usedM (site clock : Int) (p : List (Int × Int)) (c : Int) : Bool := (lastS p).2 == site && decide (clock ≤ c)
def usedS (site clock : Int) (l : List At) (g : List (List (Int × Int) × Int)) : Bool := l.any (fun x => usedM site clock x.path x.clock) || g.any (fun x => usedM site clock x.1 x.2)

structure LateAt (w : World) (site clock : Int) (B0 B1 B2 : Nat) : Prop where
  c0 : w.cell? ⟨B0, 0, none⟩ = some (.func (.func 213) #[] #[.pointer (some ⟨B1, 0, none⟩), .pointer (some ⟨B2, 0, none⟩)])
  c1 : w.cell? ⟨B1, 0, none⟩ = some (.int .i64 site)
  c2 : w.cell? ⟨B2, 0, none⟩ = some (.int .i64 clock)
  z0 : B0 < w.heap.size
  z1 : B1 < w.heap.size
  z2 : B2 < w.heap.size
theorem LateAt.below {w w' : World} {site clock : Int} {B0 B1 B2 : Nat} (h : LateAt w site clock B0 B1 B2) (hb : Below w.heap.size w w') : LateAt w' site clock B0 B1 B2 :=
  ⟨(hb.cell (p := ⟨B0, 0, none⟩) h.z0).trans h.c0, (hb.cell (p := ⟨B1, 0, none⟩) h.z1).trans h.c1, (hb.cell (p := ⟨B2, 0, none⟩) h.z2).trans h.c2, Nat.lt_of_lt_of_le h.z0 hb.size, Nat.lt_of_lt_of_le h.z1 hb.size, Nat.lt_of_lt_of_le h.z2 hb.size⟩

set_option maxHeartbeats 1000000 in
theorem late_any (a : Option Addr) (cap : Nat) (l : List (Int × Int)) (c site clock : Int) (B0 B1 B2 : Nat) (w : World) (h0 : 0 < l.length) (hl : l.length ≤ maxLen) (h : StepsAt w a l) (hu : LateAt w site clock B0 B1 B2) :
    Calls Tryz.prog 213 #[.agg #[.slice a l.length cap, .int .i64 c], .pointer (some ⟨B1, 0, none⟩), .pointer (some ⟨B2, 0, none⟩)] w fun e w' => e = .returned (.bool (usedM site clock l c)) ∧ Below w.heap.size w w' := by
  unfold maxLen at hl
  rcases h with hs | ⟨b, off, rfl, hbl, hc⟩
  · simp [hs] at h0
  obtain ⟨-, q⟩ := hc (l.length - 1) (by omega)
  have hg : l[l.length - 1]'(by omega) = lastS l := by unfold lastS; rw [List.getD_eq_getElem?_getD, List.getElem?_eq_getElem (by omega)]; rfl
  rw [hg] at q
  clear hc hg
  have HU : Hid (usedM site clock l c = (decide ((lastS l).2 = site) && decide (c ≥ clock))) := by
    show usedM site clock l c = _
    unfold usedM; rfl
  generalize usedM site clock l c = ub at HU ⊢
  generalize (lastS l).2 = ls at *
  obtain ⟨n, hn⟩ : ∃ n, l.length = n + 1 := ⟨l.length - 1, by omega⟩
  rw [hn] at hl q ⊢
  rw [Nat.add_sub_cancel] at q
  clear hn h0
  have hbA := (Below.refl w.heap.size w).alloc (Nat.le_refl _) (Obj.cells #[.slice (some ⟨b, off, none⟩) (n + 1) cap, .int .i64 c] 42)
  have q' := (hbA.cell (p := ⟨b, off + n * 2 + 1, none⟩) hbl).trans q
  have k1 := (hbA.cell (p := ⟨B1, 0, none⟩) hu.z1).trans hu.c1
  have k2 := (hbA.cell (p := ⟨B2, 0, none⟩) hu.z2).trans hu.c2
  have y0 : (w.alloc (Obj.cells #[.slice (some ⟨b, off, none⟩) (n + 1) cap, .int .i64 c] 42)).cell? ⟨w.heap.size, 0, none⟩ = some (.slice (some ⟨b, off, none⟩) (n + 1) cap) := by simp
  have y1 : (w.alloc (Obj.cells #[.slice (some ⟨b, off, none⟩) (n + 1) cap, .int .i64 c] 42)).cell? ⟨w.heap.size, 1, none⟩ = some (.int .i64 c) := by simp
  have HB := hidE hbA
  clear q hu hbl
  by_cases e1 : ls = site
  all_goals
    have e2 : (ls == site) = decide (ls = site) := rfl
    have e3 : decide (ls = site) = decide (ls = site) := rfl
    first | rw [decide_eq_true e1] at e2 HU | rw [decide_eq_false e1] at e2 HU
    clear e3
    go_enter Tryz.func213, Tryz.ntmps213
    go_wp2_with fail
    generalize w.alloc (Obj.cells #[.slice (some ⟨b, off, none⟩) (n + 1) cap, .int .i64 c] 42) = W at *
    have r0 := cell_regrown y0
    have r1 := cell_regrown y1
    have r2 := cell_regrown q'
    have r3 := cell_regrown k1
    have r4 := cell_regrown k2
    have hw1 : IntKind.i64.wrap (((n + 1 : Nat) : Int) - 1) = (n : Int) := by rw [IntKind.wrap_i64] <;> omega
    have hj1 : (n : Int) < ((n + 1 : Nat) : Int) := by omega
    refine wp_region_quiet_below (by kernel_rfl) (by kernel_rfl) ?_
    repeat (first | go_big_quiet_step (fail) | quiet_step (fail))
    refine wpQuiet_nil ?_
    intro _ hw'
    obtain ⟨⟨dq, osq⟩, hw''⟩ := hw'
    subst hw''
    go_wp2
    go_ret
    refine ⟨ret_bool ?_, HB.out.thru (below_regrown _ _ _) HB.out.size⟩
    rw [HU.out]
    simp

set_option maxHeartbeats 400000 in
theorem lateA_any (a : Option Addr) (cap : Nat) (l : List (Int × Int)) (c s site clock : Int) (B0 B1 B2 : Nat) (w : World) (h0 : 0 < l.length) (hl : l.length ≤ maxLen) (h : StepsAt w a l) (hu : LateAt w site clock B0 B1 B2) :
    Calls Tryz.prog 215 #[.agg #[.slice a l.length cap, .int .i64 c, .int .u8 s], .pointer (some ⟨B0, 0, none⟩)] w fun e w' => e = .returned (.bool (usedM site clock l c)) ∧ Below w.heap.size w w' := by
  have hbA := (Below.refl w.heap.size w).alloc (Nat.le_refl _) (Obj.cells #[.slice a l.length cap, .int .i64 c, .int .u8 s] 108)
  have HC := hidE (late_any a cap l c site clock B0 B1 B2 _ h0 hl (h.below hbA (Nat.le_refl _)) (hu.below hbA))
  have k0 := (hbA.cell (p := ⟨B0, 0, none⟩) hu.z0).trans hu.c0
  have HB := hidE hbA
  clear h0 hl h hu hbA
  generalize l.length = n at *
  generalize usedM site clock l c = ub at *
  go_enter Tryz.func215, Tryz.ntmps215
  go_wp2_with fail
  refine HC.out.mono ?_
  rintro e w' ⟨rfl, hb⟩
  have hb2 := HB.out.thru hb HB.out.size
  go_wp2_with fail
  go_ret
  exact ⟨rfl, hb2⟩

set_option maxHeartbeats 1000000 in
theorem atomsIndex_any (a : Option Addr) (cap : Nat) (l : List At) (site clock : Int) (B0 B1 B2 : Nat) (w : World) (hl : l.length ≤ maxLen) (h : AtomsAt w a l) (hp : ∀ x ∈ l, 0 < x.path.length) (hu : LateAt w site clock B0 B1 B2) :
    Calls Tryz.prog 244 #[.slice a l.length cap, .func (.func 215) #[] #[.pointer (some ⟨B0, 0, none⟩)]] w fun e w' => (∃ r : Int, e = .returned (.int .i64 r) ∧ (0 ≤ r ↔ l.any (fun x => usedM site clock x.path x.clock) = true)) ∧ Below w.heap.size w w' := by
  unfold maxLen at hl
  have HP := hidE hp
  clear hp
  go_enter Tryz.func244, Tryz.ntmps244
  go_wp2
  go_loopw [8] (fun i wr => ∃ k : Nat, k ≤ l.length ∧ i = .int .i64 k ∧ (∀ j (hj : j < l.length), j < k → usedM site clock l[j].path l[j].clock = false) ∧ Below w.heap.size w wr) (fun i _ => l.length - (intOf i).toNat)
  case atStart => exact ⟨0, Nat.zero_le _, rfl, fun j _ hj => absurd hj (Nat.not_lt_zero _), Below.refl _ _⟩
  case round =>
    obtain ⟨k, hk, rfl, hall, hb⟩ := hrel
    have HALL := hidE hall
    clear hall
    by_cases hlt : k < l.length
    · have hs := h.below hb (Nat.le_refl _)
      have hu' := hu.below hb
      rcases hs with hs | ⟨b, off, rfl, hbl, hc⟩
      · simp [hs] at hlt
      obtain ⟨p, cp, c0, c1, c2, hst, hpl, _, _, _⟩ := hc k hlt
      have h0 := HP.out l[k] (List.getElem_mem hlt)
      clear hc h hu
      generalize hux : usedM site clock l[k].path l[k].clock = ub
      have HK := hidE hux
      have HC := hidE (lateA_any p cp l[k].path l[k].clock l[k].sign site clock B0 B1 B2 wr h0 hpl hst hu')
      rw [hux] at HC
      clear hux h0 hst hpl
      generalize l[k].path = pk at c0 HC
      generalize l[k].clock = ck at c1 HC
      cases ub
      · go_wp2_with fail
        refine HC.out.mono ?_
        rintro e w' ⟨rfl, hb2⟩
        have hb3 := hb.thru hb2 hb.size
        go_wp2_with fail
        go_roundw
        case rel =>
          refine ⟨k + 1, by omega, by go_num, fun j hj hjk => ?_, hb3⟩
          by_cases e : j = k
          · subst e; exact HK.out
          · exact HALL.out j hj (by omega)
        case measure => simp [intOf]; omega
      · go_wp2_with fail
        refine HC.out.mono ?_
        rintro e w' ⟨rfl, hb2⟩
        have hb3 := hb.thru hb2 hb.size
        go_wp2_with fail
        go_ret
        refine ⟨⟨_, rfl, ?_⟩, hb3⟩
        have : l.any (fun x => usedM site clock x.path x.clock) = true := List.any_eq_true.2 ⟨l[k], List.getElem_mem hlt, HK.out⟩
        simp [this]
    · go_wp2
      go_ret
      refine ⟨⟨_, rfl, ?_⟩, hb⟩
      have : l.any (fun x => usedM site clock x.path x.clock) = false := by
        rw [List.any_eq_false]
        intro x hx
        obtain ⟨i, hi, rfl⟩ := List.getElem_of_mem hx
        simp [HALL.out i hi (by omega)]
      simp [this]

set_option maxHeartbeats 400000 in
theorem atomsHas_any (a : Option Addr) (cap : Nat) (l : List At) (site clock : Int) (B0 B1 B2 : Nat) (w : World) (hl : l.length ≤ maxLen) (h : AtomsAt w a l) (hp : ∀ x ∈ l, 0 < x.path.length) (hu : LateAt w site clock B0 B1 B2) :
    Calls Tryz.prog 214 #[.slice a l.length cap, .func (.func 215) #[] #[.pointer (some ⟨B0, 0, none⟩)]] w fun e w' => e = .returned (.bool (l.any (fun x => usedM site clock x.path x.clock))) ∧ Below w.heap.size w w' := by
  have HI := hidE (atomsIndex_any a cap l site clock B0 B1 B2 w hl h hp hu)
  clear h hp hu hl
  generalize l.length = n at HI ⊢
  generalize l.any (fun x => usedM site clock x.path x.clock) = ub at HI ⊢
  go_enter Tryz.func214, Tryz.ntmps214
  go_wp2_with fail
  refine HI.out.mono ?_
  rintro e w' ⟨⟨r, rfl, hr⟩, hb⟩
  go_wp2_with fail
  go_ret
  refine ⟨ret_bool ?_, hb⟩
  first | rfl | (rw [Bool.eq_iff_iff, decide_eq_true_eq]; exact hr)

set_option maxHeartbeats 1000000 in
theorem marksIndex_any (a : Option Addr) (cap : Nat) (l : List (List (Int × Int) × Int)) (site clock : Int) (B0 B1 B2 : Nat) (w : World) (hl : l.length ≤ maxLen) (h : MarksAt w a l) (hp : ∀ x ∈ l, 0 < x.1.length) (hu : LateAt w site clock B0 B1 B2) :
    Calls Tryz.prog 249 #[.slice a l.length cap, .func (.func 213) #[] #[.pointer (some ⟨B1, 0, none⟩), .pointer (some ⟨B2, 0, none⟩)]] w fun e w' => (∃ r : Int, e = .returned (.int .i64 r) ∧ (0 ≤ r ↔ l.any (fun x => usedM site clock x.1 x.2) = true)) ∧ Below w.heap.size w w' := by
  unfold maxLen at hl
  have HP := hidE hp
  clear hp
  go_enter Tryz.func249, Tryz.ntmps249
  go_wp2
  go_loopw [8] (fun i wr => ∃ k : Nat, k ≤ l.length ∧ i = .int .i64 k ∧ (∀ j (hj : j < l.length), j < k → usedM site clock l[j].1 l[j].2 = false) ∧ Below w.heap.size w wr) (fun i _ => l.length - (intOf i).toNat)
  case atStart => exact ⟨0, Nat.zero_le _, rfl, fun j _ hj => absurd hj (Nat.not_lt_zero _), Below.refl _ _⟩
  case round =>
    obtain ⟨k, hk, rfl, hall, hb⟩ := hrel
    have HALL := hidE hall
    clear hall
    by_cases hlt : k < l.length
    · have hs := h.below hb (Nat.le_refl _)
      have hu' := hu.below hb
      rcases hs with hs | ⟨b, off, rfl, hbl, hc⟩
      · simp [hs] at hlt
      obtain ⟨p, cp, c0, c1, hst, hpl⟩ := hc k hlt
      have h0 := HP.out l[k] (List.getElem_mem hlt)
      clear hc h hu
      generalize hux : usedM site clock l[k].1 l[k].2 = ub
      have HK := hidE hux
      have HC := hidE (late_any p cp l[k].1 l[k].2 site clock B0 B1 B2 wr h0 hpl hst hu')
      rw [hux] at HC
      clear hux h0 hst hpl
      generalize l[k].1 = pk at c0 HC
      generalize l[k].2 = ck at c1 HC
      cases ub
      · go_wp2_with fail
        refine HC.out.mono ?_
        rintro e w' ⟨rfl, hb2⟩
        have hb3 := hb.thru hb2 hb.size
        go_wp2_with fail
        go_roundw
        case rel =>
          refine ⟨k + 1, by omega, by go_num, fun j hj hjk => ?_, hb3⟩
          by_cases e : j = k
          · subst e; exact HK.out
          · exact HALL.out j hj (by omega)
        case measure => simp [intOf]; omega
      · go_wp2_with fail
        refine HC.out.mono ?_
        rintro e w' ⟨rfl, hb2⟩
        have hb3 := hb.thru hb2 hb.size
        go_wp2_with fail
        go_ret
        refine ⟨⟨_, rfl, ?_⟩, hb3⟩
        have : l.any (fun x => usedM site clock x.1 x.2) = true := List.any_eq_true.2 ⟨l[k], List.getElem_mem hlt, HK.out⟩
        simp [this]
    · go_wp2
      go_ret
      refine ⟨⟨_, rfl, ?_⟩, hb⟩
      have : l.any (fun x => usedM site clock x.1 x.2) = false := by
        rw [List.any_eq_false]
        intro x hx
        obtain ⟨i, hi, rfl⟩ := List.getElem_of_mem hx
        simp [HALL.out i hi (by omega)]
      simp [this]

set_option maxHeartbeats 400000 in
theorem marksHas_any (a : Option Addr) (cap : Nat) (l : List (List (Int × Int) × Int)) (site clock : Int) (B0 B1 B2 : Nat) (w : World) (hl : l.length ≤ maxLen) (h : MarksAt w a l) (hp : ∀ x ∈ l, 0 < x.1.length) (hu : LateAt w site clock B0 B1 B2) :
    Calls Tryz.prog 216 #[.slice a l.length cap, .func (.func 213) #[] #[.pointer (some ⟨B1, 0, none⟩), .pointer (some ⟨B2, 0, none⟩)]] w fun e w' => e = .returned (.bool (l.any (fun x => usedM site clock x.1 x.2))) ∧ Below w.heap.size w w' := by
  have HI := hidE (marksIndex_any a cap l site clock B0 B1 B2 w hl h hp hu)
  clear h hp hu hl
  generalize l.length = n at HI ⊢
  generalize l.any (fun x => usedM site clock x.1 x.2) = ub at HI ⊢
  go_enter Tryz.func216, Tryz.ntmps216
  go_wp2_with fail
  refine HI.out.mono ?_
  rintro e w' ⟨⟨r, rfl, hr⟩, hb⟩
  go_wp2_with fail
  go_ret
  refine ⟨ret_bool ?_, hb⟩
  first | rfl | (rw [Bool.eq_iff_iff, decide_eq_true_eq]; exact hr)
end Go.Proofs.YtnhjebdlcbhkcaeGreat
