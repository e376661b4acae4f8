/- What the reference does of a deed, mark by mark, is what the deed does. No Go text is walked here. -/
import Derived.Test.YtnhjebdlcbhkcaeGreatDoD
import Derived.Test.YtnhjebdlcbhkcaeGreatMarksOf
import Derived.Test.YtnhjebdlcbhkcaeGreatPutStep
import Derived.Test.YtnhjebdlcbhkcaeGreatAtomCk
import Derived.Test.YtnhjebdlcbhkcaeGreatNextOf
import Derived.Test.YtnhjebdlcbhkcaeGreatDelI
import Derived.Test.YtnhjebdlcbhkcaeGreatPutLe
import Derived.Test.YtnhjebdlcbhkcaeGreatPutA
namespace Go.Proofs.YtnhjebdlcbhkcaeGreat
open Go.RowKit

def putTo (l : List At) (g : List Mk) (d : Dd) (k : Nat) : List At := putL l (keepG g ((atomsR d.rp d.rc d.rt).take k))
theorem putTo_zero (l : List At) (g : List Mk) (d : Dd) : putTo l g d 0 = l := by unfold putTo keepG; simp [putL]
theorem putTo_all (l : List At) (g : List Mk) (d : Dd) : putTo l g d d.rt.size = putL l (putsD g d) := by
  unfold putTo putsD
  rw [List.take_of_length_le (by rw [atomsR_len]; exact Nat.le_refl _)]
theorem putL_snoc (l m : List At) (x : At) : putL l (m ++ [x]) = putA x (putL l m) false := by unfold putL; rw [List.foldl_append]; rfl
theorem putTo_gone {l : List At} {g : List Mk} {d : Dd} {k : Nat} (h : k < (atomsR d.rp d.rc d.rt).length) (hg : goneA g (atomsR d.rp d.rc d.rt)[k] = true) : putTo l g d (k + 1) = putTo l g d k := by
  unfold putTo
  rw [keepG_take h, if_pos hg, List.append_nil]
theorem putTo_put {l : List At} {g : List Mk} {d : Dd} {k : Nat} (h : k < (atomsR d.rp d.rc d.rt).length) (hg : goneA g (atomsR d.rp d.rc d.rt)[k] = false) : putTo l g d (k + 1) = putA (atomsR d.rp d.rc d.rt)[k] (putTo l g d k) false := by
  unfold putTo
  rw [keepG_take h, if_neg (by simp [hg]), putL_snoc]
theorem putTo_len {l : List At} {g : List Mk} {d : Dd} {k : Nat} : (putTo l g d k).length ≤ l.length + k := by
  unfold putTo
  have h1 := putL_len l (keepG g ((atomsR d.rp d.rc d.rt).take k)) _ (Nat.le_refl _)
  rw [List.take_length] at h1
  have h2 : (keepG g ((atomsR d.rp d.rc d.rt).take k)).length ≤ ((atomsR d.rp d.rc d.rt).take k).length := List.length_filter_le _ _
  have h3 : ((atomsR d.rp d.rc d.rt).take k).length ≤ k := by simp; omega
  omega

def goneTo (g : List Mk) (d : Dd) (k : Nat) : List Mk := ((takesD d).take k).foldl insG g
theorem goneTo_succ {g : List Mk} {d : Dd} {k : Nat} (h : k < (takesD d).length) : goneTo g d (k + 1) = insG (goneTo g d k) (takesD d)[k] := insAll_take h
theorem goneTo_all (g : List Mk) (d : Dd) : goneTo g d (takesD d).length = (takesD d).foldl insG g := by unfold goneTo; rw [List.take_length]
theorem goneTo_len {g : List Mk} {d : Dd} {k : Nat} : (goneTo g d k).length ≤ g.length + k := by
  unfold goneTo
  have h1 := insAll_len ((takesD d).take k) g
  have h3 : ((takesD d).take k).length ≤ k := by simp; omega
  omega
end Go.Proofs.YtnhjebdlcbhkcaeGreat

namespace Go.Proofs.YtnhjebdlcbhkcaeGreat
open Go.RowKit

def BoxOf (w : World) (Z : Nat) : Prop := ∀ o v, w.cell? ⟨Z, o, none⟩ = some v → ∃ a n c, v = .slice a n c

theorem BoxOf.of {w : World} {Z : Nat} {T : TypeId} {a b : Option Addr} {n m c d : Nat} (h : w.heap[Z]? = some (Obj.cells #[.slice a n c, .slice b m d] T)) : BoxOf w Z := by
  intro o v hv
  match o with
  | 0 => simp [World.cell?, h] at hv; exact ⟨_, _, _, hv.symm⟩
  | 1 => simp [World.cell?, h] at hv; exact ⟨_, _, _, hv.symm⟩
  | o + 2 => simp [World.cell?, h] at hv

theorem StepsAt.setBox {w : World} {Z o : Nat} {u : Value} {p : Option Addr} {l : List (Int × Int)} (h : StepsAt w p l) (hZ : BoxOf w Z) : StepsAt (w.setCell ⟨Z, o, none⟩ u) p l := by
  rcases h with h | ⟨b, off, rfl, hlt, hc⟩
  · exact Or.inl h
  · by_cases hl : l = []
    · exact Or.inl hl
    have hb : Z ≠ b := by
      intro e
      subst e
      obtain ⟨c0, _⟩ := hc 0 (List.length_pos_iff.2 hl)
      obtain ⟨a, n, c, e⟩ := hZ _ _ c0
      cases e
    refine Or.inr ⟨b, off, rfl, by simpa [World.setCell] using hlt, fun i hi => ?_⟩
    have h0 := hc i hi
    exact ⟨(World.cell?_setCell_other _ _ _ _ (by simp)).trans h0.1, (World.cell?_setCell_other _ _ _ _ (by simp)).trans h0.2⟩

theorem MarksAt.setBox {w : World} {Z o : Nat} {u : Value} {p : Option Addr} {g : List (List (Int × Int) × Int)} (h : MarksAt w p g) (hZ : BoxOf w Z) : MarksAt (w.setCell ⟨Z, o, none⟩ u) p g := by
  rcases h with h | ⟨b, off, rfl, hlt, hc⟩
  · exact Or.inl h
  · by_cases hl : g = []
    · exact Or.inl hl
    have hb : Z ≠ b := by
      intro e
      subst e
      obtain ⟨_, _, _, c1, _⟩ := hc 0 (List.length_pos_iff.2 hl)
      obtain ⟨a, n, c, e⟩ := hZ _ _ c1
      cases e
    refine Or.inr ⟨b, off, rfl, by simpa [World.setCell] using hlt, fun i hi => ?_⟩
    obtain ⟨p', cap, h1, h2, h3, h4⟩ := hc i hi
    exact ⟨p', cap, (World.cell?_setCell_other _ _ _ _ (by simp)).trans h1, (World.cell?_setCell_other _ _ _ _ (by simp)).trans h2, h3.setBox hZ, h4⟩

theorem AtomsAt.setBox {w : World} {Z o : Nat} {u : Value} {p : Option Addr} {l : List At} (h : AtomsAt w p l) (hZ : BoxOf w Z) : AtomsAt (w.setCell ⟨Z, o, none⟩ u) p l := by
  rcases h with h | ⟨b, off, rfl, hlt, hc⟩
  · exact Or.inl h
  · by_cases hl : l = []
    · exact Or.inl hl
    have hb : Z ≠ b := by
      intro e
      subst e
      obtain ⟨_, _, _, c1, _⟩ := hc 0 (List.length_pos_iff.2 hl)
      obtain ⟨a, n, c, e⟩ := hZ _ _ c1
      cases e
    refine Or.inr ⟨b, off, rfl, by simpa [World.setCell] using hlt, fun i hi => ?_⟩
    obtain ⟨p', cap, h1, h2, h3, h4, h5⟩ := hc i hi
    exact ⟨p', cap, (World.cell?_setCell_other _ _ _ _ (by simp)).trans h1, (World.cell?_setCell_other _ _ _ _ (by simp)).trans h2, (World.cell?_setCell_other _ _ _ _ (by simp)).trans h3, h4.setBox hZ, h5⟩
end Go.Proofs.YtnhjebdlcbhkcaeGreat

namespace Go.Proofs.YtnhjebdlcbhkcaeGreat
open Go.RowKit

def OwnsM (w0 w : World) (base : Nat) (v : Value) (xs : List Mk) : Prop :=
  ∃ rs : List RawK, rs.length = xs.length ∧ w.ownsRow base 42 2 v xs.length (flatK rs) ∧ ∀ i (h : i < xs.length) (h' : i < rs.length), ∃ p cap, rs[i] = ⟨p, xs[i].1.length, cap, xs[i].2⟩ ∧ StepsAt w0 p xs[i].1 ∧ xs[i].1.length ≤ maxLen

theorem OwnsM.nil (w0 w : World) (base : Nat) : OwnsM w0 w base (.slice none 0 0) [] := ⟨[], rfl, World.ownsRow_nil w base 42 2, fun i h => by simp at h⟩

theorem OwnsM.marks {w0 w : World} {base : Nat} {v : Value} {xs : List Mk} (h : OwnsM w0 w base v xs) (hb : Below w0.heap.size w0 w) : ∃ p cap, v = .slice p xs.length cap ∧ MarksAt w p xs := by
  obtain ⟨rs, hl, hown, hr⟩ := h
  have hown' := hown
  rcases hown.2 with ⟨rfl, h0⟩ | ⟨g, cap, cur, rfl, _, _, hc, hm, _⟩
  · have e : xs = [] := List.length_eq_zero_iff.1 h0
    subst e
    exact ⟨none, 0, rfl, Or.inl rfl⟩
  refine ⟨some ⟨g, 0, none⟩, cap, rfl, ?_⟩
  by_cases e : xs = []
  · exact Or.inl e
  refine Or.inr ⟨g, 0, rfl, (hown'.lt g rfl).2, fun i hi => ?_⟩
  have c := flatK_get rs i (by omega)
  obtain ⟨p', cap', he, ho, hle⟩ := hr i hi (by omega)
  rw [Nat.zero_add]
  refine ⟨p', cap', ?_, ?_, ho.below hb (Nat.le_refl _), hle⟩
  · have := (hown'.cellAt (i * 2) (by omega)).trans c.1
    rw [he] at this; exact this
  · have := (hown'.cellAt (i * 2 + 1) (by omega)).trans c.2
    rw [he] at this; exact this

theorem ownsM_snoc {w0 w : World} {base : Nat} {v : Value} {xs : List Mk} {rs : List RawK} {p : Option Addr} {cap : Nat} {m : List (Int × Int)} {ck : Int} (hl : rs.length = xs.length) (hr : ∀ i (h : i < xs.length) (h' : i < rs.length), ∃ p cap, rs[i] = ⟨p, xs[i].1.length, cap, xs[i].2⟩ ∧ StepsAt w0 p xs[i].1 ∧ xs[i].1.length ≤ maxLen) (hs : StepsAt w0 p m) (hm : m.length ≤ maxLen) (h : w.ownsRow base 42 2 v (xs.length + 1) (flatK rs ++ (⟨p, m.length, cap, ck⟩ : RawK).cells)) :
    OwnsM w0 w base v (xs ++ [(m, ck)]) := by
  refine ⟨rs ++ [⟨p, m.length, cap, ck⟩], by simp [hl], ?_, fun i hi hi' => ?_⟩
  · rw [flatK_append, List.length_append]
    show w.ownsRow base 42 2 v (xs.length + 1) (flatK rs ++ ((⟨p, m.length, cap, ck⟩ : RawK).cells ++ []))
    rw [List.append_nil]; exact h
  · by_cases e : i < xs.length
    · rw [List.getElem_append_left (by omega), List.getElem_append_left e]
      exact hr i e (by omega)
    · have : i = xs.length := by simp at hi; omega
      subst this
      have e1 : (rs ++ [(⟨p, m.length, cap, ck⟩ : RawK)])[xs.length] = ⟨p, m.length, cap, ck⟩ := by rw [List.getElem_append_right (by omega)]; simp [hl]
      have e2 : (xs ++ [(m, ck)])[xs.length] = (m, ck) := by simp
      rw [e1, e2]
      exact ⟨p, cap, rfl, hs, hm⟩

def outG (g : List Mk) (m : Mk) (lo k : Nat) : List Mk := if k ≤ lo then g.take k else (g.take lo ++ m :: g.drop lo).take (k + 1)
theorem outG_zero (g : List Mk) (m : Mk) (lo : Nat) : outG g m lo 0 = [] := by unfold outG; simp
theorem outG_less {g : List Mk} {m : Mk} {lo k : Nat} (h : k < lo) (hk : k < g.length) : outG g m lo (k + 1) = outG g m lo k ++ [g[k]] := by
  unfold outG
  rw [if_pos (by omega), if_pos (by omega), List.take_succ_eq_append_getElem hk]
theorem outG_at {g : List Mk} {m : Mk} {lo : Nat} (hk : lo < g.length) : outG g m lo (lo + 1) = (outG g m lo lo ++ [m]) ++ [g[lo]] := by
  unfold outG
  rw [if_neg (by omega), if_pos (Nat.le_refl _)]
  have e : (g.take lo ++ m :: g.drop lo) = (g.take lo ++ [m] ++ [g[lo]]) ++ g.drop (lo + 1) := by rw [List.drop_eq_getElem_cons hk]; simp
  rw [e, List.take_append_of_le_length (by simp; omega), List.take_of_length_le (by simp; omega)]
theorem outG_more {g : List Mk} {m : Mk} {lo k : Nat} (h : lo < k) (hk : k < g.length) : outG g m lo (k + 1) = outG g m lo k ++ [g[k]] := by
  unfold outG
  rw [if_neg (by omega), if_neg (by omega)]
  have hl : (g.take lo ++ m :: g.drop lo).length = g.length + 1 := by simp; omega
  rw [List.take_succ_eq_append_getElem (by omega)]
  congr 2
  rw [List.getElem_append_right (by simp; omega)]
  simp only [List.length_take, show k + 1 - min lo g.length = (k - lo) + 1 by omega, List.getElem_cons_succ, List.getElem_drop]
  congr 1; omega
theorem outG_end {g : List Mk} {m : Mk} {lo : Nat} (h : lo < g.length) : outG g m lo g.length = g.take lo ++ m :: g.drop lo := by
  unfold outG
  rw [if_neg (by omega), List.take_of_length_le (by simp; omega)]
theorem outG_last {g : List Mk} {m : Mk} {lo : Nat} (h : lo = g.length) : outG g m lo g.length ++ [m] = g.take lo ++ m :: g.drop lo := by
  unfold outG
  rw [if_pos (by omega), h]
  simp
theorem outG_len {g : List Mk} {m : Mk} {lo k : Nat} : (outG g m lo k).length ≤ k + 1 := by
  unfold outG
  split <;> (simp; try omega)

theorem low_is {g : List Mk} {m : Mk} (hu : Up g) (hn : hasGone g m.1 m.2 = false) {k : Nat} (hk : k < g.length) : (lowM g m.1 m.2 ≤ k → 0 < ordM g[k].1 g[k].2 m.1 m.2) ∧ (k < lowM g m.1 m.2 → ordM g[k].1 g[k].2 m.1 m.2 < 0) := by
  obtain ⟨h1, h2⟩ := low_parts hu m
  constructor
  · intro h
    have hm : g[k] ∈ g.drop (lowM g m.1 m.2) := by
      have e : (g.drop (lowM g m.1 m.2))[k - lowM g m.1 m.2]'(by simp; omega) = g[k] := by rw [List.getElem_drop]; congr 1; omega
      rw [← e]; exact List.getElem_mem _
    have h3 := h2 _ hm
    have h4 : ordM g[k].1 g[k].2 m.1 m.2 ≠ 0 := by
      intro e
      have : hasGone g m.1 m.2 = true := by
        unfold hasGone
        rw [List.any_eq_true]
        exact ⟨g[k], List.getElem_mem hk, by simpa using e⟩
      rw [hn] at this; simp at this
    omega
  · intro h
    refine h1 _ ?_
    have e : (g.take (lowM g m.1 m.2))[k]'(by simp; omega) = g[k] := by simp
    rw [← e]; exact List.getElem_mem _

set_option maxRecDepth 100000 in
set_option maxHeartbeats 4000000 in
theorem putGone_ok (a p : Option Addr) (cap cp : Nat) (g : List Mk) (m : List (Int × Int)) (ck : Int) (w : World) (h : MarksAt w a g) (hl : g.length ≤ 700) (hs : StepsAt w p m) (hm : m.length ≤ maxLen) (hu : Up g) :
    Calls Tryz.prog 127 #[.slice a g.length cap, .agg #[.slice p m.length cp, .int .i64 ck]] w fun e w' => ∃ p' c', e = .returned (.slice p' (insG g (m, ck)).length c') ∧ MarksAt w' p' (insG g (m, ck)) ∧ Below w.heap.size w w' := by
  have hB := (Below.refl w.heap.size w).alloc (Nat.le_refl _) (Obj.cells #[.slice p m.length cp, .int .i64 ck] 42)
  have q0 : (w.alloc (Obj.cells #[.slice p m.length cp, .int .i64 ck] 42)).cell? ⟨w.heap.size, 0, none⟩ = some (.slice p m.length cp) := by simp
  have q1 : (w.alloc (Obj.cells #[.slice p m.length cp, .int .i64 ck] 42)).cell? ⟨w.heap.size, 1, none⟩ = some (.int .i64 ck) := by simp
  have z : w.heap.size < (w.alloc (Obj.cells #[.slice p m.length cp, .int .i64 ck] 42)).heap.size := by simp
  replace h := h.below hB (Nat.le_refl _)
  replace hs := hs.below hB (Nat.le_refl _)
  have HU := hidE hu
  clear hu
  obtain ⟨i0, hi0, hz0, hz1, hz2⟩ := Tryz.info42
  go_enter Tryz.func127, Tryz.ntmps127
  go_upto_region 1 with fail
  generalize w.alloc (Obj.cells #[.slice p m.length cp, .int .i64 ck] 42) = W at hB q0 q1 z h hs ⊢
  generalize hzz : w.heap.size = Z at hB q0 q1 z ⊢
  have HZ := hidE hzz
  clear hzz
  have HHG := hidE (hasGone_any a p cap cp g m ck W (by unfold maxLen; omega) hm h hs)
  go_wp2_with fail
  refine HHG.out.mono ?_
  rintro e w1 ⟨rfl, hb⟩
  clear HHG
  replace q0 := (hb.cell (p := ⟨Z, 0, none⟩) z).trans q0
  replace q1 := (hb.cell (p := ⟨Z, 1, none⟩) z).trans q1
  replace h := h.below hb (Nat.le_refl _)
  replace hs := hs.below hb (Nat.le_refl _)
  replace hB := hB.thru hb (Nat.le_of_lt z)
  replace z := Nat.lt_of_lt_of_le z hb.size
  clear hb
  cases hg : hasGone g m ck
  case true =>
    have HI : Hid (insG g (m, ck) = g) := by show _ = _; unfold insG; rw [if_pos hg]
    clear hg
    go_wp2_with fail
    go_ret
    rw [HZ.out, HI.out]
    exact ⟨a, cap, rfl, h, hB⟩
  have HI : Hid (insG g (m, ck) = g.take (lowM g m ck) ++ (m, ck) :: g.drop (lowM g m ck)) := by show _ = _; unfold insG; rw [if_neg (by simp [hg])]
  have HLO := hidE (fun (k : Nat) (hk : k < g.length) => low_is (m := (m, ck)) HU.out hg hk)
  have hlle := lowM_le g m ck
  generalize lowM g m ck = lo at HI HLO hlle
  clear hg HU
  go_wp2_with fail
  go_loopw [7, 5, 6] (fun i v pv wr => ∃ k : Nat, k ≤ g.length ∧ i = .int .i64 k ∧ pv = .bool (decide (lo < k)) ∧ OwnsM w1 wr w1.heap.size v (outG g (m, ck) lo k) ∧ Below w1.heap.size w1 wr) (fun i _ _ _ => g.length - (intOf i).toNat)
  case atStart => exact ⟨0, Nat.zero_le _, rfl, by simp, by rw [outG_zero]; exact OwnsM.nil _ _ _, Below.refl _ _⟩
  case round =>
    obtain ⟨k, hk, rfl, rfl, hrow, hb⟩ := hrel
    have hol := outG_len (g := g) (m := (m, ck)) (lo := lo) (k := k)
    have HOL : Hid ((outG g (m, ck) lo k).length ≤ 701) := by show _ ≤ _; omega
    clear hol
    have r0 := (hb.cell (p := ⟨Z, 0, none⟩) z).trans q0
    have r1 := (hb.cell (p := ⟨Z, 1, none⟩) z).trans q1
    have zr := Nat.lt_of_lt_of_le z hb.size
    by_cases hlt : k < g.length
    · rcases h with e | ⟨ab, ao, rfl, hab, hc⟩
      · simp [e] at hlt
      obtain ⟨pp, cpp, c0, c1, hst, hle⟩ := hc k hlt
      have habr := Nat.lt_of_lt_of_le hab hb.size
      replace c0 := (hb.cell (p := ⟨ab, ao + k * 2, none⟩) hab).trans c0
      replace c1 := (hb.cell (p := ⟨ab, ao + k * 2 + 1, none⟩) hab).trans c1
      have HLK := hidE (HLO.out k hlt)
      have HLS : Hid (k < lo → outG g (m, ck) lo (k + 1) = outG g (m, ck) lo k ++ [(g[k].1, g[k].2)]) := fun e => outG_less e hlt
      have HMO : Hid (lo < k → outG g (m, ck) lo (k + 1) = outG g (m, ck) lo k ++ [(g[k].1, g[k].2)]) := fun e => outG_more e hlt
      have HAT : Hid (lo = k → outG g (m, ck) lo (k + 1) = (outG g (m, ck) lo k ++ [(m, ck)]) ++ [(g[k].1, g[k].2)]) := fun e => by subst e; exact outG_at hlt
      have hi1 : (k : Int) < g.length := by omega
      clear hc
      generalize g[k].1 = pk at *
      generalize g[k].2 = cck at *
      obtain ⟨rs, hrl, hrown, hrr⟩ := hrow
      have hbw := hb
      have k0 := cell_regrown c0
      have k1 := cell_regrown c1
      have k2 := cell_regrown r0
      have k3 := cell_regrown r1
      have S1 := hidE (fun d os => (hst.below hbw (Nat.le_refl _)).below (below_regrown wr d os) (Nat.le_refl _))
      have S2 := hidE (fun d os => (hs.below hbw (Nat.le_refl _)).below (below_regrown wr d os) (Nat.le_refl _))
      have HOR := hidE (fun (w : World) (x : StepsAt w pp pk) (y : StepsAt w p m) => orderOf_any pp p cpp cp pk m cck ck w hle hm x y)
      clear hbw
      go_upto_region 8 with fail
      rcases (show lo < k ∨ k < lo ∨ lo = k by omega) with hcs | hcs | hcs
      · rw [decide_eq_true hcs]
        have HE := hidE (HMO.out hcs)
        clear HLK HLS HMO HAT
        refine wp_region_quiet_below (by kernel_rfl) (by kernel_rfl) ?_
        repeat (first | go_big_quiet_step (fail) | quiet_step (fail))
        refine wpQuiet_nil ?_
        intro wq hw'
        obtain ⟨⟨dq, osq⟩, hw''⟩ := hw'
        have hbq : Below wr.heap.size wr wq := by rw [hw'']; exact below_regrown _ _ _
        clear hw'' k0 k1 k2 k3
        replace c0 := (hbq.cell (p := ⟨ab, ao + k * 2, none⟩) habr).trans c0
        replace c1 := (hbq.cell (p := ⟨ab, ao + k * 2 + 1, none⟩) habr).trans c1
        replace r0 := (hbq.cell (p := ⟨Z, 0, none⟩) zr).trans r0
        replace r1 := (hbq.cell (p := ⟨Z, 1, none⟩) zr).trans r1
        replace hrown := owns_below hrown hbq
        replace hb := hb.thru hbq hb.size
        clear hbq
        go_wp2_with (at_builtin; refine wpList_append_own _ rfl _ _ 23 rfl w1.heap.size 42 i0 (.agg #[.slice none 0 0, .int .i64 0]) 2 32 Tryz.underlying23 hi0 hz0 hz1 hz2 rfl (by decide) _ _ _ rfl (hrown.alloc _) ⟨wq.heap.size, 0, none⟩ 1 1 ((⟨pp, pk.length, cpp, cck⟩ : RawK).cells) rfl rfl (by intro j u hj; rw [Addr.add_lit, Nat.zero_add]; exact rawK_new wq (⟨pp, pk.length, cpp, cck⟩ : RawK) j u hj) (fun u hu => flatK_one [(⟨pp, pk.length, cpp, cck⟩ : RawK)] u (by simpa [flatK] using hu)) ?qa4 ?qa5 ?qa6 ?_)
        case qa4 => have := HOL.out; unfold maxLen; omega
        case qa5 => have := HOL.out; omega
        case qa6 => exact (hb.alloc hb.size _).size
        intro vw5 w5 ownw5 grw5 _
        have hb5 := (hb.alloc hb.size (Obj.cells #[.slice pp pk.length cpp, .int .i64 cck] 42)).grown grw5 (hb.alloc hb.size _).size (fun k hk => (hrown.lt k hk).1)
        have hrow5 := ownsM_snoc hrl hrr hst hle ownw5
        go_wp2_with fail
        go_roundw
        case rel => exact ⟨k + 1, by omega, by go_num, by simp; omega, by rw [HE.out]; exact hrow5, hb5⟩
        case measure => simp [intOf]; omega
      · rw [decide_eq_false (show ¬ lo < k by omega)]
        have HE := hidE (HLS.out hcs)
        have ho := HLK.out.2 hcs
        have hod : decide (ordM pk cck m ck > 0) = false := decide_eq_false (by show ¬ ordM pk cck m ck > 0; omega)
        clear HLK HLS HMO HAT ho
        refine wp_region_quiet_below (by kernel_rfl) (by kernel_rfl) ?_
        repeat (first | go_big_quiet_step ((go_at_call 141; exact Calls.regrown_of (HOR.out _ (S1.out _ _) (S2.out _ _)))) | quiet_step ((go_at_call 141; exact Calls.regrown_of (HOR.out _ (S1.out _ _) (S2.out _ _)))))
        refine wpQuiet_nil ?_
        intro wq hw'
        obtain ⟨⟨dq, osq⟩, hw''⟩ := hw'
        have hbq : Below wr.heap.size wr wq := by rw [hw'']; exact below_regrown _ _ _
        clear hw'' k0 k1 k2 k3
        replace c0 := (hbq.cell (p := ⟨ab, ao + k * 2, none⟩) habr).trans c0
        replace c1 := (hbq.cell (p := ⟨ab, ao + k * 2 + 1, none⟩) habr).trans c1
        replace r0 := (hbq.cell (p := ⟨Z, 0, none⟩) zr).trans r0
        replace r1 := (hbq.cell (p := ⟨Z, 1, none⟩) zr).trans r1
        replace hrown := owns_below hrown hbq
        replace hb := hb.thru hbq hb.size
        clear hbq
        go_wp2_with (at_builtin; refine wpList_append_own _ rfl _ _ 23 rfl w1.heap.size 42 i0 (.agg #[.slice none 0 0, .int .i64 0]) 2 32 Tryz.underlying23 hi0 hz0 hz1 hz2 rfl (by decide) _ _ _ rfl (hrown.alloc _) ⟨wq.heap.size, 0, none⟩ 1 1 ((⟨pp, pk.length, cpp, cck⟩ : RawK).cells) rfl rfl (by intro j u hj; rw [Addr.add_lit, Nat.zero_add]; exact rawK_new wq (⟨pp, pk.length, cpp, cck⟩ : RawK) j u hj) (fun u hu => flatK_one [(⟨pp, pk.length, cpp, cck⟩ : RawK)] u (by simpa [flatK] using hu)) ?qa4 ?qa5 ?qa6 ?_)
        case qa4 => have := HOL.out; unfold maxLen; omega
        case qa5 => have := HOL.out; omega
        case qa6 => exact (hb.alloc hb.size _).size
        intro vw5 w5 ownw5 grw5 _
        have hb5 := (hb.alloc hb.size (Obj.cells #[.slice pp pk.length cpp, .int .i64 cck] 42)).grown grw5 (hb.alloc hb.size _).size (fun k hk => (hrown.lt k hk).1)
        have hrow5 := ownsM_snoc hrl hrr hst hle ownw5
        go_wp2_with fail
        go_roundw
        case rel => exact ⟨k + 1, by omega, by go_num, by simp; omega, by rw [HE.out]; exact hrow5, hb5⟩
        case measure => simp [intOf]; omega
      · rw [decide_eq_false (show ¬ lo < k by omega)]
        replace HAT := hidE (HAT.out hcs)
        have HCS := hidE hcs
        have ho := HLK.out.1 (by omega)
        have hod : decide (ordM pk cck m ck > 0) = true := decide_eq_true (by show ordM pk cck m ck > 0; omega)
        clear HLK HLS HMO ho hcs
        refine wp_region_quiet_below (by kernel_rfl) (by kernel_rfl) ?_
        repeat (first | go_big_quiet_step ((go_at_call 141; exact Calls.regrown_of (HOR.out _ (S1.out _ _) (S2.out _ _)))) | quiet_step ((go_at_call 141; exact Calls.regrown_of (HOR.out _ (S1.out _ _) (S2.out _ _)))))
        refine wpQuiet_nil ?_
        intro wq hw'
        obtain ⟨⟨dq, osq⟩, hw''⟩ := hw'
        have hbq : Below wr.heap.size wr wq := by rw [hw'']; exact below_regrown _ _ _
        clear hw'' k0 k1 k2 k3
        replace c0 := (hbq.cell (p := ⟨ab, ao + k * 2, none⟩) habr).trans c0
        replace c1 := (hbq.cell (p := ⟨ab, ao + k * 2 + 1, none⟩) habr).trans c1
        replace r0 := (hbq.cell (p := ⟨Z, 0, none⟩) zr).trans r0
        replace r1 := (hbq.cell (p := ⟨Z, 1, none⟩) zr).trans r1
        replace hrown := owns_below hrown hbq
        replace hb := hb.thru hbq hb.size
        clear hbq
        go_wp2_with (at_builtin; refine wpList_append_own _ rfl _ _ 23 rfl w1.heap.size 42 i0 (.agg #[.slice none 0 0, .int .i64 0]) 2 32 Tryz.underlying23 hi0 hz0 hz1 hz2 rfl (by decide) _ _ _ rfl (hrown.alloc _) ⟨wq.heap.size, 0, none⟩ 1 1 ((⟨p, m.length, cp, ck⟩ : RawK).cells) rfl rfl (by intro j u hj; rw [Addr.add_lit, Nat.zero_add]; exact rawK_new wq (⟨p, m.length, cp, ck⟩ : RawK) j u hj) (fun u hu => flatK_one [(⟨p, m.length, cp, ck⟩ : RawK)] u (by simpa [flatK] using hu)) ?qb4 ?qb5 ?qb6 ?_)
        case qb4 => have := HOL.out; unfold maxLen; omega
        case qb5 => have := HOL.out; omega
        case qb6 => exact (hb.alloc hb.size _).size
        intro vw4 w4 ownw4 grw4 _
        have hb4 := (hb.alloc hb.size (Obj.cells #[.slice p m.length cp, .int .i64 ck] 42)).grown grw4 (hb.alloc hb.size _).size (fun k hk => (hrown.lt k hk).1)
        have hrow4 := ownsM_snoc hrl hrr hs hm ownw4
        have hbn : Below wq.heap.size wq (wq.alloc (Obj.cells #[.slice p m.length cp, .int .i64 ck] 42)) := (Below.refl _ _).alloc (Nat.le_refl _) _
        have hab4 : ab < (wq.alloc (Obj.cells #[.slice p m.length cp, .int .i64 ck] 42)).heap.size := Nat.lt_of_lt_of_le (Nat.lt_of_lt_of_le hab hb.size) hbn.size
        replace c0 := ((grown_cell grw4 hab4 (own_ne hrown (Or.inl hab)) _).trans (hbn.cell (p := ⟨ab, ao + k * 2, none⟩) (Nat.lt_of_lt_of_le hab hb.size))).trans c0
        replace c1 := ((grown_cell grw4 hab4 (own_ne hrown (Or.inl hab)) _).trans (hbn.cell (p := ⟨ab, ao + k * 2 + 1, none⟩) (Nat.lt_of_lt_of_le hab hb.size))).trans c1
        obtain ⟨rs4, hrl4, hrown4, hrr4⟩ := hrow4
        have HOL4 : Hid ((outG g (m, ck) lo k ++ [(m, ck)]).length ≤ 800) := by show _ ≤ _; have := HOL.out; simp; omega
        have HE := hidE HAT.out
        clear hbn hab4 grw4  ownw4 hrown hrr
        go_wp2_with (at_builtin; refine wpList_append_own _ rfl _ _ 23 rfl w1.heap.size 42 i0 (.agg #[.slice none 0 0, .int .i64 0]) 2 32 Tryz.underlying23 hi0 hz0 hz1 hz2 rfl (by decide) _ _ _ rfl (hrown4.alloc _) ⟨w4.heap.size, 0, none⟩ 1 1 ((⟨pp, pk.length, cpp, cck⟩ : RawK).cells) rfl rfl (by intro j u hj; rw [Addr.add_lit, Nat.zero_add]; exact rawK_new w4 (⟨pp, pk.length, cpp, cck⟩ : RawK) j u hj) (fun u hu => flatK_one [(⟨pp, pk.length, cpp, cck⟩ : RawK)] u (by simpa [flatK] using hu)) ?qc4 ?qc5 ?qc6 ?_)
        case qc4 => have := HOL4.out; unfold maxLen; omega
        case qc5 => have := HOL4.out; omega
        case qc6 => exact (hb4.alloc hb4.size _).size
        intro vw5 w5 ownw5 grw5 _
        have hb5 := (hb4.alloc hb4.size (Obj.cells #[.slice pp pk.length cpp, .int .i64 cck] 42)).grown grw5 (hb4.alloc hb4.size _).size (fun k hk => (hrown4.lt k hk).1)
        have hrow5 := ownsM_snoc hrl4 hrr4 hst hle (by rw [List.length_append]; exact ownw5)
        go_wp2_with fail
        go_roundw
        case rel => exact ⟨k + 1, by omega, by go_num, by have := HCS.out; simp; omega, by rw [HE.out]; exact hrow5, hb5⟩
        case measure => simp [intOf]; omega
    · have hke : g.length = k := by omega
      subst hke
      by_cases hcs : lo < g.length
      · rw [decide_eq_true hcs]
        have HE := hidE (outG_end (m := (m, ck)) hcs)
        obtain ⟨pv, cv, hv, hmv⟩ := hrow.marks hb
        subst hv
        rw [HE.out] at hmv
        have HMV := hidE hmv
        clear hmv hrow
        go_wp2_with fail
        go_ret
        rw [HZ.out, HI.out]
        exact ⟨pv, cv, by rw [← HE.out]; rfl, HMV.out, hB.thru hb (Nat.le_of_lt z)⟩
      · rw [decide_eq_false hcs]
        have HE := hidE (outG_last (m := (m, ck)) (show lo = g.length by omega))
        obtain ⟨rs, hrl, hrown, hrr⟩ := hrow
        clear hcs
        go_wp2_with (at_builtin; refine wpList_append_own _ rfl _ _ 23 rfl w1.heap.size 42 i0 (.agg #[.slice none 0 0, .int .i64 0]) 2 32 Tryz.underlying23 hi0 hz0 hz1 hz2 rfl (by decide) _ _ _ rfl (hrown.alloc _) ⟨wr.heap.size, 0, none⟩ 1 1 ((⟨p, m.length, cp, ck⟩ : RawK).cells) rfl rfl (by intro j u hj; rw [Addr.add_lit, Nat.zero_add]; exact rawK_new wr (⟨p, m.length, cp, ck⟩ : RawK) j u hj) (fun u hu => flatK_one [(⟨p, m.length, cp, ck⟩ : RawK)] u (by simpa [flatK] using hu)) ?qe4 ?qe5 ?qe6 ?_)
        case qe4 => have := HOL.out; unfold maxLen; omega
        case qe5 => have := HOL.out; omega
        case qe6 => exact (hb.alloc hb.size _).size
        intro v6 w6 own6 gr6 _
        have hb6 := (hb.alloc hb.size (Obj.cells #[.slice p m.length cp, .int .i64 ck] 42)).grown gr6 (hb.alloc hb.size _).size (fun k hk => (hrown.lt k hk).1)
        have hrow6 := ownsM_snoc hrl hrr hs hm own6
        rw [HE.out] at hrow6
        obtain ⟨pv, cv, hv, hmv⟩ := hrow6.marks hb6
        subst hv
        have HMV := hidE hmv
        have hB6 := hB.thru hb6 (Nat.le_of_lt z)
        clear hmv own6 gr6 hrown hrr
        go_wp2_with fail
        go_ret
        rw [HZ.out, HI.out]
        exact ⟨pv, cv, by first | rfl | simp, HMV.out, hB6⟩
end Go.Proofs.YtnhjebdlcbhkcaeGreat
