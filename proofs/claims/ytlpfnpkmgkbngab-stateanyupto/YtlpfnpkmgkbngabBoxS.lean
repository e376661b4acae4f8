/- Contracts of the reference's SameMarks, SameState and of the law's stateIs, where both are the same. -/
import Derived.Test.YtlpfnpkmgkbngabPutLe
import Derived.Test.YtlpfnpkmgkbngabMkRow
import Derived.Test.YtlpfnpkmgkbngabDelI
import Derived.Test.YtlpfnpkmgkbngabDoD
import Derived.Test.YtlpfnpkmgkbngabMarksOf
import Derived.Test.YtlpfnpkmgkbngabPutStep
import Derived.Test.YtlpfnpkmgkbngabAtomCk
namespace Go.Proofs.Ytlpfnpkmgkbngab
open Go.RowKit

set_option maxRecDepth 100000 in
set_option maxHeartbeats 2000000 in
theorem sameMarks_same (a a' : Option Addr) (cap cap' : Nat) (g : List Mk) (w : World) (hl : g.length ≤ maxLen) (h : MarksAt w a g) (h' : MarksAt w a' g) :
    Calls Try.prog 67 #[.slice a g.length cap, .slice a' g.length cap'] w fun e w' => e = .returned (.bool true) ∧ Below w.heap.size w w' := by
  unfold maxLen at hl
  have hd' : ((g.length : Int) != g.length) = false := bne_self_eq_false _
  go_enter Try.func67, Try.ntmps67
  go_wp2
  go_loopw [5] (fun i wr => ∃ k : Nat, k ≤ g.length ∧ i = .int .i64 k ∧ Below w.heap.size w wr) (fun i _ => g.length - (intOf i).toNat)
  case atStart => exact ⟨0, Nat.zero_le _, rfl, Below.refl _ _⟩
  case round =>
    obtain ⟨k, hk, rfl, hb⟩ := hrel
    by_cases hlt : k < g.length
    · rcases h.below hb (Nat.le_refl _) with hs | ⟨ab, ao, rfl, hab, hc⟩
      · simp [hs] at hlt
      rcases h'.below hb (Nat.le_refl _) with hs | ⟨bb, bo, rfl, hbb, hc'⟩
      · simp [hs] at hlt
      obtain ⟨p, cp, c0, c1, hst, hle⟩ := hc k hlt
      obtain ⟨p', cp', c0', c1', hst', _⟩ := hc' k hlt
      have hi1 : (k : Int) < g.length := by omega
      generalize g[k].1 = pk at *
      generalize g[k].2 = ck at *
      have k0 := cell_regrown c0
      have k1 := cell_regrown c1
      have k3 := cell_regrown c0'
      have k4 := cell_regrown c1'
      have S1 := hidE (fun d os => hst.below (below_regrown wr d os) (Nat.le_refl _))
      have S2 := hidE (fun d os => hst'.below (below_regrown wr d os) (Nat.le_refl _))
      have HS := hidE (fun (w : World) (x : StepsAt w p pk) (y : StepsAt w p' pk) => by have := sameMark_n p p' cp cp' pk.length pk.length pk pk ck ck w rfl rfl hle hle x y; rw [show (ordM pk ck pk ck == 0) = true from by rw [show ordM pk ck pk ck = 0 from cmpM.refl (pk, ck)]; rfl] at this; exact this)
      clear hc hc' h hst h' hst'
      go_wp2_with fail
      refine wp_region_quiet_below (by kernel_rfl) (by kernel_rfl) ?_
      repeat (first | go_big_quiet_step ((go_at_call 47; exact Calls.regrown_of (HS.out _ (S1.out _ _) (S2.out _ _)))) | quiet_step ((go_at_call 47; exact Calls.regrown_of (HS.out _ (S1.out _ _) (S2.out _ _)))))
      refine wpQuiet_nil ?_
      intro _ hw'
      obtain ⟨⟨dq, osq⟩, hw''⟩ := hw'
      subst hw''
      go_wp2
      go_roundw
      case rel => exact ⟨k + 1, by omega, by go_num, hb.thru (below_regrown _ _ _) hb.size⟩
      case measure => simp [intOf]; omega
    · go_wp2
      go_ret
      exact ⟨rfl, hb⟩

set_option maxRecDepth 100000 in
set_option maxHeartbeats 2000000 in
theorem sameState_same (a a' b b' : Option Addr) (ca ca' cb cb' : Nat) (l : List At) (g : List Mk) (w : World) (hl : l.length ≤ maxLen) (hg : g.length ≤ maxLen) (h1 : AtomsAt w a l) (h2 : AtomsAt w a' l) (h3 : MarksAt w b g) (h4 : MarksAt w b' g) :
    Calls Try.prog 33 #[.agg #[.slice a l.length ca, .slice b g.length cb], .agg #[.slice a' l.length ca', .slice b' g.length cb']] w fun e w' => e = .returned (.bool true) ∧ Below w.heap.size w w' := by
  obtain ⟨q0, q1, q3, q4, hz, hb1⟩ := boxes2 w (.slice a l.length ca) (.slice b g.length cb) (.slice a' l.length ca') (.slice b' g.length cb') 51 51
  replace h1 := h1.below hb1 (Nat.le_refl _)
  replace h2 := h2.below hb1 (Nat.le_refl _)
  replace h3 := h3.below hb1 (Nat.le_refl _)
  replace h4 := h4.below hb1 (Nat.le_refl _)
  go_enter Try.func33, Try.ntmps33
  go_upto_region 1 with fail
  generalize (w.alloc (Obj.cells #[.slice a l.length ca, .slice b g.length cb] 51)).alloc (Obj.cells #[.slice a' l.length ca', .slice b' g.length cb'] 51) = W at q0 q1 q3 q4 hz hb1 h1 h2 h3 h4 ⊢
  have z0 : w.heap.size < W.heap.size := by omega
  have z1 : w.heap.size + 1 < W.heap.size := by omega
  clear hz
  have HS := hidE (show Calls Try.prog 21 #[.slice a l.length ca, .slice a' l.length ca'] W fun e w' => e = .returned (.bool true) ∧ Below W.heap.size W w' from by have := sameAtoms_any a a' ca ca' l l W hl hl h1 h2; rw [sameL_refl] at this; exact this)
  go_wp2_with fail
  refine HS.out.mono ?_
  rintro e w1 ⟨rfl, hb⟩
  replace q1 := (hb.cell (p := ⟨w.heap.size, 1, none⟩) z0).trans q1
  replace q4 := (hb.cell (p := ⟨w.heap.size + 1, 1, none⟩) z1).trans q4
  have HM := hidE (sameMarks_same b b' cb cb' g w1 hg (h3.below hb (Nat.le_refl _)) (h4.below hb (Nat.le_refl _)))
  go_wp2_with fail
  refine HM.out.mono ?_
  rintro e w2 ⟨rfl, hb2⟩
  go_wp2_with fail
  go_ret
  exact ⟨rfl, (hb1.thru hb hb1.size).thru hb2 (Nat.le_trans hb1.size hb.size)⟩
end Go.Proofs.Ytlpfnpkmgkbngab

namespace Go.Proofs.Ytlpfnpkmgkbngab
open Go.RowKit

/-- the atoms when the first k signs of a run have been put -/
def putTo (l : List At) (g : List Mk) (d : Dd) (k : Nat) : List At := putL l (keepG g ((atomsR d.rp d.rc d.rt).take k))
theorem putTo_zero (l : List At) (g : List Mk) (d : Dd) : putTo l g d 0 = l := by unfold putTo keepG; simp [putL]
theorem putTo_all (l : List At) (g : List Mk) (d : Dd) : putTo l g d d.rt.size = putL l (putsD g d) := by
  unfold putTo putsD
  rw [List.take_of_length_le (by rw [atomsR_len]; exact Nat.le_refl _)]
theorem putL_snoc (l m : List At) (x : At) : putL l (m ++ [x]) = putA x (putL l m) false := by unfold putL; rw [List.foldl_append]; rfl
theorem putTo_gone {l : List At} {g : List Mk} {d : Dd} {k : Nat} (h : k < (atomsR d.rp d.rc d.rt).length) (hg : goneA g (atomsR d.rp d.rc d.rt)[k] = true) : putTo l g d (k + 1) = putTo l g d k := by
  unfold putTo
  rw [keepG_take h, if_pos hg, List.append_nil]
theorem putTo_put {l : List At} {g : List Mk} {d : Dd} {k : Nat} (h : k < (atomsR d.rp d.rc d.rt).length) (hg : goneA g (atomsR d.rp d.rc d.rt)[k] = false) : putTo l g d (k + 1) = putA (atomsR d.rp d.rc d.rt)[k] (putTo l g d k) false := by
  unfold putTo
  rw [keepG_take h, if_neg (by simp [hg]), putL_snoc]
theorem putTo_len {l : List At} {g : List Mk} {d : Dd} {k : Nat} : (putTo l g d k).length ≤ l.length + k := by
  unfold putTo
  have h1 := putL_len l (keepG g ((atomsR d.rp d.rc d.rt).take k)) _ (Nat.le_refl _)
  rw [List.take_length] at h1
  have h2 : (keepG g ((atomsR d.rp d.rc d.rt).take k)).length ≤ ((atomsR d.rp d.rc d.rt).take k).length := List.length_filter_le _ _
  have h3 : ((atomsR d.rp d.rc d.rt).take k).length ≤ k := by simp; omega
  omega

/-- what is gone when the first k marks have been taken -/
def goneTo (g : List Mk) (d : Dd) (k : Nat) : List Mk := ((takesD d).take k).foldl insG g
theorem goneTo_succ {g : List Mk} {d : Dd} {k : Nat} (h : k < (takesD d).length) : goneTo g d (k + 1) = insG (goneTo g d k) (takesD d)[k] := insAll_take h
theorem goneTo_all (g : List Mk) (d : Dd) : goneTo g d (takesD d).length = (takesD d).foldl insG g := by unfold goneTo; rw [List.take_length]
theorem goneTo_len {g : List Mk} {d : Dd} {k : Nat} : (goneTo g d k).length ≤ g.length + k := by
  unfold goneTo
  have h1 := insAll_len ((takesD d).take k) g
  have h3 : ((takesD d).take k).length ≤ k := by simp; omega
  omega
end Go.Proofs.Ytlpfnpkmgkbngab

namespace Go.Proofs.Ytlpfnpkmgkbngab
open Go.RowKit

/-- all cells of the block are slices -/
def BoxOf (w : World) (Z : Nat) : Prop := ∀ o v, w.cell? ⟨Z, o, none⟩ = some v → ∃ a n c, v = .slice a n c

theorem BoxOf.of {w : World} {Z : Nat} {T : TypeId} {a b : Option Addr} {n m c d : Nat} (h : w.heap[Z]? = some (Obj.cells #[.slice a n c, .slice b m d] T)) : BoxOf w Z := by
  intro o v hv
  match o with
  | 0 => simp [World.cell?, h] at hv; exact ⟨_, _, _, hv.symm⟩
  | 1 => simp [World.cell?, h] at hv; exact ⟨_, _, _, hv.symm⟩
  | o + 2 => simp [World.cell?, h] at hv

theorem StepsAt.setBox {w : World} {Z o : Nat} {u : Value} {p : Option Addr} {l : List (Int × Int)} (h : StepsAt w p l) (hZ : BoxOf w Z) : StepsAt (w.setCell ⟨Z, o, none⟩ u) p l := by
  rcases h with h | ⟨b, off, rfl, hlt, hc⟩
  · exact Or.inl h
  · by_cases hl : l = []
    · exact Or.inl hl
    have hb : Z ≠ b := by
      intro e
      subst e
      obtain ⟨c0, _⟩ := hc 0 (List.length_pos_iff.2 hl)
      obtain ⟨a, n, c, e⟩ := hZ _ _ c0
      cases e
    refine Or.inr ⟨b, off, rfl, by simpa [World.setCell] using hlt, fun i hi => ?_⟩
    have h0 := hc i hi
    exact ⟨(World.cell?_setCell_other _ _ _ _ (by simp)).trans h0.1, (World.cell?_setCell_other _ _ _ _ (by simp)).trans h0.2⟩

theorem MarksAt.setBox {w : World} {Z o : Nat} {u : Value} {p : Option Addr} {g : List (List (Int × Int) × Int)} (h : MarksAt w p g) (hZ : BoxOf w Z) : MarksAt (w.setCell ⟨Z, o, none⟩ u) p g := by
  rcases h with h | ⟨b, off, rfl, hlt, hc⟩
  · exact Or.inl h
  · by_cases hl : g = []
    · exact Or.inl hl
    have hb : Z ≠ b := by
      intro e
      subst e
      obtain ⟨_, _, _, c1, _⟩ := hc 0 (List.length_pos_iff.2 hl)
      obtain ⟨a, n, c, e⟩ := hZ _ _ c1
      cases e
    refine Or.inr ⟨b, off, rfl, by simpa [World.setCell] using hlt, fun i hi => ?_⟩
    obtain ⟨p', cap, h1, h2, h3, h4⟩ := hc i hi
    exact ⟨p', cap, (World.cell?_setCell_other _ _ _ _ (by simp)).trans h1, (World.cell?_setCell_other _ _ _ _ (by simp)).trans h2, h3.setBox hZ, h4⟩

theorem AtomsAt.setBox {w : World} {Z o : Nat} {u : Value} {p : Option Addr} {l : List At} (h : AtomsAt w p l) (hZ : BoxOf w Z) : AtomsAt (w.setCell ⟨Z, o, none⟩ u) p l := by
  rcases h with h | ⟨b, off, rfl, hlt, hc⟩
  · exact Or.inl h
  · by_cases hl : l = []
    · exact Or.inl hl
    have hb : Z ≠ b := by
      intro e
      subst e
      obtain ⟨_, _, _, c1, _⟩ := hc 0 (List.length_pos_iff.2 hl)
      obtain ⟨a, n, c, e⟩ := hZ _ _ c1
      cases e
    refine Or.inr ⟨b, off, rfl, by simpa [World.setCell] using hlt, fun i hi => ?_⟩
    obtain ⟨p', cap, h1, h2, h3, h4, h5⟩ := hc i hi
    exact ⟨p', cap, (World.cell?_setCell_other _ _ _ _ (by simp)).trans h1, (World.cell?_setCell_other _ _ _ _ (by simp)).trans h2, (World.cell?_setCell_other _ _ _ _ (by simp)).trans h3, h4.setBox hZ, h5⟩
end Go.Proofs.Ytlpfnpkmgkbngab
