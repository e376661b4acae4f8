/- The contract of caretBegun. -/
import Derived.Test.YtlpfnpkmgkbngacCaretC
import Derived.Test.YtlpfnpkmgkbngacJoin
import Derived.Test.YtlpfnpkmgkbngacAllC
namespace Go.Proofs.Ytlpfnpkmgkbngac
open Go.RowKit

theorem hi_chkS : chkS hiL [] = 0 := by decide
theorem hi_of : ofL hiL [] 1 = ([(3, 0)], 1, 0) := by decide
theorem hi_at : atL hiL [] [(3, 0)] 1 = (1, 0) := by decide
theorem hi_at0 : atL hiL [] [] 0 = (0, 0) := by decide

theorem caretOf_hi (g : Nat) (w : World) (h : AtomsAt w (some ⟨g, 0, none⟩) hiL) :
    Calls Try.prog 13 #[.agg #[.slice (some ⟨g, 0, none⟩) 2 2, .slice none 0 0], .int .i64 1] w fun e w' => ∃ p c, e = .returned (.tuple #[.agg #[.slice p 1 c, .int .i64 1], .int .i64 0]) ∧ StepsAt w' p [(3, 0)] ∧ Below w.heap.size w w' := by
  have h1 := caretOf_any (some ⟨g, 0, none⟩) none 2 0 hiL [] 1 w (by decide) h (Or.inl rfl)
  rw [hi_of] at h1
  exact h1
theorem caretAt_hi (g : Nat) (p : Option Addr) (c : Nat) (w : World) (h : AtomsAt w (some ⟨g, 0, none⟩) hiL) (h' : StepsAt w p [(3, 0)]) :
    Calls Try.prog 14 #[.agg #[.slice (some ⟨g, 0, none⟩) 2 2, .slice none 0 0], .agg #[.slice p 1 c, .int .i64 1]] w fun e w' => e = .returned (.tuple #[.int .i64 1, .int .i64 0]) ∧ Below w.heap.size w w' := by
  have h1 := caretAt_any (some ⟨g, 0, none⟩) none p 2 0 c hiL [] [(3, 0)] 1 w (by decide) (by decide) h (Or.inl rfl) h'
  rw [hi_at] at h1
  exact h1
theorem caretAt_no (g : Nat) (w : World) (h : AtomsAt w (some ⟨g, 0, none⟩) hiL) :
    Calls Try.prog 14 #[.agg #[.slice (some ⟨g, 0, none⟩) 2 2, .slice none 0 0], .agg #[.slice none 0 0, .int .i64 0]] w fun e w' => e = .returned (.tuple #[.int .i64 0, .int .i64 0]) ∧ Below w.heap.size w w' := by
  have h1 := caretAt_any (some ⟨g, 0, none⟩) none none 2 0 0 hiL [] [] 0 w (by decide) (by decide) h (Or.inl rfl) (Or.inl rfl)
  rw [hi_at0] at h1
  exact h1

set_option maxRecDepth 100000 in
set_option maxHeartbeats 4000000 in
theorem caretBegun_true (w : World) :
    Calls Try.prog 19 #[] w fun e w' => e = .returned (.bool true) ∧ Below w.heap.size w w' := by
  go_enter Try.func19, Try.ntmps19
  go_wp2_with fail
  refine (hi_any _).mono ?_
  rintro e w1 ⟨g, rfl, h, hB⟩
  go_wp2_with fail
  have hb := (Below.refl w1.heap.size w1).alloc (Nat.le_refl _) (Obj.cells #[.slice (some ⟨g, 0, none⟩) 2 2, .slice none 0 0] 32)
  have q0 : (w1.alloc (Obj.cells #[.slice (some ⟨g, 0, none⟩) 2 2, .slice none 0 0] 32)).cell? ⟨w1.heap.size, 0, none⟩ = some (.slice (some ⟨g, 0, none⟩) 2 2) := by simp
  have q1 : (w1.alloc (Obj.cells #[.slice (some ⟨g, 0, none⟩) 2 2, .slice none 0 0] 32)).cell? ⟨w1.heap.size, 1, none⟩ = some (.slice none 0 0) := by simp
  have z : w1.heap.size < (w1.alloc (Obj.cells #[.slice (some ⟨g, 0, none⟩) 2 2, .slice none 0 0] 32)).heap.size := by simp
  replace h := h.below hb (Nat.le_refl _)
  replace hB := hB.thru hb hB.size
  generalize w1.alloc (Obj.cells #[.slice (some ⟨g, 0, none⟩) 2 2, .slice none 0 0] 32) = w2 at hb q0 q1 z h hB ⊢
  generalize w1.heap.size = Z at q0 q1 z ⊢
  clear hb
  refine (caretOf_hi g _ h).mono ?_
  rintro e w3 ⟨p, c, rfl, hs, hb⟩
  replace q0 := (hb.cell (p := ⟨Z, 0, none⟩) z).trans q0
  replace q1 := (hb.cell (p := ⟨Z, 1, none⟩) z).trans q1
  replace z := Nat.lt_of_lt_of_le z hb.size
  replace h := h.below hb (Nat.le_refl _)
  replace hB := hB.thru hb hB.size
  clear hb
  go_wp2_with fail
  have hb := (Below.refl w3.heap.size w3).alloc (Nat.le_refl _) (Obj.cells #[.slice p 1 c, .int .i64 1] 41)
  have m0 : (w3.alloc (Obj.cells #[.slice p 1 c, .int .i64 1] 41)).cell? ⟨w3.heap.size, 0, none⟩ = some (.slice p 1 c) := by simp
  have m1 : (w3.alloc (Obj.cells #[.slice p 1 c, .int .i64 1] 41)).cell? ⟨w3.heap.size, 1, none⟩ = some (.int .i64 1) := by simp
  have zM : w3.heap.size < (w3.alloc (Obj.cells #[.slice p 1 c, .int .i64 1] 41)).heap.size := by simp
  replace q0 := (hb.cell (p := ⟨Z, 0, none⟩) z).trans q0
  replace q1 := (hb.cell (p := ⟨Z, 1, none⟩) z).trans q1
  replace z := Nat.lt_of_lt_of_le z hb.size
  replace h := h.below hb (Nat.le_refl _)
  replace hs := hs.below hb (Nat.le_refl _)
  replace hB := hB.thru hb hB.size
  generalize w3.alloc (Obj.cells #[.slice p 1 c, .int .i64 1] 41) = w4 at hb m0 m1 zM q0 q1 z h hs hB ⊢
  generalize w3.heap.size = M at m0 m1 zM ⊢
  clear hb
  refine (caretAt_hi g p c _ h hs).mono ?_
  rintro e w5 ⟨rfl, hb⟩
  replace q0 := (hb.cell (p := ⟨Z, 0, none⟩) z).trans q0
  replace q1 := (hb.cell (p := ⟨Z, 1, none⟩) z).trans q1
  replace m0 := (hb.cell (p := ⟨M, 0, none⟩) zM).trans m0
  replace m1 := (hb.cell (p := ⟨M, 1, none⟩) zM).trans m1
  replace z := Nat.lt_of_lt_of_le z hb.size
  replace zM := Nat.lt_of_lt_of_le zM hb.size
  replace h := h.below hb (Nat.le_refl _)
  replace hs := hs.below hb (Nat.le_refl _)
  replace hB := hB.thru hb hB.size
  clear hb
  go_wp2_with fail
  refine (caretAt_no g _ h).mono ?_
  rintro e w6 ⟨rfl, hb⟩
  replace m0 := (hb.cell (p := ⟨M, 0, none⟩) zM).trans m0
  replace m1 := (hb.cell (p := ⟨M, 1, none⟩) zM).trans m1
  replace zM := Nat.lt_of_lt_of_le zM hb.size
  replace hs := hs.below hb (Nat.le_refl _)
  replace hB := hB.thru hb hB.size
  clear hb q0 q1 z h
  go_upto_region 5 with fail
  have hBd : Below w6.heap.size w6 w6.drew := (Below.refl _ _).drew
  go_region_held_law (fun w' => w'.cell? ⟨M, 0, none⟩ = some (.slice p 1 c) ∧ w'.cell? ⟨M, 1, none⟩ = some (.int .i64 1))
    (first | exact ⟨m0, m1⟩ | exact ⟨t0, t1⟩ | exact ⟨u0, u1⟩)
    (first
      | (go_at_call 57; refine (at_any 3 0 1 _).mono ?_; rintro e w7 ⟨rfl, hs7, hb7⟩; have hb7' : Below w6.heap.size w6 w7 := hBd.thru hb7 (Nat.le_refl _); have t0 := (hb7'.cell (p := ⟨M, 0, none⟩) zM).trans m0; have t1 := (hb7'.cell (p := ⟨M, 1, none⟩) zM).trans m1; have hs7' := hs.below hb7' (Nat.le_refl _))
      | (go_at_call 20; refine (sameMark_n _ _ _ _ _ _ [(3, 0)] [(3, 0)] _ _ _ rfl rfl (by decide) (by decide) hs7' hs7).mono ?_; rintro e w8 ⟨rfl, hb8⟩; rw [show (ordM [(3, 0)] 1 [(3, 0)] 1 == 0) = true from by decide]; have hb8' : Below w6.heap.size w6 w8 := hb7'.thru hb8 hb7'.size; have u0 := (hb8'.cell (p := ⟨M, 0, none⟩) zM).trans m0; have u1 := (hb8'.cell (p := ⟨M, 1, none⟩) zM).trans m1))
  go_wp2_with fail
  go_ret
  exact ⟨rfl, hB.thru hb8' hB.size⟩
end Go.Proofs.Ytlpfnpkmgkbngac

namespace Go.Proofs.Ytlpfnpkmgkbngac
open Go.RowKit


theorem deedsAt_one {w : World} {d : Dd} {p q : Option Addr} {cp cq : Nat} (h : DdAt w d p q) (h1 : -9223372036854775808 ≤ d.many) (h2 : d.many ≤ 9223372036854775807) : DeedsAt (w.alloc (Obj.cells #[.int .i64 d.kind, .slice p d.rp.length cp, .int .i64 d.rc, .string d.rt, .slice q d.mp.length cq, .int .i64 d.mc, .int .i64 d.many] 65)) (some ⟨w.heap.size, 0, none⟩) [d] := by
  refine Or.inr ⟨w.heap.size, 0, rfl, by simp, fun i hi => ?_⟩
  have h0 : i = 0 := by simp at hi; omega
  subst h0
  exact ⟨p, cp, q, cq, by simp, by simp, by simp, by simp, by simp, by simp, by simp, h.below ((Below.refl _ _).alloc (Nat.le_refl _) _), h1, h2⟩

theorem cells_boxes3 (w : World) (a0 a1 u0 u1 : Value) (cs : Array Value) (T T' : TypeId) : (((w.alloc (Obj.cells #[a0, a1] T)).alloc (Obj.cells cs T')).alloc (Obj.cells #[u0, u1] T)).cell? ⟨w.heap.size + 1 + 1, 0, none⟩ = some u0 ∧ (((w.alloc (Obj.cells #[a0, a1] T)).alloc (Obj.cells cs T')).alloc (Obj.cells #[u0, u1] T)).cell? ⟨w.heap.size + 1 + 1, 1, none⟩ = some u1 := by
  constructor <;> go_simp

set_option maxRecDepth 100000 in
set_option maxHeartbeats 4000000 in
theorem stateDo_ok (a b : Option Addr) (cap cap' : Nat) (l : List At) (g : List Mk) (d : Dd) (p q : Option Addr) (cp cq : Nat) (w : World) (hl : l.length ≤ maxLen) (h : AtomsAt w a l) (h' : MarksAt w b g) (hd : DdAt w d p q) (h1 : -9223372036854775808 ≤ d.many) (h2 : d.many ≤ 9223372036854775807) :
    Calls Try.prog 58 #[.agg #[.slice a l.length cap, .slice b g.length cap'], ddV d p q cp cq] w fun e w' => Below w.heap.size w w' ∧ AllPost l g [d] w.heap.size e w' := by
  unfold ddV
  have hB := (((Below.refl w.heap.size w).alloc (Nat.le_refl _) (Obj.cells #[.slice a l.length cap, .slice b g.length cap'] 32)).alloc (by simp) (Obj.cells #[.int .i64 d.kind, .slice p d.rp.length cp, .int .i64 d.rc, .string d.rt, .slice q d.mp.length cq, .int .i64 d.mc, .int .i64 d.many] 65)).alloc (by simp; omega) (Obj.cells #[.slice none 0 0, .slice none 0 0] 32)
  have hz : (((w.alloc (Obj.cells #[.slice a l.length cap, .slice b g.length cap'] 32)).alloc (Obj.cells #[.int .i64 d.kind, .slice p d.rp.length cp, .int .i64 d.rc, .string d.rt, .slice q d.mp.length cq, .int .i64 d.mc, .int .i64 d.many] 65)).alloc (Obj.cells #[.slice none 0 0, .slice none 0 0] 32)).heap.size = w.heap.size + 3 := by simp
  obtain ⟨r0, r1⟩ := cells_boxes3 w (.slice a l.length cap) (.slice b g.length cap') (.slice none 0 0) (.slice none 0 0) #[.int .i64 d.kind, .slice p d.rp.length cp, .int .i64 d.rc, .string d.rt, .slice q d.mp.length cq, .int .i64 d.mc, .int .i64 d.many] 32 65
  have rf : ∀ o, (((w.alloc (Obj.cells #[.slice a l.length cap, .slice b g.length cap'] 32)).alloc (Obj.cells #[.int .i64 d.kind, .slice p d.rp.length cp, .int .i64 d.rc, .string d.rt, .slice q d.mp.length cq, .int .i64 d.mc, .int .i64 d.many] 65)).alloc (Obj.cells #[.slice none 0 0, .slice none 0 0] 32)).frozen? ⟨w.heap.size + 1 + 1, o, none⟩ = false := fun o => by go_simp
  replace h := h.below hB (Nat.le_refl _)
  replace h' := h'.below hB (Nat.le_refl _)
  replace hd := hd.below hB
  go_enter Try.func58, Try.ntmps58
  go_wp2_with fail
  generalize ((w.alloc (Obj.cells #[.slice a l.length cap, .slice b g.length cap'] 32)).alloc (Obj.cells #[.int .i64 d.kind, .slice p d.rp.length cp, .int .i64 d.rc, .string d.rt, .slice q d.mp.length cq, .int .i64 d.mc, .int .i64 d.many] 65)).alloc (Obj.cells #[.slice none 0 0, .slice none 0 0] 32) = W at hB hz r0 r1 rf h h' hd ⊢
  rw [← hz]
  have hbn := (Below.refl W.heap.size W).alloc (Nat.le_refl _) (Obj.cells #[.int .i64 d.kind, .slice p d.rp.length cp, .int .i64 d.rc, .string d.rt, .slice q d.mp.length cq, .int .i64 d.mc, .int .i64 d.many] 65)
  have hDs := deedsAt_one (cp := cp) (cq := cq) hd h1 h2
  have HAL := hidE (stateAll_ok a b _ cap cap' 1 l g [d] _ hl (by simp [maxLen]) (h.below hbn (Nat.le_refl _)) (h'.below hbn (Nat.le_refl _)) hDs)
  have zR : w.heap.size + 1 + 1 < (W.alloc (Obj.cells #[.int .i64 d.kind, .slice p d.rp.length cp, .int .i64 d.rc, .string d.rt, .slice q d.mp.length cq, .int .i64 d.mc, .int .i64 d.many] 65)).heap.size := by have := hbn.size; omega
  have hBn := hB.thru hbn (by omega)
  replace r0 := (hbn.cell (p := ⟨w.heap.size + 1 + 1, 0, none⟩) (by show w.heap.size + 1 + 1 < _; omega)).trans r0
  replace r1 := (hbn.cell (p := ⟨w.heap.size + 1 + 1, 1, none⟩) (by show w.heap.size + 1 + 1 < _; omega)).trans r1
  replace rf := fun o => (hbn.frozen (p := ⟨w.heap.size + 1 + 1, o, none⟩) (by show w.heap.size + 1 + 1 < _; omega)).trans (rf o)
  have hwW : w.heap.size ≤ (W.alloc (Obj.cells #[.int .i64 d.kind, .slice p d.rp.length cp, .int .i64 d.rc, .string d.rt, .slice q d.mp.length cq, .int .i64 d.mc, .int .i64 d.many] 65)).heap.size := by omega
  clear hDs hbn hB hd h h' hz h1 h2 hl
  generalize W.alloc (Obj.cells #[.int .i64 d.kind, .slice p d.rp.length cp, .int .i64 d.rc, .string d.rt, .slice q d.mp.length cq, .int .i64 d.mc, .int .i64 d.many] 65) = W2 at HAL zR hBn r0 r1 rf hwW ⊢
  refine HAL.out.mono ?_
  rintro e w2 ⟨hb2, hp⟩
  clear HAL
  replace r0 := (hb2.cell (p := ⟨w.heap.size + 1 + 1, 0, none⟩) zR).trans r0
  replace r1 := (hb2.cell (p := ⟨w.heap.size + 1 + 1, 1, none⟩) zR).trans r1
  replace rf := fun o => (hb2.frozen (p := ⟨w.heap.size + 1 + 1, o, none⟩) zR).trans (rf o)
  have hB2 := hBn.thru hb2 hwW
  clear hBn hb2
  rcases hp with ⟨hne, rfl⟩ | ⟨h0, l', g', p2, c2, q2, d2, hok, hda, hok', rfl, hP, hM⟩
  · have HNE := hidE hne
    clear hne
    go_wp2_with fail
    refine bodyPost_ret (v := .tuple #[.agg #[.slice none 0 0, .slice none 0 0], .int .i64 (errAll l g [d])]) (by simp [results, Try.results58, go_sem, r0, r1]) rfl ?_
    exact ⟨(hB2.setCell (by simp; omega) _).setCell (by simp; omega) _, Or.inl ⟨HNE.out, rfl⟩⟩
  · have H0 := hidE h0
    have HDA := hidE hda
    have HOK := hidE hok
    have HOK' := hidE hok'
    clear h0 hda hok hok'
    have s3 : (w2.setCell ⟨w.heap.size + 1 + 1, 0, none⟩ (.slice p2 l'.length c2)).cell? ⟨w.heap.size + 1 + 1, 1, none⟩ = some (.slice none 0 0) := (World.cell?_setCell_other _ _ _ _ (by simp)).trans r1
    go_wp2_with fail
    refine bodyPost_ret (v := .tuple #[.agg #[.slice p2 l'.length c2, .slice q2 g'.length d2], .int .i64 0]) (by simp [results, Try.results58, go_sem, r0, s3]) rfl ?_
    exact ⟨(hB2.setCell (by simp; omega) _).setCell (by simp; omega) _, Or.inr ⟨H0.out, l', g', p2, c2, q2, d2, HOK.out, HDA.out, HOK'.out, rfl, ((hP.setLow zR _ _).setLow zR _ _).mono hwW, ((hM.setLow zR _ _).setLow zR _ _).mono hwW⟩⟩
end Go.Proofs.Ytlpfnpkmgkbngac
