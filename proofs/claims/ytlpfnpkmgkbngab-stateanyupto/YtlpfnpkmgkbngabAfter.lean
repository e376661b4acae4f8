/- How lists of marks and of atoms that are handed in are read. -/
import Derived.Test.YtlpfnpkmgkbngabAtomCk
import Derived.Deep.RegionLawGrows
import Derived.Deep.RegionHeldLaw
namespace Go.Proofs.Ytlpfnpkmgkbngab
open Go.ChangeShapes Go.WideShapes Go.ChangeAt Go.RowKit Go.Deep Go.Joins

/-- a list whose elements lie K cells each behind an address -/
def RowsAt {α : Type} (Q : α → List Value → Prop) (K : Nat) (w : World) (a : Option Addr) (zs : List α) : Prop :=
  zs = [] ∨ ∃ b off, a = some ⟨b, off, none⟩ ∧ b < w.heap.size ∧ ∀ i (h : i < zs.length), ∃ cs, Q zs[i] cs ∧ cs.length = K ∧ ∀ j, j < K → w.cell? ⟨b, off + i * K + j, none⟩ = cs[j]?

theorem open_rows {H : Type} {enc : TypeId × Value → H} {W : World} {α : Type} {Q : α → List Value → Prop} {K : Nat} {t e : TypeId} {fuel : Nat} {cs : List Value} {x : DataW H × List MemPlace} (ht : Try.prog.underlying t = some (.slice e)) (hK : Try.prog.cellsOf e = K) (hK0 : 0 < K)
    (hQ : ∀ n cs' y, DataW.trod enc Try.prog W 0 (fun _ => true) true n e cs' = some y → ∃ z : α, Q z cs')
    (h : DataW.trod enc Try.prog W 0 (fun _ => true) true fuel t cs = some x) :
    ∃ a cap zs, cs = [.slice a (List.length zs) cap] ∧ RowsAt Q K W a zs ∧ zs.length ≤ cap ∧ cap ≤ maxLen := by
  rcases open_slice ht h with ⟨rfl, _⟩ | ⟨ad, len, cap, m, n, D, Pl, rfl, hb, hl, hm, hmm, hxx, hx⟩
  · exact ⟨none, 0, [], rfl, Or.inl rfl, Nat.le_refl _, Nat.zero_le _⟩
  · have hlm : len ≤ m := by rw [hmm]; split <;> omega
    rw [hK] at hx
    have each : ∀ i, i < len → ∃ z : α, ∃ cs', Q z cs' ∧ cs'.length = K ∧ ∀ j, j < K → W.cell? ((ad.add (i * K)).add j) = cs'[j]? := by
      intro i hi
      obtain ⟨cs', h1, h2⟩ := hx i (by omega)
      obtain ⟨z, hz⟩ := hQ _ _ _ h2
      obtain ⟨_, h3, h4⟩ := World.cells?_some h1
      exact ⟨z, cs', hz, h3, h4⟩
    obtain ⟨q, hq⟩ : ∃ q : List α, q.length = len ∧ ∀ i (h : i < q.length), ∃ cs', Q q[i] cs' ∧ cs'.length = K ∧ ∀ j, j < K → W.cell? ((ad.add (i * K)).add j) = cs'[j]? := by
      clear hx hl hm hmm hlm h hxx
      induction len with
      | zero => exact ⟨[], rfl, fun i h => by simp at h⟩
      | succ len ih =>
        obtain ⟨q, hq1, hq2⟩ := ih (fun i hi => each i (by omega))
        obtain ⟨z, hz⟩ := each len (by omega)
        refine ⟨q ++ [z], by simp [hq1], fun i hi => ?_⟩
        by_cases e : i < q.length
        · rw [List.getElem_append_left e]; exact hq2 i e
        · have : i = len := by simp at hi; omega
          subst this
          rw [List.getElem_append_right (by omega)]
          simpa [hq1] using hz
    obtain ⟨hq1, hq2⟩ := hq
    subst hq1
    refine ⟨some ad, cap, q, rfl, ?_, hl, hm⟩
    by_cases hlen : q.length = 0
    · exact Or.inl (List.length_eq_zero_iff.1 hlen)
    · obtain ⟨b, off, spot⟩ := ad
      obtain ⟨cs', _, h3, h4⟩ := hq2 0 (by omega)
      have h0 := (h4 0 hK0).trans (List.getElem?_eq_getElem (by omega))
      have hspot : spot = none := by simpa [Addr.add] using World.cell?_spot h0
      subst hspot
      refine Or.inr ⟨b, off, rfl, by have := block_lt_of_cell h0; simpa [Addr.add] using this, fun i hi => ?_⟩
      obtain ⟨cs'', g1, g2, g3⟩ := hq2 i hi
      exact ⟨cs'', g1, g2, fun j hj => by have := g3 j hj; rw [add_plain, add_plain] at this; exact this⟩

/-- two cells: a step -/
def StepQ (z : Int × Int) (cs : List Value) : Prop := cs = [.int .i64 z.1, .int .i64 z.2]
/-- two cells: a mark -/
def MarkQ (W : World) (z : List (Int × Int) × Int) (cs : List Value) : Prop := ∃ p cap, cs = [.slice p z.1.length cap, .int .i64 z.2] ∧ StepsAt W p z.1 ∧ z.1.length ≤ cap ∧ cap ≤ maxLen
/-- three cells: an atom -/
def AtomQ (W : World) (z : At) (cs : List Value) : Prop := ∃ p cap, cs = [.slice p z.path.length cap, .int .i64 z.clock, .int .u8 z.sign] ∧ StepsAt W p z.path ∧ z.path.length ≤ cap ∧ cap ≤ maxLen ∧ 0 ≤ z.sign ∧ z.sign ≤ 255

theorem u8_wf {n : Int} (h : (Lit.int .u8 n).wf = true) : 0 ≤ n ∧ n ≤ 255 := by
  have h1 : IntKind.u8.min = 0 := by decide
  have h2 : IntKind.u8.max = 255 := by decide
  simp only [Lit.wf, h1, h2, Bool.and_eq_true, decide_eq_true_eq] at h
  exact h

set_option maxRecDepth 100000 in
theorem open_stepC {H : Type} {enc : TypeId × Value → H} {W : World} {n : Nat} {cs : List Value} {y : DataW H × List MemPlace} (h : DataW.trod enc Try.prog W 0 (fun _ => true) true n 88 cs = some y) : ∃ z, StepQ z cs := by
  obtain ⟨y0, y1, m, _, hl, h0, h1⟩ := trod_struct2 Try.underlying88 h
  have hl2 : cs.length = 2 := hl.trans (by kernel_rfl)
  match cs, hl2 with
  | [v0, v1], _ =>
    have e0 : DataW.trod enc Try.prog W 0 (fun _ => true) true m 3 [v0] = some y0 := h0
    have e1 : DataW.trod enc Try.prog W 0 (fun _ => true) true m 3 [v1] = some y1 := h1
    obtain ⟨a, ha, _⟩ := DataW.trod_int Try.underlying3 e0
    obtain ⟨b, hb, _⟩ := DataW.trod_int Try.underlying3 e1
    simp only [List.cons.injEq, and_true] at ha hb
    exact ⟨(a, b), by rw [ha, hb]; rfl⟩

set_option maxRecDepth 100000 in
theorem open_stepsC {H : Type} {enc : TypeId × Value → H} {W : World} {n : Nat} {cs : List Value} {y : DataW H × List MemPlace} (h : DataW.trod enc Try.prog W 0 (fun _ => true) true n 22 cs = some y) :
    ∃ a cap l, cs = [.slice a (List.length l) cap] ∧ StepsAt W a l ∧ l.length ≤ cap ∧ cap ≤ maxLen := by
  obtain ⟨a, cap, l, rfl, hr, h1, h2⟩ := open_rows (Q := StepQ) (K := 2) Try.underlying22 (by kernel_rfl) (by decide) (fun n cs' y h => open_stepC h) h
  refine ⟨a, cap, l, rfl, ?_, h1, h2⟩
  rcases hr with e | ⟨b, off, rfl, hb, hc⟩
  · exact Or.inl e
  · refine Or.inr ⟨b, off, rfl, hb, fun i hi => ?_⟩
    obtain ⟨cs', rfl, _, hj⟩ := hc i hi
    exact ⟨hj 0 (by decide), hj 1 (by decide)⟩

set_option maxRecDepth 100000 in
theorem open_markC {H : Type} {enc : TypeId × Value → H} {W : World} {n : Nat} {cs : List Value} {y : DataW H × List MemPlace} (h : DataW.trod enc Try.prog W 0 (fun _ => true) true n 24 cs = some y) : ∃ z, MarkQ W z cs := by
  obtain ⟨y0, y1, m, _, hl, h0, h1⟩ := trod_struct2 Try.underlying24 h
  have hl2 : cs.length = 2 := hl.trans (by kernel_rfl)
  match cs, hl2 with
  | [v0, v1], _ =>
    have e0 : DataW.trod enc Try.prog W 0 (fun _ => true) true m 22 [v0] = some y0 := h0
    have e1 : DataW.trod enc Try.prog W 0 (fun _ => true) true m 3 [v1] = some y1 := h1
    obtain ⟨a, cap, l, ha, hs, hl, hc⟩ := open_stepsC e0
    obtain ⟨b, hb, _⟩ := DataW.trod_int Try.underlying3 e1
    simp only [List.cons.injEq, and_true] at ha hb
    exact ⟨(l, b), a, cap, by rw [ha, hb], hs, hl, hc⟩

set_option maxRecDepth 100000 in
theorem open_atomC {H : Type} {enc : TypeId × Value → H} {W : World} {n : Nat} {cs : List Value} {y : DataW H × List MemPlace} (h : DataW.trod enc Try.prog W 0 (fun _ => true) true n 69 cs = some y) : ∃ z, AtomQ W z cs := by
  obtain ⟨y0, y1, m, _, hl, h0, h1⟩ := trod_struct2 Try.underlying69 h
  have hl2 : cs.length = 3 := hl.trans (by kernel_rfl)
  match cs, hl2 with
  | [v0, v1, v2], _ =>
    have e0 : DataW.trod enc Try.prog W 0 (fun _ => true) true m 24 [v0, v1] = some y0 := h0
    have e1 : DataW.trod enc Try.prog W 0 (fun _ => true) true m 5 [v2] = some y1 := h1
    obtain ⟨z, p, cap, ha, hs, hl, hc⟩ := open_markC e0
    obtain ⟨b, hb, _, hwf⟩ := DataW.trod_int Try.underlying5 e1
    simp only [List.cons.injEq, and_true] at ha hb
    exact ⟨⟨z.1, z.2, b⟩, p, cap, by rw [ha.1, ha.2, hb], hs, hl, hc, u8_wf hwf⟩

theorem marksAt_rows {W : World} {a : Option Addr} {l : List (List (Int × Int) × Int)} (hr : RowsAt (MarkQ W) 2 W a l) : MarksAt W a l := by
  rcases hr with e | ⟨b, off, rfl, hb, hc⟩
  · exact Or.inl e
  · refine Or.inr ⟨b, off, rfl, hb, fun i hi => ?_⟩
    obtain ⟨cs', ⟨p, cap, rfl, hs, h1, h2⟩, _, hj⟩ := hc i hi
    exact ⟨p, cap, hj 0 (by decide), hj 1 (by decide), hs, by omega⟩

theorem atomsAt_rows {W : World} {a : Option Addr} {l : List At} (hr : RowsAt (AtomQ W) 3 W a l) : AtomsAt W a l := by
  rcases hr with e | ⟨b, off, rfl, hb, hc⟩
  · exact Or.inl e
  · refine Or.inr ⟨b, off, rfl, hb, fun i hi => ?_⟩
    obtain ⟨cs', ⟨p, cap, rfl, hs, h1, h2, h3, h4⟩, _, hj⟩ := hc i hi
    exact ⟨p, cap, hj 0 (by decide), hj 1 (by decide), hj 2 (by decide), hs, by omega, h1, h3, h4⟩

set_option maxRecDepth 100000 in
theorem open_marks {H : Type} {enc : TypeId × Value → H} {W : World} {b0 : Nat} {v : Value} {d : DataW H} {p : List MemPlace} (hv : Value.okWide Try.prog W .any b0 49 v) (h : DataW.Trod enc Try.prog W 0 (fun _ => true) true 49 v d p) :
    ∃ a cap l, v = .slice a (List.length l) cap ∧ MarksAt W a l ∧ l.length ≤ cap ∧ l.length ≤ maxLen ∧ cap ≤ maxLen := by
  obtain ⟨a, len, cap, rfl⟩ := okWide_slice Try.underlying49 hv
  obtain ⟨fuel, hf⟩ := h
  obtain ⟨a', cap', l, hcs, hr, h1, h2⟩ := open_rows (Q := MarkQ W) (K := 2) Try.underlying49 (by kernel_rfl) (by decide) (fun n cs' y h => open_markC h) hf
  simp [Value.cells] at hcs
  obtain ⟨rfl, rfl, rfl⟩ := hcs
  exact ⟨a, cap, l, rfl, marksAt_rows hr, h1, by omega, h2⟩

set_option maxRecDepth 100000 in
theorem open_atoms {H : Type} {enc : TypeId × Value → H} {W : World} {b0 : Nat} {v : Value} {d : DataW H} {p : List MemPlace} (hv : Value.okWide Try.prog W .any b0 27 v) (h : DataW.Trod enc Try.prog W 0 (fun _ => true) true 27 v d p) :
    ∃ a cap l, v = .slice a (List.length l) cap ∧ AtomsAt W a l ∧ l.length ≤ cap ∧ l.length ≤ maxLen ∧ cap ≤ maxLen := by
  obtain ⟨a, len, cap, rfl⟩ := okWide_slice Try.underlying27 hv
  obtain ⟨fuel, hf⟩ := h
  obtain ⟨a', cap', l, hcs, hr, h1, h2⟩ := open_rows (Q := AtomQ W) (K := 3) Try.underlying27 (by kernel_rfl) (by decide) (fun n cs' y h => open_atomC h) hf
  simp [Value.cells] at hcs
  obtain ⟨rfl, rfl, rfl⟩ := hcs
  exact ⟨a, cap, l, rfl, atomsAt_rows hr, h1, by omega, h2⟩
end Go.Proofs.Ytlpfnpkmgkbngab

namespace Go.Proofs.Ytlpfnpkmgkbngab
open Go.RowKit

theorem owns_form {w : World} {base : Nat} {e : TypeId} {size : Nat} {v : Value} {n : Nat} {xs : List Value} (h : w.ownsRow base e size v n xs) (hn : 0 < n) : ∃ g cap, v = .slice (some ⟨g, 0, none⟩) n cap := by
  rcases h.2 with ⟨_, h0⟩ | ⟨g, cap, cur, rfl, _⟩
  · omega
  · exact ⟨g, cap, rfl⟩

theorem keepB {w1 w' : World} {z : Nat} {v0 v1 : Value} (hb : Below w1.heap.size w1 w') (q0 : w1.cell? ⟨z, 0, none⟩ = some v0) (q1 : w1.cell? ⟨z, 1, none⟩ = some v1) (hz : z < w1.heap.size) :
    Below w1.heap.size w1 w' ∧ w'.cell? ⟨z, 0, none⟩ = some v0 ∧ w'.cell? ⟨z, 1, none⟩ = some v1 :=
  ⟨hb, (hb.cell (p := ⟨z, 0, none⟩) hz).trans q0, (hb.cell (p := ⟨z, 1, none⟩) hz).trans q1⟩

end Go.Proofs.Ytlpfnpkmgkbngab

namespace Go.Proofs.Ytlpfnpkmgkbngab
open Go.RowKit

set_option maxRecDepth 100000 in
set_option maxHeartbeats 2000000 in
theorem afterOf_any (b off cap : Nat) (l : List (Int × Int)) (c n : Int) (w : World) (h : StepsAt w (some ⟨b, off, none⟩) l) (hok : chk l c = 0) (h0 : 0 ≤ n) (h60 : n ≤ 60) :
    Calls Try.prog 46 #[.agg #[.slice (some ⟨b, off, none⟩) l.length cap, .int .i64 c], .int .i64 n] w fun e w' => ∃ g cap', e = .returned (.agg #[.slice (some ⟨g, 0, none⟩) l.length cap', .int .i64 (c + n)]) ∧ StepsAt w' (some ⟨g, 0, none⟩) (bump l n) ∧ Below w.heap.size w w' ∧ w'.ownsRow w.heap.size 88 2 (.slice (some ⟨g, 0, none⟩) l.length cap') l.length (flatS (bump l n)) := by
  obtain ⟨hl0, hl10, hoks, _, hc1, hc2⟩ := chk_ok hok
  have hd := okStep_iff.1 (okSteps_get hoks (i := l.length - 1) (by omega))
  obtain ⟨i0, hi, hz0, hz1, hz2⟩ := Try.info88
  clear hok
  have hwr : IntKind.i64.wrap (c + n) = c + n := by rw [IntKind.wrap_i64]; omega
  obtain ⟨q0, q1, q3, q4, hz, hb1⟩ := boxes2 w (.slice (some ⟨b, off, none⟩) l.length cap) (.int .i64 c) (.slice none 0 0) (.int .i64 0) 24 24
  have q2 : ∀ o, ((w.alloc (Obj.cells #[.slice (some ⟨b, off, none⟩) l.length cap, .int .i64 c] 24)).alloc (Obj.cells #[.slice none 0 0, .int .i64 0] 24)).frozen? ⟨w.heap.size + 1, o, none⟩ = false := by intro o; go_simp
  go_enter Try.func46, Try.ntmps46
  go_upto_region 1 with fail
  generalize (w.alloc (Obj.cells #[.slice (some ⟨b, off, none⟩) l.length cap, .int .i64 c] 24)).alloc (Obj.cells #[.slice none 0 0, .int .i64 0] 24) = w1 at q0 q1 q2 q3 q4 hz hb1 ⊢
  have z1 : w.heap.size < w1.heap.size := by omega
  have z2 : w.heap.size + 1 < w1.heap.size := by omega
  clear hz
  have hBd : Below w1.heap.size w1 w1.drew := (Below.refl _ _).drew
  have hs1 := h.below hb1 (Nat.le_refl _)
  go_cut [5] (fun t wc => ∃ N g cap2, t = .pointer (some ⟨N, 0, none⟩) ∧ w1.heap.size ≤ N ∧ N < wc.heap.size ∧ w1.heap.size ≤ g ∧ g ≠ N ∧ wc.cell? ⟨N, 0, none⟩ = some (.slice (some ⟨g, 0, none⟩) l.length cap2) ∧ wc.cell? ⟨N, 1, none⟩ = some (.int .i64 (c + n)) ∧ wc.ownsRow w1.heap.size 88 2 (.slice (some ⟨g, 0, none⟩) l.length cap2) l.length (flatS l) ∧ Below w1.heap.size w1 wc)
  case first =>
    go_region_held_law (fun w' => Below w1.heap.size w1 w' ∧ w'.cell? ⟨w.heap.size, 0, none⟩ = some (.slice (some ⟨b, off, none⟩) l.length cap) ∧ w'.cell? ⟨w.heap.size, 1, none⟩ = some (.int .i64 c)) ((refine keepB ?_ q0 q1 z1; first | exact hBd | exact ((Below.refl _ _).alloc (Nat.le_refl _) _).drew | exact (((Below.refl _ _).alloc (Nat.le_refl _) _).alloc (by simp) _).drew | exact hBw | exact hBw.alloc hzw _ | exact (hBw.setCell (by simp) _).setCell (by simp) _ | exact (hBw.setCell (by simp; omega) _).setCell (by simp; omega) _))
      (first | (refine step_append_grows rfl (.tmp 6) (.tmp 8) 22 rfl 88 i0 (.agg #[.int .i64 0, .int .i64 0]) 2 16 Try.underlying22 hi hz0 hz1 hz2 rfl (by decide) _ 0 0 [] (by simp [Act.eval]; rfl) (by simp) rfl (by intro _ _ j u hj; simp at hj) ⟨b, off, none⟩ l.length cap (flatS l) (by simp [Act.eval]) (flatS_length l) (by intro j u hj; rw [Addr.add_lit]; exact (hs1.below (And.left ‹Below w1.heap.size w1 _ ∧ _›) (Nat.le_refl _)).cells j u hj) (flatS_one l) (by omega) (by unfold maxLen; omega) (by omega) ?_; intro v' w2 hown hgrow; rw [Nat.zero_add, List.nil_append] at hown; obtain ⟨g, cap2, hv⟩ := owns_form hown hl0; subst hv; have hBw := (And.left ‹Below w1.heap.size w1 _ ∧ _›).grown hgrow (And.left ‹Below w1.heap.size w1 _ ∧ _›).size (by intro k hk; simp at hk); have hzw := hBw.size; have hBp := (Below.refl _ _).grown hgrow (Nat.le_refl _) (by intro k hk; simp at hk); have c0 := fun o => hBp.cell (p := ⟨w1.heap.size, o, none⟩) (by simp <;> omega); have f0 := fun o => hBp.frozen (p := ⟨w1.heap.size, o, none⟩) (by simp <;> omega); have c1 := fun o (hh : w1.heap.size + 1 < _) => hBp.cell (p := ⟨w1.heap.size + 1, o, none⟩) hh; have f1 := fun o (hh : w1.heap.size + 1 < _) => hBp.frozen (p := ⟨w1.heap.size + 1, o, none⟩) hh; have t0 := (hBw.cell (p := ⟨w.heap.size, 0, none⟩) z1).trans q0; have t1 := (hBw.cell (p := ⟨w.heap.size, 1, none⟩) z1).trans q1))
    · go_wp2_with fail
      go_meet
      have hg := hown.lt g rfl
      simp at hg
      exact ⟨w2.heap.size, g, cap2, rfl, hzw, by simp, by omega, by omega, by simp, by simp, (owns_base hown (by simp)).alloc _, hBw.alloc hzw _⟩
    · go_wp2_with fail
      go_meet
      have hg := hown.lt g rfl
      have hz2 := hBp.size
      simp at hg hz2
      exact ⟨w1.heap.size + 1, g, cap2, rfl, by omega, by simp [World.setCell]; omega, by omega, by omega, by go_simp, by go_simp, ownsRow_setCell_other (ownsRow_setCell_other (owns_base hown (by simp; omega)) (by simp [Value.ownBlock]; omega) _) (by simp [Value.ownBlock]; omega) _, (hBw.setCell (by simp) _).setCell (by simp) _⟩
    · go_wp2_with fail
      go_meet
      have hg := hown.lt g rfl
      have hz2 := hBp.size
      simp at hg hz2
      exact ⟨w1.heap.size, g, cap2, rfl, by omega, by simp [World.setCell]; omega, by omega, by omega, by go_simp, by go_simp, ownsRow_setCell_other (ownsRow_setCell_other (owns_base hown (by simp; omega)) (by simp [Value.ownBlock]; omega) _) (by simp [Value.ownBlock]; omega) _, (hBw.setCell (by simp) _).setCell (by simp) _⟩
  case rest =>
    obtain ⟨N, g, cap2, rfl, hN1, hN2, hg1, hgN, e0, e1, hown, hb2⟩ := hcut
    have hgl := (hown.lt g rfl).2
    have fc := (hown.cellAt ((l.length - 1) * 2) (by omega)).trans (flatS_get l (l.length - 1) (by omega)).1
    have ff := hown.frozenAt ((l.length - 1) * 2)
    have hst := hown.stored ((l.length - 1) * 2) (.int .i64 (l[l.length - 1].1 + n))
    rw [flatS_set l _ (by omega)] at hst
    have hbump : l.set (l.length - 1) (l[l.length - 1].1 + n, l[l.length - 1].2) = bump l n := by unfold bump setL; rw [lastS_eq hl0]
    rw [hbump] at hst
    have hlb : (bump l n).length = l.length := by unfold bump setL; simp
    have hsa := stepsAt_owns hst.1 hlb.symm
    clear hbump hlb
    obtain ⟨hcc, hff⟩ := bcellN hb2 w1.heap.size (Nat.le_refl _)
    have p3 : wc.cell? ⟨w.heap.size + 1, 0, none⟩ = some (.slice none 0 0) := (hcc _ _ z2).trans q3
    have p4 : wc.cell? ⟨w.heap.size + 1, 1, none⟩ = some (.int .i64 0) := (hcc _ _ z2).trans q4
    have p2 : ∀ o, wc.frozen? ⟨w.heap.size + 1, o, none⟩ = false := fun o => (hff _ _ z2).trans (q2 o)
    clear hcc hff q0 q1 q2 q3 q4
    have hgn' : N ≠ g := fun e => hgN e.symm
    have hg2 : w.heap.size + 1 ≠ g := by omega
    have hg3 : g ≠ w.heap.size + 1 := by omega
    have hN3 : N ≠ w.heap.size + 1 := by omega
    have hN4 : w.heap.size + 1 ≠ N := by omega
    obtain ⟨d1, d2, d3, d4⟩ := hd
    generalize l[l.length - 1].1 = dl at fc hst d1 d2 hsa
    have y0 : (wc.setCell ⟨g, (l.length - 1) * 2, none⟩ (.int .i64 (dl + n))).cell? ⟨N, 0, none⟩ = some (.slice (some ⟨g, 0, none⟩) l.length cap2) := cell_other hgn' e0
    have y1 : (wc.setCell ⟨g, (l.length - 1) * 2, none⟩ (.int .i64 (dl + n))).cell? ⟨N, 1, none⟩ = some (.int .i64 (c + n)) := cell_other hgn' e1
    have y2 : (wc.setCell ⟨g, (l.length - 1) * 2, none⟩ (.int .i64 (dl + n))).cell? ⟨w.heap.size + 1, 0, none⟩ = some (.slice none 0 0) := cell_other hg2 p3
    have y3 : (wc.setCell ⟨g, (l.length - 1) * 2, none⟩ (.int .i64 (dl + n))).cell? ⟨w.heap.size + 1, 1, none⟩ = some (.int .i64 0) := cell_other hg2 p4
    go_wp2
    refine bodyPost_ret (v := .agg #[.slice (some ⟨g, 0, none⟩) l.length cap2, .int .i64 (c + n)]) (by simp [results, Try.results46, go_sem, y2, y3]) rfl ?_
    refine ⟨g, cap2, rfl, (hsa.setOld (by simp; omega)).setOld (by simp; omega), ?_, ?_⟩
    · exact (((hb1.thru hb2 hb1.size).setCell (by show _ ≤ g; omega) _).setCell (by simp) _).setCell (by simp) _
    · exact ownsRow_setCell_other (ownsRow_setCell_other (owns_base hst.1 (by omega)) (by simp [Value.ownBlock]; omega) _) (by simp [Value.ownBlock]; omega) _
end Go.Proofs.Ytlpfnpkmgkbngab
