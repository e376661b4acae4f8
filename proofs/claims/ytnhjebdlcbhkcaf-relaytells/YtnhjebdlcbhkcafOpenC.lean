/- How a mark that is handed in is read, and how arguments are read again behind a call that turned nothing old. -/
import Derived.Test.YtnhjebdlcbhkcafOwnsF
import Derived.ProofKit
import Derived.SizedLaws
import Derived.Lib.SmallJoins
import Derived.Deep.SlicePairs
import Derived.Lib.RowBridge
import Derived.Test.YtnhjebdlcbhkcafAtomCkR
namespace Go.Proofs.Ytnhjebdlcbhkcaf
open Go.ChangeShapes Go.WideShapes Go.ChangeAt Go.RowKit Go.Deep Go.Joins

theorem Try.own : ownKnob Try.prog.godebug = none := by kernel_rfl
theorem Try.laidOut : laidOutB Try.prog = true := by kernel_rfl

theorem trodAll_stays {H : Type} {enc : TypeId × Value → H} {W W' : World} (hb : Below W.heap.size W W') : ∀ {ts : List TypeId} {vs : List Value} {ds : List (DataW H)} {ps : List MemPlace}, (∀ t ∈ ts, Try.prog.readableRec t = true ∧ t < Try.prog.types.size) →
    DataW.TrodAll enc Try.prog W 0 (fun _ => true) true ts vs ds ps → (∀ x ∈ ps, x.block < W.heap.size) → DataW.TrodAll enc Try.prog W' 0 (fun b => decide (b < W.heap.size)) true ts vs ds ps := by
  intro ts
  induction ts with
  | nil => intro vs ds ps _ h _; cases vs <;> cases ds <;> simp_all [DataW.TrodAll]
  | cons t ts ih =>
    intro vs ds ps hr h hlt
    obtain ⟨v, vs', d, ds', p, q, rfl, rfl, rfl, h0, hrest⟩ := trodAll_cons h
    have ht := hr t (by simp)
    exact trodAll_cons_mk (Below.trod Try.laidOut ht.1 ht.2 h0 hb (fun x hx => hlt x (by simp [hx]))) (ih (fun u hu => hr u (by simp [hu])) hrest (fun x hx => hlt x (by simp [hx])))

set_option maxRecDepth 100000 in
theorem open_mark {H : Type} {enc : TypeId × Value → H} {W : World} {b0 : Nat} {v : Value} {d : DataW H} {p : List MemPlace} (hv : Value.okWide Try.prog W .any b0 50 v) (h : DataW.Trod enc Try.prog W 0 (fun _ => true) true 50 v d p) :
    ∃ a cap l c, v = .agg #[.slice a (List.length l) cap, .int .i64 c] ∧ StepsAt W a l ∧ l.length ≤ cap ∧ l.length ≤ maxLen := by
  obtain ⟨v0, v1, y0, y1, n, rfl, rfl, rfl, t0, t1⟩ := open_agg2 Try.underlying50 (by kernel_rfl) (by kernel_rfl) hv h
  obtain ⟨c, hc, _⟩ := DataW.trod_int Try.underlying3 t1
  simp only [List.cons.injEq, and_true] at hc
  subst hc
  rcases open_slice_pairs Try.underlying48 Try.underlying77 (by kernel_rfl) rfl rfl (by kernel_rfl) (by kernel_rfl) t0 with ⟨hcs, _⟩ | ⟨ad, len, cap, m, n', V0, V1, D0, D1, P0, P1, hcs, hb, hl, hm, hmm, hx, hcell⟩
  · simp only [List.cons.injEq, and_true] at hcs
    subst hcs
    exact ⟨none, 0, [], c, rfl, Or.inl rfl, Nat.le_refl _, Nat.zero_le _⟩
  · simp only [List.cons.injEq, and_true] at hcs
    subst hcs
    simp only [if_true] at hmm
    subst hmm
    have each : ∀ i, i < len → ∃ q : Int × Int, V0 i = .int .i64 q.1 ∧ V1 i = .int .i64 q.2 := by
      intro i hi
      obtain ⟨_, _, e0, e1⟩ := hcell i (by omega)
      obtain ⟨x, hx, _⟩ := DataW.trod_int Try.underlying3 e0
      obtain ⟨y, hy, _⟩ := DataW.trod_int Try.underlying3 e1
      simp only [List.cons.injEq, and_true] at hx hy
      exact ⟨(x, y), hx, hy⟩
    obtain ⟨q, hq⟩ := choose_lt each
    refine ⟨some ad, m, (List.range len).map q, c, by simp, ?_, by simpa using hl, by simp; omega⟩
    by_cases hlen : len = 0
    · subst hlen; exact Or.inl rfl
    · obtain ⟨b, off, spot⟩ := ad
      have h0 := (hcell 0 (by omega)).1
      have hspot : spot = none := by simpa [Addr.add] using World.cell?_spot h0
      subst hspot
      refine Or.inr ⟨b, off, rfl, block_lt_of_cell h0, fun i hi => ?_⟩
      have hi' : i < len := by simpa using hi
      obtain ⟨e0, e1, _, _⟩ := hcell i (by omega)
      rw [(hq i hi').1, add_plain] at e0
      rw [(hq i hi').2, add_plain] at e1
      simp only [List.getElem_map, List.getElem_range]
      exact ⟨e0, e1⟩

end Go.Proofs.Ytnhjebdlcbhkcaf

namespace Go.Proofs.Ytnhjebdlcbhkcaf
open Go.ChangeShapes Go.WideShapes Go.ChangeAt Go.RowKit Go.Deep Go.Joins

/-- a list whose elements lie K cells each behind an address -/
def RowsAt {α : Type} (Q : α → List Value → Prop) (K : Nat) (w : World) (a : Option Addr) (zs : List α) : Prop :=
  zs = [] ∨ ∃ b off, a = some ⟨b, off, none⟩ ∧ b < w.heap.size ∧ ∀ i (h : i < zs.length), ∃ cs, Q zs[i] cs ∧ cs.length = K ∧ ∀ j, j < K → w.cell? ⟨b, off + i * K + j, none⟩ = cs[j]?

theorem open_rows {H : Type} {enc : TypeId × Value → H} {W : World} {α : Type} {Q : α → List Value → Prop} {K : Nat} {t e : TypeId} {fuel : Nat} {cs : List Value} {x : DataW H × List MemPlace} (ht : Try.prog.underlying t = some (.slice e)) (hK : Try.prog.cellsOf e = K) (hK0 : 0 < K)
    (hQ : ∀ n cs' y, DataW.trod enc Try.prog W 0 (fun _ => true) true n e cs' = some y → ∃ z : α, Q z cs')
    (h : DataW.trod enc Try.prog W 0 (fun _ => true) true fuel t cs = some x) :
    ∃ a cap zs, cs = [.slice a (List.length zs) cap] ∧ RowsAt Q K W a zs ∧ zs.length ≤ cap ∧ cap ≤ maxLen := by
  rcases open_slice ht h with ⟨rfl, _⟩ | ⟨ad, len, cap, m, n, D, Pl, rfl, hb, hl, hm, hmm, hxx, hx⟩
  · exact ⟨none, 0, [], rfl, Or.inl rfl, Nat.le_refl _, Nat.zero_le _⟩
  · have hlm : len ≤ m := by rw [hmm]; split <;> omega
    rw [hK] at hx
    have each : ∀ i, i < len → ∃ z : α, ∃ cs', Q z cs' ∧ cs'.length = K ∧ ∀ j, j < K → W.cell? ((ad.add (i * K)).add j) = cs'[j]? := by
      intro i hi
      obtain ⟨cs', h1, h2⟩ := hx i (by omega)
      obtain ⟨z, hz⟩ := hQ _ _ _ h2
      obtain ⟨_, h3, h4⟩ := World.cells?_some h1
      exact ⟨z, cs', hz, h3, h4⟩
    obtain ⟨q, hq⟩ : ∃ q : List α, q.length = len ∧ ∀ i (h : i < q.length), ∃ cs', Q q[i] cs' ∧ cs'.length = K ∧ ∀ j, j < K → W.cell? ((ad.add (i * K)).add j) = cs'[j]? := by
      clear hx hl hm hmm hlm h hxx
      induction len with
      | zero => exact ⟨[], rfl, fun i h => by simp at h⟩
      | succ len ih =>
        obtain ⟨q, hq1, hq2⟩ := ih (fun i hi => each i (by omega))
        obtain ⟨z, hz⟩ := each len (by omega)
        refine ⟨q ++ [z], by simp [hq1], fun i hi => ?_⟩
        by_cases e : i < q.length
        · rw [List.getElem_append_left e]; exact hq2 i e
        · have : i = len := by simp at hi; omega
          subst this
          rw [List.getElem_append_right (by omega)]
          simpa [hq1] using hz
    obtain ⟨hq1, hq2⟩ := hq
    subst hq1
    refine ⟨some ad, cap, q, rfl, ?_, hl, hm⟩
    by_cases hlen : q.length = 0
    · exact Or.inl (List.length_eq_zero_iff.1 hlen)
    · obtain ⟨b, off, spot⟩ := ad
      obtain ⟨cs', _, h3, h4⟩ := hq2 0 (by omega)
      have h0 := (h4 0 hK0).trans (List.getElem?_eq_getElem (by omega))
      have hspot : spot = none := by simpa [Addr.add] using World.cell?_spot h0
      subst hspot
      refine Or.inr ⟨b, off, rfl, by have := block_lt_of_cell h0; simpa [Addr.add] using this, fun i hi => ?_⟩
      obtain ⟨cs'', g1, g2, g3⟩ := hq2 i hi
      exact ⟨cs'', g1, g2, fun j hj => by have := g3 j hj; rw [add_plain, add_plain] at this; exact this⟩

/-- two cells: a step -/
def StepQ (z : Int × Int) (cs : List Value) : Prop := cs = [.int .i64 z.1, .int .i64 z.2]
/-- two cells: a mark -/
def MarkQ (W : World) (z : List (Int × Int) × Int) (cs : List Value) : Prop := ∃ p cap, cs = [.slice p z.1.length cap, .int .i64 z.2] ∧ StepsAt W p z.1 ∧ z.1.length ≤ cap ∧ cap ≤ maxLen
/-- three cells: an atom -/
def AtomQ (W : World) (z : At) (cs : List Value) : Prop := ∃ p cap, cs = [.slice p z.path.length cap, .int .i64 z.clock, .int .u8 z.sign] ∧ StepsAt W p z.path ∧ z.path.length ≤ cap ∧ cap ≤ maxLen ∧ 0 ≤ z.sign ∧ z.sign ≤ 255

theorem u8_wf {n : Int} (h : (Lit.int .u8 n).wf = true) : 0 ≤ n ∧ n ≤ 255 := by
  have h1 : IntKind.u8.min = 0 := by decide
  have h2 : IntKind.u8.max = 255 := by decide
  simp only [Lit.wf, h1, h2, Bool.and_eq_true, decide_eq_true_eq] at h
  exact h

set_option maxRecDepth 100000 in
theorem open_stepC {H : Type} {enc : TypeId × Value → H} {W : World} {n : Nat} {cs : List Value} {y : DataW H × List MemPlace} (h : DataW.trod enc Try.prog W 0 (fun _ => true) true n 77 cs = some y) : ∃ z, StepQ z cs := by
  obtain ⟨y0, y1, m, _, hl, h0, h1⟩ := trod_struct2 Try.underlying77 h
  have hl2 : cs.length = 2 := hl.trans (by kernel_rfl)
  match cs, hl2 with
  | [v0, v1], _ =>
    have e0 : DataW.trod enc Try.prog W 0 (fun _ => true) true m 3 [v0] = some y0 := h0
    have e1 : DataW.trod enc Try.prog W 0 (fun _ => true) true m 3 [v1] = some y1 := h1
    obtain ⟨a, ha, _⟩ := DataW.trod_int Try.underlying3 e0
    obtain ⟨b, hb, _⟩ := DataW.trod_int Try.underlying3 e1
    simp only [List.cons.injEq, and_true] at ha hb
    exact ⟨(a, b), by rw [ha, hb]; rfl⟩

set_option maxRecDepth 100000 in
theorem open_stepsC {H : Type} {enc : TypeId × Value → H} {W : World} {n : Nat} {cs : List Value} {y : DataW H × List MemPlace} (h : DataW.trod enc Try.prog W 0 (fun _ => true) true n 48 cs = some y) :
    ∃ a cap l, cs = [.slice a (List.length l) cap] ∧ StepsAt W a l ∧ l.length ≤ cap ∧ cap ≤ maxLen := by
  obtain ⟨a, cap, l, rfl, hr, h1, h2⟩ := open_rows (Q := StepQ) (K := 2) Try.underlying48 (by kernel_rfl) (by decide) (fun n cs' y h => open_stepC h) h
  refine ⟨a, cap, l, rfl, ?_, h1, h2⟩
  rcases hr with e | ⟨b, off, rfl, hb, hc⟩
  · exact Or.inl e
  · refine Or.inr ⟨b, off, rfl, hb, fun i hi => ?_⟩
    obtain ⟨cs', rfl, _, hj⟩ := hc i hi
    exact ⟨hj 0 (by decide), hj 1 (by decide)⟩

set_option maxRecDepth 100000 in
theorem open_markC {H : Type} {enc : TypeId × Value → H} {W : World} {n : Nat} {cs : List Value} {y : DataW H × List MemPlace} (h : DataW.trod enc Try.prog W 0 (fun _ => true) true n 50 cs = some y) : ∃ z, MarkQ W z cs := by
  obtain ⟨y0, y1, m, _, hl, h0, h1⟩ := trod_struct2 Try.underlying50 h
  have hl2 : cs.length = 2 := hl.trans (by kernel_rfl)
  match cs, hl2 with
  | [v0, v1], _ =>
    have e0 : DataW.trod enc Try.prog W 0 (fun _ => true) true m 48 [v0] = some y0 := h0
    have e1 : DataW.trod enc Try.prog W 0 (fun _ => true) true m 3 [v1] = some y1 := h1
    obtain ⟨a, cap, l, ha, hs, hl, hc⟩ := open_stepsC e0
    obtain ⟨b, hb, _⟩ := DataW.trod_int Try.underlying3 e1
    simp only [List.cons.injEq, and_true] at ha hb
    exact ⟨(l, b), a, cap, by rw [ha, hb], hs, hl, hc⟩

theorem marksAt_rows {W : World} {a : Option Addr} {l : List (List (Int × Int) × Int)} (hr : RowsAt (MarkQ W) 2 W a l) : MarksAt W a l := by
  rcases hr with e | ⟨b, off, rfl, hb, hc⟩
  · exact Or.inl e
  · refine Or.inr ⟨b, off, rfl, hb, fun i hi => ?_⟩
    obtain ⟨cs', ⟨p, cap, rfl, hs, h1, h2⟩, _, hj⟩ := hc i hi
    exact ⟨p, cap, hj 0 (by decide), hj 1 (by decide), hs, by omega⟩

theorem atomsAt_rows {W : World} {a : Option Addr} {l : List At} (hr : RowsAt (AtomQ W) 3 W a l) : AtomsAt W a l := by
  rcases hr with e | ⟨b, off, rfl, hb, hc⟩
  · exact Or.inl e
  · refine Or.inr ⟨b, off, rfl, hb, fun i hi => ?_⟩
    obtain ⟨cs', ⟨p, cap, rfl, hs, h1, h2, h3, h4⟩, _, hj⟩ := hc i hi
    exact ⟨p, cap, hj 0 (by decide), hj 1 (by decide), hj 2 (by decide), hs, by omega, h1, h3, h4⟩

end Go.Proofs.Ytnhjebdlcbhkcaf
