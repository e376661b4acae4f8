/- How a mark that is handed in is read, and how arguments are read again behind a call that turned nothing old. -/
import Derived.Test.YtnhjebdlcbhkcaeGreatAtomCk
import Derived.ProofKit
import Derived.SizedLaws
import Derived.Lib.SmallJoins
import Derived.Deep.SlicePairs
import Derived.Lib.RowBridge
import Derived.Test.YtnhjebdlcbhkcaeGreatSameR
import Derived.Test.YtnhjebdlcbhkcaeGreatDeedAt
import Derived.Test.YtnhjebdlcbhkcaeGreatRows
import Derived.Test.YtnhjebdlcbhkcaeGreatCopS
namespace Go.Proofs.YtnhjebdlcbhkcaeGreat
open Go.ChangeShapes Go.WideShapes Go.ChangeAt Go.RowKit Go.Deep Go.Joins

theorem Tryz.own : ownKnob Tryz.prog.godebug = none := by kernel_rfl
theorem Tryz.laidOut : laidOutB Tryz.prog = true := by kernel_rfl

theorem trodAll_stays {H : Type} {enc : TypeId × Value → H} {W W' : World} (hb : Below W.heap.size W W') : ∀ {ts : List TypeId} {vs : List Value} {ds : List (DataW H)} {ps : List MemPlace}, (∀ t ∈ ts, Tryz.prog.readableRec t = true ∧ t < Tryz.prog.types.size) →
    DataW.TrodAll enc Tryz.prog W 0 (fun _ => true) true ts vs ds ps → (∀ x ∈ ps, x.block < W.heap.size) → DataW.TrodAll enc Tryz.prog W' 0 (fun b => decide (b < W.heap.size)) true ts vs ds ps := by
  intro ts
  induction ts with
  | nil => intro vs ds ps _ h _; cases vs <;> cases ds <;> simp_all [DataW.TrodAll]
  | cons t ts ih =>
    intro vs ds ps hr h hlt
    obtain ⟨v, vs', d, ds', p, q, rfl, rfl, rfl, h0, hrest⟩ := trodAll_cons h
    have ht := hr t (by simp)
    exact trodAll_cons_mk (Below.trod Tryz.laidOut ht.1 ht.2 h0 hb (fun x hx => hlt x (by simp [hx]))) (ih (fun u hu => hr u (by simp [hu])) hrest (fun x hx => hlt x (by simp [hx])))

end Go.Proofs.YtnhjebdlcbhkcaeGreat

namespace Go.Proofs.YtnhjebdlcbhkcaeGreat
open Go.ChangeShapes Go.WideShapes Go.ChangeAt Go.RowKit Go.Deep Go.Joins

def RowsAt {α : Type} (Q : α → List Value → Prop) (K : Nat) (w : World) (a : Option Addr) (zs : List α) : Prop :=
  zs = [] ∨ ∃ b off, a = some ⟨b, off, none⟩ ∧ b < w.heap.size ∧ ∀ i (h : i < zs.length), ∃ cs, Q zs[i] cs ∧ cs.length = K ∧ ∀ j, j < K → w.cell? ⟨b, off + i * K + j, none⟩ = cs[j]?

theorem open_rows {H : Type} {enc : TypeId × Value → H} {W : World} {α : Type} {Q : α → List Value → Prop} {K : Nat} {t e : TypeId} {fuel : Nat} {cs : List Value} {x : DataW H × List MemPlace} (ht : Tryz.prog.underlying t = some (.slice e)) (hK : Tryz.prog.cellsOf e = K) (hK0 : 0 < K)
    (hQ : ∀ n cs' y, DataW.trod enc Tryz.prog W 0 (fun _ => true) true n e cs' = some y → ∃ z : α, Q z cs')
    (h : DataW.trod enc Tryz.prog W 0 (fun _ => true) true fuel t cs = some x) :
    ∃ a cap zs, cs = [.slice a (List.length zs) cap] ∧ RowsAt Q K W a zs ∧ zs.length ≤ cap ∧ cap ≤ maxLen := by
  rcases open_slice ht h with ⟨rfl, _⟩ | ⟨ad, len, cap, m, n, D, Pl, rfl, hb, hl, hm, hmm, hxx, hx⟩
  · exact ⟨none, 0, [], rfl, Or.inl rfl, Nat.le_refl _, Nat.zero_le _⟩
  · have hlm : len ≤ m := by rw [hmm]; split <;> omega
    rw [hK] at hx
    have each : ∀ i, i < len → ∃ z : α, ∃ cs', Q z cs' ∧ cs'.length = K ∧ ∀ j, j < K → W.cell? ((ad.add (i * K)).add j) = cs'[j]? := by
      intro i hi
      obtain ⟨cs', h1, h2⟩ := hx i (by omega)
      obtain ⟨z, hz⟩ := hQ _ _ _ h2
      obtain ⟨_, h3, h4⟩ := World.cells?_some h1
      exact ⟨z, cs', hz, h3, h4⟩
    obtain ⟨q, hq⟩ : ∃ q : List α, q.length = len ∧ ∀ i (h : i < q.length), ∃ cs', Q q[i] cs' ∧ cs'.length = K ∧ ∀ j, j < K → W.cell? ((ad.add (i * K)).add j) = cs'[j]? := by
      clear hx hl hm hmm hlm h hxx
      induction len with
      | zero => exact ⟨[], rfl, fun i h => by simp at h⟩
      | succ len ih =>
        obtain ⟨q, hq1, hq2⟩ := ih (fun i hi => each i (by omega))
        obtain ⟨z, hz⟩ := each len (by omega)
        refine ⟨q ++ [z], by simp [hq1], fun i hi => ?_⟩
        by_cases e : i < q.length
        · rw [List.getElem_append_left e]; exact hq2 i e
        · have : i = len := by simp at hi; omega
          subst this
          rw [List.getElem_append_right (by omega)]
          simpa [hq1] using hz
    obtain ⟨hq1, hq2⟩ := hq
    subst hq1
    refine ⟨some ad, cap, q, rfl, ?_, hl, hm⟩
    by_cases hlen : q.length = 0
    · exact Or.inl (List.length_eq_zero_iff.1 hlen)
    · obtain ⟨b, off, spot⟩ := ad
      obtain ⟨cs', _, h3, h4⟩ := hq2 0 (by omega)
      have h0 := (h4 0 hK0).trans (List.getElem?_eq_getElem (by omega))
      have hspot : spot = none := by simpa [Addr.add] using World.cell?_spot h0
      subst hspot
      refine Or.inr ⟨b, off, rfl, by have := block_lt_of_cell h0; simpa [Addr.add] using this, fun i hi => ?_⟩
      obtain ⟨cs'', g1, g2, g3⟩ := hq2 i hi
      exact ⟨cs'', g1, g2, fun j hj => by have := g3 j hj; rw [add_plain, add_plain] at this; exact this⟩

def StepQ (z : Int × Int) (cs : List Value) : Prop := cs = [.int .i64 z.1, .int .i64 z.2]
def MarkQ (W : World) (z : List (Int × Int) × Int) (cs : List Value) : Prop := ∃ p cap, cs = [.slice p z.1.length cap, .int .i64 z.2] ∧ StepsAt W p z.1 ∧ z.1.length ≤ cap ∧ cap ≤ maxLen
def AtomQ (W : World) (z : At) (cs : List Value) : Prop := ∃ p cap, cs = [.slice p z.path.length cap, .int .i64 z.clock, .int .u8 z.sign] ∧ StepsAt W p z.path ∧ z.path.length ≤ cap ∧ cap ≤ maxLen ∧ 0 ≤ z.sign ∧ z.sign ≤ 255

theorem u8_wf {n : Int} (h : (Lit.int .u8 n).wf = true) : 0 ≤ n ∧ n ≤ 255 := by
  have h1 : IntKind.u8.min = 0 := by decide
  have h2 : IntKind.u8.max = 255 := by decide
  simp only [Lit.wf, h1, h2, Bool.and_eq_true, decide_eq_true_eq] at h
  exact h

set_option maxRecDepth 100000 in
theorem open_stepC {H : Type} {enc : TypeId × Value → H} {W : World} {n : Nat} {cs : List Value} {y : DataW H × List MemPlace} (h : DataW.trod enc Tryz.prog W 0 (fun _ => true) true n 124 cs = some y) : ∃ z, StepQ z cs := by
  obtain ⟨y0, y1, m, _, hl, h0, h1⟩ := trod_struct2 Tryz.underlying124 h
  have hl2 : cs.length = 2 := hl.trans (by kernel_rfl)
  match cs, hl2 with
  | [v0, v1], _ =>
    have e0 : DataW.trod enc Tryz.prog W 0 (fun _ => true) true m 3 [v0] = some y0 := h0
    have e1 : DataW.trod enc Tryz.prog W 0 (fun _ => true) true m 3 [v1] = some y1 := h1
    obtain ⟨a, ha, _⟩ := DataW.trod_int Tryz.underlying3 e0
    obtain ⟨b, hb, _⟩ := DataW.trod_int Tryz.underlying3 e1
    simp only [List.cons.injEq, and_true] at ha hb
    exact ⟨(a, b), by rw [ha, hb]; rfl⟩

set_option maxRecDepth 100000 in
theorem open_stepsC {H : Type} {enc : TypeId × Value → H} {W : World} {n : Nat} {cs : List Value} {y : DataW H × List MemPlace} (h : DataW.trod enc Tryz.prog W 0 (fun _ => true) true n 40 cs = some y) :
    ∃ a cap l, cs = [.slice a (List.length l) cap] ∧ StepsAt W a l ∧ l.length ≤ cap ∧ cap ≤ maxLen := by
  obtain ⟨a, cap, l, rfl, hr, h1, h2⟩ := open_rows (Q := StepQ) (K := 2) Tryz.underlying40 (by kernel_rfl) (by decide) (fun n cs' y h => open_stepC h) h
  refine ⟨a, cap, l, rfl, ?_, h1, h2⟩
  rcases hr with e | ⟨b, off, rfl, hb, hc⟩
  · exact Or.inl e
  · refine Or.inr ⟨b, off, rfl, hb, fun i hi => ?_⟩
    obtain ⟨cs', rfl, _, hj⟩ := hc i hi
    exact ⟨hj 0 (by decide), hj 1 (by decide)⟩

theorem marksAt_rows {W : World} {a : Option Addr} {l : List (List (Int × Int) × Int)} (hr : RowsAt (MarkQ W) 2 W a l) : MarksAt W a l := by
  rcases hr with e | ⟨b, off, rfl, hb, hc⟩
  · exact Or.inl e
  · refine Or.inr ⟨b, off, rfl, hb, fun i hi => ?_⟩
    obtain ⟨cs', ⟨p, cap, rfl, hs, h1, h2⟩, _, hj⟩ := hc i hi
    exact ⟨p, cap, hj 0 (by decide), hj 1 (by decide), hs, by omega⟩

theorem atomsAt_rows {W : World} {a : Option Addr} {l : List At} (hr : RowsAt (AtomQ W) 3 W a l) : AtomsAt W a l := by
  rcases hr with e | ⟨b, off, rfl, hb, hc⟩
  · exact Or.inl e
  · refine Or.inr ⟨b, off, rfl, hb, fun i hi => ?_⟩
    obtain ⟨cs', ⟨p, cap, rfl, hs, h1, h2, h3, h4⟩, _, hj⟩ := hc i hi
    exact ⟨p, cap, hj 0 (by decide), hj 1 (by decide), hj 2 (by decide), hs, by omega, h1, h3, h4⟩

end Go.Proofs.YtnhjebdlcbhkcaeGreat

namespace Go.Proofs.YtnhjebdlcbhkcaeGreat
open Go.ChangeShapes Go.WideShapes Go.ChangeAt Go.RowKit Go.Deep Go.Joins

theorem i64_wf {n : Int} (h : (Lit.int .i64 n).wf = true) : -9223372036854775808 ≤ n ∧ n ≤ 9223372036854775807 := by
  have h1 : IntKind.i64.min = -9223372036854775808 := by decide
  have h2 : IntKind.i64.max = 9223372036854775807 := by decide
  simp only [Lit.wf, h1, h2, Bool.and_eq_true, decide_eq_true_eq] at h
  exact h

end Go.Proofs.YtnhjebdlcbhkcaeGreat

namespace Go.Proofs.YtnhjebdlcbhkcaeGreat
open Go.ChangeShapes Go.WideShapes Go.ChangeAt Go.RowKit Go.Deep Go.Joins

theorem weights_all {H : Type} {P : Program} {e : TypeId} {d : DataW H} {m : Nat} : ∀ {l : List (DataW H)}, d ∈ l → m ∈ d.weights P e → m ∈ DataW.weightsAll P e l
  | x :: r, hd, hm => by
    simp only [DataW.weightsAll, List.mem_append]
    rcases List.mem_cons.1 hd with rfl | h
    · exact Or.inl hm
    · exact Or.inr (weights_all h hm)

theorem open_rowsS {H : Type} {enc : TypeId × Value → H} {W : World} {α : Type} {Q : α → List Value → Prop} {K : Nat} {t e : TypeId} {fuel : Nat} {cs : List Value} {x : DataW H × List MemPlace} (ht : Tryz.prog.underlying t = some (.slice e)) (hK : Tryz.prog.cellsOf e = K) (hK0 : 0 < K)
    (hQ : ∀ n cs' y, DataW.trod enc Tryz.prog W 0 (fun _ => true) true n e cs' = some y → (∀ m ∈ y.1.weights Tryz.prog e, m ∈ x.1.weights Tryz.prog t) → ∃ z : α, Q z cs')
    (h : DataW.trod enc Tryz.prog W 0 (fun _ => true) true fuel t cs = some x) :
    ∃ a cap zs, cs = [.slice a (List.length zs) cap] ∧ RowsAt Q K W a zs ∧ zs.length ≤ cap ∧ cap ≤ maxLen := by
  rcases open_slice ht h with ⟨rfl, _⟩ | ⟨ad, len, cap, m, n, D, Pl, rfl, hb, hl, hm, hmm, hxx, hx⟩
  · exact ⟨none, 0, [], rfl, Or.inl rfl, Nat.le_refl _, Nat.zero_le _⟩
  · have hlm : len ≤ m := by rw [hmm]; split <;> omega
    rw [hK] at hx
    have each : ∀ i, i < len → ∃ z : α, ∃ cs', Q z cs' ∧ cs'.length = K ∧ ∀ j, j < K → W.cell? ((ad.add (i * K)).add j) = cs'[j]? := by
      intro i hi
      obtain ⟨cs', h1, h2⟩ := hx i (by omega)
      obtain ⟨z, hz⟩ := hQ _ _ _ h2 (by
        intro q hq
        rw [hxx]
        simp only [DataW.weights, ht, List.mem_cons, List.mem_append]
        exact Or.inr (Or.inl (weights_all (List.mem_map.2 ⟨i, List.mem_range.2 hi, rfl⟩) hq)))
      obtain ⟨_, h3, h4⟩ := World.cells?_some h1
      exact ⟨z, cs', hz, h3, h4⟩
    obtain ⟨q, hq⟩ : ∃ q : List α, q.length = len ∧ ∀ i (h : i < q.length), ∃ cs', Q q[i] cs' ∧ cs'.length = K ∧ ∀ j, j < K → W.cell? ((ad.add (i * K)).add j) = cs'[j]? := by
      clear hx hl hm hmm hlm h hxx
      induction len with
      | zero => exact ⟨[], rfl, fun i h => by simp at h⟩
      | succ len ih =>
        obtain ⟨q, hq1, hq2⟩ := ih (fun i hi => each i (by omega))
        obtain ⟨z, hz⟩ := each len (by omega)
        refine ⟨q ++ [z], by simp [hq1], fun i hi => ?_⟩
        by_cases e : i < q.length
        · rw [List.getElem_append_left e]; exact hq2 i e
        · have : i = len := by simp at hi; omega
          subst this
          rw [List.getElem_append_right (by omega)]
          simpa [hq1] using hz
    obtain ⟨hq1, hq2⟩ := hq
    subst hq1
    refine ⟨some ad, cap, q, rfl, ?_, hl, hm⟩
    by_cases hlen : q.length = 0
    · exact Or.inl (List.length_eq_zero_iff.1 hlen)
    · obtain ⟨b, off, spot⟩ := ad
      obtain ⟨cs', _, h3, h4⟩ := hq2 0 (by omega)
      have h0 := (h4 0 hK0).trans (List.getElem?_eq_getElem (by omega))
      have hspot : spot = none := by simpa [Addr.add] using World.cell?_spot h0
      subst hspot
      refine Or.inr ⟨b, off, rfl, by have := block_lt_of_cell h0; simpa [Addr.add] using this, fun i hi => ?_⟩
      obtain ⟨cs'', g1, g2, g3⟩ := hq2 i hi
      exact ⟨cs'', g1, g2, fun j hj => by have := g3 j hj; rw [add_plain, add_plain] at this; exact this⟩

end Go.Proofs.YtnhjebdlcbhkcaeGreat

namespace Go.Proofs.YtnhjebdlcbhkcaeGreat
open Go.ChangeShapes Go.WideShapes Go.ChangeAt Go.RowKit Go.Deep Go.Joins

def DeedQ (W : World) (z : Dd) (cs : List Value) : Prop := ∃ p cp q cq, cs = [.int .i64 z.kind, .slice p z.rp.length cp, .int .i64 z.rc, .string z.rt, .slice q z.mp.length cq, .int .i64 z.mc, .int .i64 z.many] ∧ DdAt W z p q ∧ -9223372036854775808 ≤ z.many ∧ z.many ≤ 9223372036854775807

theorem deedsAt_rows {W : World} {a : Option Addr} {l : List Dd} (hr : RowsAt (DeedQ W) 7 W a l) : DeedsAt W a l := by
  rcases hr with e | ⟨b, off, rfl, hb, hc⟩
  · exact Or.inl e
  · refine Or.inr ⟨b, off, rfl, hb, fun i hi => ?_⟩
    obtain ⟨cs', ⟨p, cp, q, cq, rfl, hD, h1, h2⟩, _, hj⟩ := hc i hi
    exact ⟨p, cp, q, cq, hj 0 (by decide), hj 1 (by decide), hj 2 (by decide), hj 3 (by decide), hj 4 (by decide), hj 5 (by decide), hj 6 (by decide), hD, h1, h2⟩

end Go.Proofs.YtnhjebdlcbhkcaeGreat

namespace Go.Proofs.YtnhjebdlcbhkcaeGreat
open Go.ChangeShapes Go.WideShapes Go.ChangeAt Go.RowKit Go.Deep Go.Joins

end Go.Proofs.YtnhjebdlcbhkcaeGreat

namespace Go.Proofs.YtnhjebdlcbhkcaeGreat
open Go.ChangeShapes Go.WideShapes Go.ChangeAt Go.RowKit Go.Deep Go.Joins

end Go.Proofs.YtnhjebdlcbhkcaeGreat

namespace Go.Proofs.YtnhjebdlcbhkcaeGreat
open Go.ChangeShapes Go.WideShapes Go.ChangeAt Go.RowKit Go.Deep Go.Joins

theorem slice_bytes {H : Type} {enc : TypeId × Value → H} {W : World} {R : Nat} {t e : TypeId} {fuel : Nat} {x : DataW H × List MemPlace} {a : Option Addr} {n c : Nat} (ht : Tryz.prog.underlying t = some (.slice e)) (h : DataW.trod enc Tryz.prog W 0 (fun _ => true) true fuel t [.slice a n c] = some x) (hR : ∀ m ∈ x.1.weights Tryz.prog t, m ≤ R) : n * Tryz.prog.bytesOf e ≤ R := by
  rcases open_slice ht h with ⟨e0, _⟩ | ⟨ad, len, cap, m, n', D, Pl, e0, _, hl, _, hmm, hxx, _⟩
  · simp only [List.cons.injEq, Value.slice.injEq, and_true] at e0
    obtain ⟨_, rfl, _⟩ := e0
    rw [Nat.zero_mul]; exact Nat.zero_le _
  · simp only [List.cons.injEq, Value.slice.injEq, and_true] at e0
    obtain ⟨_, rfl, rfl⟩ := e0
    have := hR ((n + (m - n)) * Tryz.prog.bytesOf e) (by
      rw [hxx]
      simp [DataW.weights, ht])
    exact Nat.le_trans (Nat.mul_le_mul_right _ (Nat.le_add_right _ _)) this

abbrev RB : Nat := 140737488351232
def MarkQZ (W : World) (z : List (Int × Int) × Int) (cs : List Value) : Prop := MarkQ W z cs ∧ z.1.length * 16 ≤ RB
def AtomQZ (W : World) (z : At) (cs : List Value) : Prop := AtomQ W z cs ∧ z.path.length * 16 ≤ RB
def DeedQZ (W : World) (z : Dd) (cs : List Value) : Prop := DeedQ W z cs ∧ z.rp.length * 16 ≤ RB ∧ z.mp.length * 16 ≤ RB

set_option maxRecDepth 100000 in
theorem open_markZ {H : Type} {enc : TypeId × Value → H} {W : World} {n : Nat} {cs : List Value} {y : DataW H × List MemPlace} (h : DataW.trod enc Tryz.prog W 0 (fun _ => true) true n 42 cs = some y) (hR : ∀ m ∈ y.1.weights Tryz.prog 42, m ≤ RB) : ∃ z, MarkQZ W z cs := by
  obtain ⟨y0, y1, m, hy, hl, h0, h1⟩ := trod_struct2 Tryz.underlying42 h
  have hl2 : cs.length = 2 := hl.trans (by kernel_rfl)
  match cs, hl2 with
  | [v0, v1], _ =>
    have e0 : DataW.trod enc Tryz.prog W 0 (fun _ => true) true m 40 [v0] = some y0 := h0
    have e1 : DataW.trod enc Tryz.prog W 0 (fun _ => true) true m 3 [v1] = some y1 := h1
    obtain ⟨a, cap, l, ha, hs, hl, hc⟩ := open_stepsC e0
    obtain ⟨b, hb, _⟩ := DataW.trod_int Tryz.underlying3 e1
    simp only [List.cons.injEq, and_true] at ha hb
    refine ⟨(l, b), ⟨a, cap, by rw [ha, hb], hs, hl, hc⟩, ?_⟩
    rw [ha] at e0
    have hB : Tryz.prog.bytesOf 124 = 16 := by kernel_rfl
    have := slice_bytes (R := RB) Tryz.underlying40 e0 (fun q hq => hR q (by
      rw [hy]
      simp only [DataW.weights, DataW.weightsEach, Tryz.underlying42, List.map, List.mem_append]
      exact Or.inl hq))
    rwa [hB] at this

set_option maxRecDepth 100000 in
theorem open_atomZ {H : Type} {enc : TypeId × Value → H} {W : World} {n : Nat} {cs : List Value} {y : DataW H × List MemPlace} (h : DataW.trod enc Tryz.prog W 0 (fun _ => true) true n 108 cs = some y) (hR : ∀ m ∈ y.1.weights Tryz.prog 108, m ≤ RB) : ∃ z, AtomQZ W z cs := by
  obtain ⟨y0, y1, m, hy, hl, h0, h1⟩ := trod_struct2 Tryz.underlying108 h
  have hl2 : cs.length = 3 := hl.trans (by kernel_rfl)
  match cs, hl2 with
  | [v0, v1, v2], _ =>
    have e0 : DataW.trod enc Tryz.prog W 0 (fun _ => true) true m 42 [v0, v1] = some y0 := h0
    have e1 : DataW.trod enc Tryz.prog W 0 (fun _ => true) true m 5 [v2] = some y1 := h1
    obtain ⟨z, ⟨p, cap, ha, hs, hl, hc⟩, hz⟩ := open_markZ e0 (fun q hq => hR q (by
      rw [hy]
      simp only [DataW.weights, DataW.weightsEach, Tryz.underlying108, List.map, List.mem_append]
      exact Or.inl hq))
    obtain ⟨b, hb, _, hwf⟩ := DataW.trod_int Tryz.underlying5 e1
    simp only [List.cons.injEq, and_true] at ha hb
    exact ⟨⟨z.1, z.2, b⟩, ⟨p, cap, by rw [ha.1, ha.2, hb], hs, hl, hc, u8_wf hwf⟩, hz⟩

set_option maxRecDepth 100000 in
theorem open_deedZ {H : Type} {enc : TypeId × Value → H} {W : World} {n : Nat} {cs : List Value} {y : DataW H × List MemPlace} (h : DataW.trod enc Tryz.prog W 0 (fun _ => true) true n 64 cs = some y) (hR : ∀ m ∈ y.1.weights Tryz.prog 64, m ≤ RB) : ∃ z, DeedQZ W z cs := by
  obtain ⟨y0, y1, y2, y3, m, hy, hl, h0, h1, h2, h3⟩ := trod_struct4 Tryz.underlying64 h
  have hl2 : cs.length = 7 := hl.trans (by kernel_rfl)
  match cs, hl2 with
  | [v0, v1, v2, v3, v4, v5, v6], _ =>
    have e0 : DataW.trod enc Tryz.prog W 0 (fun _ => true) true m 3 [v0] = some y0 := h0
    have e1 : DataW.trod enc Tryz.prog W 0 (fun _ => true) true m 59 [v1, v2, v3] = some y1 := h1
    have e2 : DataW.trod enc Tryz.prog W 0 (fun _ => true) true m 42 [v4, v5] = some y2 := h2
    have e3 : DataW.trod enc Tryz.prog W 0 (fun _ => true) true m 3 [v6] = some y3 := h3
    obtain ⟨kd, hkd, _⟩ := DataW.trod_int Tryz.underlying3 e0
    obtain ⟨many, hmn, _, hwf⟩ := DataW.trod_int Tryz.underlying3 e3
    obtain ⟨x0, x1, m', hy1, _, g0, g1⟩ := trod_struct2 Tryz.underlying59 e1
    have e4 : DataW.trod enc Tryz.prog W 0 (fun _ => true) true m' 42 [v1, v2] = some x0 := g0
    have e5 : DataW.trod enc Tryz.prog W 0 (fun _ => true) true m' 9 [v3] = some x1 := g1
    obtain ⟨z, ⟨p, cp, ha, hs, hle, hc⟩, hz⟩ := open_markZ e4 (fun q hq => hR q (by
      rw [hy]
      simp only [DataW.weights, DataW.weightsEach, Tryz.underlying64, List.map, List.mem_append]
      refine Or.inr (Or.inl ?_)
      rw [hy1]
      simp only [DataW.weights, DataW.weightsEach, Tryz.underlying59, List.map, List.mem_append]
      exact Or.inl hq))
    obtain ⟨t, ht, _, hts⟩ := DataW.trod_string Tryz.underlying9 e5
    obtain ⟨z', ⟨q, cq, ha', hs', hle', hc'⟩, hz'⟩ := open_markZ e2 (fun q hq => hR q (by
      rw [hy]
      simp only [DataW.weights, DataW.weightsEach, Tryz.underlying64, List.map, List.mem_append]
      exact Or.inr (Or.inr (Or.inl hq))))
    simp only [List.cons.injEq, and_true] at hkd hmn ha ht ha'
    have hw := i64_wf hwf
    exact ⟨⟨kd, z.1, z.2, t, z'.1, z'.2, many⟩, ⟨p, cp, q, cq, by rw [hkd, hmn, ha.1, ha.2, ht, ha'.1, ha'.2], ⟨hs, hs', by show z.1.length ≤ maxLen; omega, by show z'.1.length ≤ maxLen; omega, hts⟩, hw.1, hw.2⟩, hz, hz'⟩

theorem rows_mono {α : Type} {Q Q' : α → List Value → Prop} {K : Nat} {W : World} {a : Option Addr} {l : List α} (h : RowsAt Q K W a l) (hq : ∀ z cs, Q z cs → Q' z cs) : RowsAt Q' K W a l := by
  rcases h with e | ⟨b, off, rfl, hb, hc⟩
  · exact Or.inl e
  · refine Or.inr ⟨b, off, rfl, hb, fun i hi => ?_⟩
    obtain ⟨cs', h1, h2⟩ := hc i hi
    exact ⟨cs', hq _ _ h1, h2⟩
theorem rows_each {α : Type} {Q : α → List Value → Prop} {P : α → Prop} {K : Nat} {W : World} {a : Option Addr} {l : List α} (h : RowsAt Q K W a l) (hq : ∀ z cs, Q z cs → P z) : ∀ z ∈ l, P z := by
  rcases h with e | ⟨b, off, rfl, hb, hc⟩
  · intro z hz; subst e; simp at hz
  · intro z hz
    obtain ⟨i, hi, rfl⟩ := List.getElem_of_mem hz
    obtain ⟨cs', h1, _⟩ := hc i hi
    exact hq _ _ h1

set_option maxRecDepth 100000 in
theorem open_stateZ {H : Type} {enc : TypeId × Value → H} {W : World} {b0 : Nat} {v : Value} {d : DataW H} {p : List MemPlace} (hv : Value.okWide Tryz.prog W .any b0 25 v) (h : DataW.Trod enc Tryz.prog W 0 (fun _ => true) true 25 v d p) (hR : ∀ m ∈ d.weights Tryz.prog 25, m ≤ RB) :
    ∃ a cap l a' cap' g, v = .agg #[.slice a (List.length l) cap, .slice a' (List.length g) cap'] ∧ AtomsAt W a l ∧ MarksAt W a' g ∧ StSz l g := by
  obtain ⟨v0, v1, y0, y1, n, rfl, rfl, rfl, t0, t1⟩ := open_agg2 Tryz.underlying25 (by kernel_rfl) (by kernel_rfl) hv h
  have r0 : ∀ m ∈ y0.1.weights Tryz.prog 22, m ≤ RB := fun q hq => hR q (by
    simp only [DataW.weights, DataW.weightsEach, Tryz.underlying25, List.map, List.mem_append]
    exact Or.inl hq)
  have r1 : ∀ m ∈ y1.1.weights Tryz.prog 23, m ≤ RB := fun q hq => hR q (by
    simp only [DataW.weights, DataW.weightsEach, Tryz.underlying25, List.map, List.mem_append]
    exact Or.inr (Or.inl hq))
  obtain ⟨a, cap, l, h0, q0, _, _⟩ := open_rowsS (Q := AtomQZ W) (K := 3) Tryz.underlying22 (by kernel_rfl) (by decide) (fun n cs' y h hw => open_atomZ h (fun m hm => r0 m (hw m hm))) t0
  obtain ⟨a', cap', g, h1, q1, _, _⟩ := open_rowsS (Q := MarkQZ W) (K := 2) Tryz.underlying23 (by kernel_rfl) (by decide) (fun n cs' y h hw => open_markZ h (fun m hm => r1 m (hw m hm))) t1
  rw [h0] at t0
  rw [h1] at t1
  have hA : Tryz.prog.bytesOf 108 = 40 := by kernel_rfl
  have hM : Tryz.prog.bytesOf 42 = 32 := by kernel_rfl
  have s0 := slice_bytes Tryz.underlying22 t0 r0
  have s1 := slice_bytes Tryz.underlying23 t1 r1
  rw [hA] at s0
  rw [hM] at s1
  simp only [List.cons.injEq, and_true] at h0 h1
  subst h0 h1
  exact ⟨a, cap, l, a', cap', g, rfl, atomsAt_rows (rows_mono q0 fun _ _ h => h.1), marksAt_rows (rows_mono q1 fun _ _ h => h.1), ⟨s0, rows_each q0 fun _ _ h => h.2⟩, s1, rows_each q1 fun _ _ h => h.2⟩

set_option maxRecDepth 100000 in
theorem open_deedsZ {H : Type} {enc : TypeId × Value → H} {W : World} {b0 : Nat} {v : Value} {d : DataW H} {p : List MemPlace} (hv : Value.okWide Tryz.prog W .any b0 26 v) (h : DataW.Trod enc Tryz.prog W 0 (fun _ => true) true 26 v d p) (hR : ∀ m ∈ d.weights Tryz.prog 26, m ≤ RB) :
    ∃ a cap l, v = .slice a (List.length l) cap ∧ DeedsAt W a l ∧ DdSz l := by
  obtain ⟨a, len, cap, rfl⟩ := okWide_slice Tryz.underlying26 hv
  obtain ⟨fuel, hf⟩ := h
  have hf2 : DataW.trod enc Tryz.prog W 0 (fun _ => true) true fuel 26 [.slice a len cap] = some (d, p) := hf
  obtain ⟨a', cap', l, hcs, hr, _, _⟩ := open_rowsS (Q := DeedQZ W) (K := 7) Tryz.underlying26 (by kernel_rfl) (by decide) (fun n cs' y h hw => open_deedZ h (fun m hm => hR m (hw m hm))) hf
  simp [Value.cells] at hcs
  obtain ⟨rfl, rfl, rfl⟩ := hcs
  have hD : Tryz.prog.bytesOf 64 = 96 := by kernel_rfl
  have s0 := slice_bytes Tryz.underlying26 hf2 hR
  rw [hD] at s0
  exact ⟨a, cap, l, rfl, deedsAt_rows (rows_mono hr fun _ _ h => h.1), s0, rows_each hr fun _ _ h => h.2⟩
end Go.Proofs.YtnhjebdlcbhkcaeGreat
