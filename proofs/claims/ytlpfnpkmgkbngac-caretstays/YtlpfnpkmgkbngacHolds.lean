/- General words: hidden facts, rows of marks in memory, cells that are held. -/
import Derived.Test.YtlpfnpkmgkbngacRefC
import Derived.Lib.QuietBelow
import Derived.ProofKit
import Derived.SizedLaws
import Derived.Lib.SmallJoins
import Derived.Deep.SlicePairs
import Derived.Lib.RowBridge
namespace Go.Proofs.Ytlpfnpkmgkbngac
open Go.RowKit

theorem hidE {p : Prop} (h : p) : Hid p := h

/-- the cells behind a slice's address hold these marks -/
def MarksAt (w : World) (a : Option Addr) (ms : List (List (Int × Int) × Int)) : Prop :=
  ms = [] ∨ ∃ b off, a = some ⟨b, off, none⟩ ∧ b < w.heap.size ∧ ∀ i (h : i < ms.length), ∃ p cap, w.cell? ⟨b, off + i * 2, none⟩ = some (.slice p ms[i].1.length cap) ∧ w.cell? ⟨b, off + i * 2 + 1, none⟩ = some (.int .i64 ms[i].2) ∧ StepsAt w p ms[i].1 ∧ ms[i].1.length ≤ maxLen

theorem MarksAt.below {w w' : World} {a : Option Addr} {l : List (List (Int × Int) × Int)} {B : Nat} (h : MarksAt w a l) (hb : Below B w w') (hB : w.heap.size ≤ B) : MarksAt w' a l := by
  rcases h with h | ⟨b, off, rfl, hlt, hc⟩
  · exact Or.inl h
  · refine Or.inr ⟨b, off, rfl, Nat.lt_of_lt_of_le hlt hb.size, fun i hi => ?_⟩
    obtain ⟨p, cap, h1, h2, h3, h4⟩ := hc i hi
    exact ⟨p, cap, (hb.cell (p := ⟨b, off + i * 2, none⟩) (by show b < B; omega)).trans h1, (hb.cell (p := ⟨b, off + i * 2 + 1, none⟩) (by show b < B; omega)).trans h2, h3.below hb hB, h4⟩

theorem cellSome_set {w : World} {a p : Addr} {u v : Value} (h : w.cell? p = some v) : ∃ v', (w.setCell a u).cell? p = some v' := by
  by_cases e : a = p
  · subst e; exact ⟨u, World.cell?_setCell_same _ _ _ h⟩
  · exact ⟨v, (World.cell?_setCell_other _ _ _ _ e).trans h⟩

theorem stepsAt_new (w : World) (l : List (Int × Int)) : StepsAt (w.alloc (.cells (flatS l).toArray 92)) (some ⟨w.heap.size, 0, none⟩) l := by
  refine Or.inr ⟨w.heap.size, 0, rfl, by simp, fun i hi => ?_⟩
  have := flatS_get l i hi
  rw [World.cell?_alloc_new, World.cell?_alloc_new, Nat.zero_add]
  simpa using this

/-- these cells hold these values -/
def Holds (w : World) (l : List (Nat × Nat × Value)) : Prop := ∀ x ∈ l, x.1 < w.heap.size ∧ w.cell? ⟨x.1, x.2.1, none⟩ = some x.2.2
theorem Holds.below {w w' : World} {l : List (Nat × Nat × Value)} {B : Nat} (h : Holds w l) (hb : Below B w w') (hB : w.heap.size ≤ B) : Holds w' l := fun x hx =>
  ⟨Nat.lt_of_lt_of_le (h x hx).1 hb.size, (hb.cell (p := ⟨x.1, x.2.1, none⟩) (Nat.lt_of_lt_of_le (h x hx).1 hB)).trans (h x hx).2⟩
theorem holds_cons {w : World} {b o : Nat} {v : Value} {l : List (Nat × Nat × Value)} : Holds w ((b, o, v) :: l) ↔ (b < w.heap.size ∧ w.cell? ⟨b, o, none⟩ = some v) ∧ Holds w l := by
  unfold Holds; simp
theorem holds_nil {w : World} : Holds w [] ↔ True := by unfold Holds; simp
theorem holds_at {w : World} {b o : Nat} {v : Value} (h : w.cell? ⟨b, o, none⟩ = some v) : b < w.heap.size ∧ w.cell? ⟨b, o, none⟩ = some v := ⟨block_lt_of_cell h, h⟩

end Go.Proofs.Ytlpfnpkmgkbngac

namespace Go.Proofs.Ytlpfnpkmgkbngac
open Go.ChangeShapes Go.WideShapes Go.ChangeAt Go.RowKit Go.Deep Go.Joins

theorem Try.own : ownKnob Try.prog.godebug = none := by kernel_rfl
theorem Try.laidOut : laidOutB Try.prog = true := by kernel_rfl

theorem trodAll_stays {H : Type} {enc : TypeId × Value → H} {W W' : World} (hb : Below W.heap.size W W') : ∀ {ts : List TypeId} {vs : List Value} {ds : List (DataW H)} {ps : List MemPlace}, (∀ t ∈ ts, Try.prog.readableRec t = true ∧ t < Try.prog.types.size) →
    DataW.TrodAll enc Try.prog W 0 (fun _ => true) true ts vs ds ps → (∀ x ∈ ps, x.block < W.heap.size) → DataW.TrodAll enc Try.prog W' 0 (fun b => decide (b < W.heap.size)) true ts vs ds ps := by
  intro ts
  induction ts with
  | nil => intro vs ds ps _ h _; cases vs <;> cases ds <;> simp_all [DataW.TrodAll]
  | cons t ts ih =>
    intro vs ds ps hr h hlt
    obtain ⟨v, vs', d, ds', p, q, rfl, rfl, rfl, h0, hrest⟩ := trodAll_cons h
    have ht := hr t (by simp)
    exact trodAll_cons_mk (Below.trod Try.laidOut ht.1 ht.2 h0 hb (fun x hx => hlt x (by simp [hx]))) (ih (fun u hu => hr u (by simp [hu])) hrest (fun x hx => hlt x (by simp [hx])))

set_option maxRecDepth 100000 in
theorem open_mark {H : Type} {enc : TypeId × Value → H} {W : World} {b0 : Nat} {v : Value} {d : DataW H} {p : List MemPlace} (hv : Value.okWide Try.prog W .any b0 41 v) (h : DataW.Trod enc Try.prog W 0 (fun _ => true) true 41 v d p) :
    ∃ a cap l c, v = .agg #[.slice a (List.length l) cap, .int .i64 c] ∧ StepsAt W a l ∧ l.length ≤ cap ∧ l.length ≤ maxLen := by
  obtain ⟨v0, v1, y0, y1, n, rfl, rfl, rfl, t0, t1⟩ := open_agg2 Try.underlying41 (by kernel_rfl) (by kernel_rfl) hv h
  obtain ⟨c, hc, _⟩ := DataW.trod_int Try.underlying3 t1
  simp only [List.cons.injEq, and_true] at hc
  subst hc
  rcases open_slice_pairs Try.underlying39 Try.underlying92 (by kernel_rfl) rfl rfl (by kernel_rfl) (by kernel_rfl) t0 with ⟨hcs, _⟩ | ⟨ad, len, cap, m, n', V0, V1, D0, D1, P0, P1, hcs, hb, hl, hm, hmm, hx, hcell⟩
  · simp only [List.cons.injEq, and_true] at hcs
    subst hcs
    exact ⟨none, 0, [], c, rfl, Or.inl rfl, Nat.le_refl _, Nat.zero_le _⟩
  · simp only [List.cons.injEq, and_true] at hcs
    subst hcs
    simp only [if_true] at hmm
    subst hmm
    have each : ∀ i, i < len → ∃ q : Int × Int, V0 i = .int .i64 q.1 ∧ V1 i = .int .i64 q.2 := by
      intro i hi
      obtain ⟨_, _, e0, e1⟩ := hcell i (by omega)
      obtain ⟨x, hx, _⟩ := DataW.trod_int Try.underlying3 e0
      obtain ⟨y, hy, _⟩ := DataW.trod_int Try.underlying3 e1
      simp only [List.cons.injEq, and_true] at hx hy
      exact ⟨(x, y), hx, hy⟩
    obtain ⟨q, hq⟩ := choose_lt each
    refine ⟨some ad, m, (List.range len).map q, c, by simp, ?_, by simpa using hl, by simp; omega⟩
    by_cases hlen : len = 0
    · subst hlen; exact Or.inl rfl
    · obtain ⟨b, off, spot⟩ := ad
      have h0 := (hcell 0 (by omega)).1
      have hspot : spot = none := by simpa [Addr.add] using World.cell?_spot h0
      subst hspot
      refine Or.inr ⟨b, off, rfl, block_lt_of_cell h0, fun i hi => ?_⟩
      have hi' : i < len := by simpa using hi
      obtain ⟨e0, e1, _, _⟩ := hcell i (by omega)
      rw [(hq i hi').1, add_plain] at e0
      rw [(hq i hi').2, add_plain] at e1
      simp only [List.getElem_map, List.getElem_range]
      exact ⟨e0, e1⟩

end Go.Proofs.Ytlpfnpkmgkbngac

namespace Go.Proofs.Ytlpfnpkmgkbngac
open Go.RowKit

set_option maxHeartbeats 1000000 in
theorem at_any (d s c : Int) (w : World) :
    Calls Try.prog 57 #[.int .i64 d, .int .i64 s, .int .i64 c] w fun e w' => e = .returned (.agg #[.slice (some ⟨w.heap.size + 1, 0, none⟩) 1 1, .int .i64 c]) ∧ StepsAt w' (some ⟨w.heap.size + 1, 0, none⟩) [(d, s)] ∧ Below w.heap.size w w' := by
  go_enter Try.func57, Try.ntmps57
  go_wp2
  refine bodyPost_ret (v := .agg #[.slice (some ⟨w.heap.size + 1, 0, none⟩) 1 1, .int .i64 c]) (by simp [results, Try.results57, go_sem]) rfl ⟨rfl, ?_, ?_⟩
  · have := stepsAt_new (w.alloc (Obj.cells #[.slice (some ⟨w.heap.size + 1, 0, none⟩) 1 1, .int .i64 c] 41)) [(d, s)]
    simpa [flatS] using this
  · exact ((Below.refl _ _).alloc (Nat.le_refl _) _).alloc (by simp) _

theorem next_n (a : Option Addr) (cap k : Nat) (l : List (Int × Int)) (c n : Int) (w : World) (hk : k = l.length) (hl : l.length ≤ maxLen) (h : StepsAt w a l) :
    Calls Try.prog 120 #[.agg #[.slice a k cap, .int .i64 c], .int .i64 n] w (NextGives w l c n) := by
  subst hk; exact next_any a cap l c n w hl h
theorem order_n (a a' : Option Addr) (cap cap' n n' : Nat) (l m : List (Int × Int)) (c d : Int) (w : World) (hn : n = l.length) (hn' : n' = m.length) (hl : l.length ≤ maxLen) (hm : m.length ≤ maxLen) (h : StepsAt w a l) (h' : StepsAt w a' m) :
    Calls Try.prog 54 #[.agg #[.slice a n cap, .int .i64 c], .agg #[.slice a' n' cap', .int .i64 d]] w fun e w' => e = .returned (.int .i64 (ordM l c m d)) ∧ Below w.heap.size w w' := by
  subst hn hn'; exact order_any a a' cap cap' l m c d w hl hm h h'
end Go.Proofs.Ytlpfnpkmgkbngac
