/- How a mark that is handed in is read, and how arguments are read again behind a call that turned nothing old. -/
import Derived.Test.YtnhjebdlcbhkcagAtomCkR
import Derived.ProofKit
import Derived.SizedLaws
import Derived.Lib.SmallJoins
import Derived.Deep.SlicePairs
import Derived.Lib.RowBridge
namespace Go.Proofs.Ytnhjebdlcbhkcag
open Go.ChangeShapes Go.WideShapes Go.ChangeAt Go.RowKit Go.Deep Go.Joins

theorem Try.own : ownKnob Try.prog.godebug = none := by kernel_rfl
theorem Try.laidOut : laidOutB Try.prog = true := by kernel_rfl

theorem trodAll_stays {H : Type} {enc : TypeId × Value → H} {W W' : World} (hb : Below W.heap.size W W') : ∀ {ts : List TypeId} {vs : List Value} {ds : List (DataW H)} {ps : List MemPlace}, (∀ t ∈ ts, Try.prog.readableRec t = true ∧ t < Try.prog.types.size) →
    DataW.TrodAll enc Try.prog W 0 (fun _ => true) true ts vs ds ps → (∀ x ∈ ps, x.block < W.heap.size) → DataW.TrodAll enc Try.prog W' 0 (fun b => decide (b < W.heap.size)) true ts vs ds ps := by
  intro ts
  induction ts with
  | nil => intro vs ds ps _ h _; cases vs <;> cases ds <;> simp_all [DataW.TrodAll]
  | cons t ts ih =>
    intro vs ds ps hr h hlt
    obtain ⟨v, vs', d, ds', p, q, rfl, rfl, rfl, h0, hrest⟩ := trodAll_cons h
    have ht := hr t (by simp)
    exact trodAll_cons_mk (Below.trod Try.laidOut ht.1 ht.2 h0 hb (fun x hx => hlt x (by simp [hx]))) (ih (fun u hu => hr u (by simp [hu])) hrest (fun x hx => hlt x (by simp [hx])))

set_option maxRecDepth 100000 in
theorem open_mark {H : Type} {enc : TypeId × Value → H} {W : World} {b0 : Nat} {v : Value} {d : DataW H} {p : List MemPlace} (hv : Value.okWide Try.prog W .any b0 50 v) (h : DataW.Trod enc Try.prog W 0 (fun _ => true) true 50 v d p) :
    ∃ a cap l c, v = .agg #[.slice a (List.length l) cap, .int .i64 c] ∧ StepsAt W a l ∧ l.length ≤ cap ∧ l.length ≤ maxLen := by
  obtain ⟨v0, v1, y0, y1, n, rfl, rfl, rfl, t0, t1⟩ := open_agg2 Try.underlying50 (by kernel_rfl) (by kernel_rfl) hv h
  obtain ⟨c, hc, _⟩ := DataW.trod_int Try.underlying3 t1
  simp only [List.cons.injEq, and_true] at hc
  subst hc
  rcases open_slice_pairs Try.underlying48 Try.underlying72 (by kernel_rfl) rfl rfl (by kernel_rfl) (by kernel_rfl) t0 with ⟨hcs, _⟩ | ⟨ad, len, cap, m, n', V0, V1, D0, D1, P0, P1, hcs, hb, hl, hm, hmm, hx, hcell⟩
  · simp only [List.cons.injEq, and_true] at hcs
    subst hcs
    exact ⟨none, 0, [], c, rfl, Or.inl rfl, Nat.le_refl _, Nat.zero_le _⟩
  · simp only [List.cons.injEq, and_true] at hcs
    subst hcs
    simp only [if_true] at hmm
    subst hmm
    have each : ∀ i, i < len → ∃ q : Int × Int, V0 i = .int .i64 q.1 ∧ V1 i = .int .i64 q.2 := by
      intro i hi
      obtain ⟨_, _, e0, e1⟩ := hcell i (by omega)
      obtain ⟨x, hx, _⟩ := DataW.trod_int Try.underlying3 e0
      obtain ⟨y, hy, _⟩ := DataW.trod_int Try.underlying3 e1
      simp only [List.cons.injEq, and_true] at hx hy
      exact ⟨(x, y), hx, hy⟩
    obtain ⟨q, hq⟩ := choose_lt each
    refine ⟨some ad, m, (List.range len).map q, c, by simp, ?_, by simpa using hl, by simp; omega⟩
    by_cases hlen : len = 0
    · subst hlen; exact Or.inl rfl
    · obtain ⟨b, off, spot⟩ := ad
      have h0 := (hcell 0 (by omega)).1
      have hspot : spot = none := by simpa [Addr.add] using World.cell?_spot h0
      subst hspot
      refine Or.inr ⟨b, off, rfl, block_lt_of_cell h0, fun i hi => ?_⟩
      have hi' : i < len := by simpa using hi
      obtain ⟨e0, e1, _, _⟩ := hcell i (by omega)
      rw [(hq i hi').1, add_plain] at e0
      rw [(hq i hi').2, add_plain] at e1
      simp only [List.getElem_map, List.getElem_range]
      exact ⟨e0, e1⟩

end Go.Proofs.Ytnhjebdlcbhkcag
