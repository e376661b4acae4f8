/- Rows of deeds that are the call's own: seven cells a deed, paths elsewhere. -/
import Derived.Test.YtnhjebdlcbhkcaeGreatAllC
import Derived.Test.YtnhjebdlcbhkcaeGreatNextOf
import Derived.Test.YtnhjebdlcbhkcaeGreatPutA
import Derived.Test.YtnhjebdlcbhkcaeGreatRunsC
namespace Go.Proofs.YtnhjebdlcbhkcaeGreat
open Go.RowKit

structure RawD where
  d : Dd
  p : Option Addr
  q : Option Addr
  cp : Nat
  cq : Nat
def RawD.cells (r : RawD) : List Value := [.int .i64 r.d.kind, .slice r.p r.d.rp.length r.cp, .int .i64 r.d.rc, .string r.d.rt, .slice r.q r.d.mp.length r.cq, .int .i64 r.d.mc, .int .i64 r.d.many]
def flatD (l : List RawD) : List Value := l.flatMap RawD.cells

theorem flatD_append (l m : List RawD) : flatD (l ++ m) = flatD l ++ flatD m := by unfold flatD; simp
theorem flatD_get (l : List RawD) : ∀ i (h : i < l.length) j, j < 7 → (flatD l)[i * 7 + j]? = l[i].cells[j]? := by
  induction l with
  | nil => intro i h; simp at h
  | cons s l ih =>
    intro i h j hj
    have e : flatD (s :: l) = s.cells ++ flatD l := rfl
    have hc : s.cells.length = 7 := rfl
    cases i with
    | zero => rw [e, List.getElem?_append_left (by omega)]; simp
    | succ i =>
      rw [e, List.getElem?_append_right (by omega), hc]
      have := ih i (by simpa using h) j hj
      rw [show (i + 1) * 7 + j - 7 = i * 7 + j by omega]
      simpa using this
theorem flatD_one (l : List RawD) : ∀ u ∈ flatD l, u.oneCell' = true := by
  intro u hu
  unfold flatD at hu
  rw [List.mem_flatMap] at hu
  obtain ⟨s, _, hs⟩ := hu
  simp only [RawD.cells, List.mem_cons, List.not_mem_nil, or_false] at hs
  rcases hs with rfl | rfl | rfl | rfl | rfl | rfl | rfl <;> rfl

def RawD.At (w : World) (r : RawD) : Prop := DdAt w r.d r.p r.q ∧ -9223372036854775808 ≤ r.d.many ∧ r.d.many ≤ 9223372036854775807
theorem RawD.At.below {w w' : World} {r : RawD} (h : r.At w) (hb : Below w.heap.size w w') : r.At w' := ⟨h.1.below hb, h.2⟩

def OwnsDd (w0 w : World) (base : Nat) (v : Value) (rs : List RawD) : Prop :=
  w.ownsRow base 64 7 v rs.length (flatD rs) ∧ ∀ r ∈ rs, r.At w0

theorem OwnsDd.nil (w0 w : World) (base : Nat) : OwnsDd w0 w base (.slice none 0 0) [] := ⟨World.ownsRow_nil w base 64 7, fun r h => by simp at h⟩

theorem OwnsDd.deeds {w0 w : World} {base : Nat} {v : Value} {rs : List RawD} (h : OwnsDd w0 w base v rs) (hb : Below w0.heap.size w0 w) : ∃ p cap, v = .slice p rs.length cap ∧ DeedsAt w p (rs.map RawD.d) := by
  obtain ⟨hown, hr⟩ := h
  have hown' := hown
  rcases hown.2 with ⟨rfl, h0⟩ | ⟨g, cap, cur, rfl, _, _, hc, hm, _⟩
  · have e : rs = [] := List.length_eq_zero_iff.1 h0
    subst e
    exact ⟨none, 0, rfl, Or.inl rfl⟩
  refine ⟨some ⟨g, 0, none⟩, cap, rfl, ?_⟩
  by_cases e : rs = []
  · exact Or.inl (by rw [e]; rfl)
  refine Or.inr ⟨g, 0, rfl, (hown'.lt g rfl).2, fun i hi => ?_⟩
  have hi' : i < rs.length := by simpa using hi
  have c := flatD_get rs i hi'
  have ha := (hr _ (List.getElem_mem hi')).below hb
  have k : ∀ j (hj : j < 7), w.cell? ⟨g, 0 + i * 7 + j, none⟩ = rs[i].cells[j]? := fun j hj => by
    rw [Nat.zero_add]
    exact (hown'.cellAt (i * 7 + j) (by omega)).trans (c j hj)
  have em : (rs.map RawD.d)[i] = rs[i].d := by simp
  rw [em]
  exact ⟨rs[i].p, rs[i].cp, rs[i].q, rs[i].cq, k 0 (by decide), k 1 (by decide), k 2 (by decide), k 3 (by decide), k 4 (by decide), k 5 (by decide), k 6 (by decide), ha.1, ha.2.1, ha.2.2⟩

theorem Tryz.info64 : ∃ i, Tryz.prog.info? 64 = some i ∧ i.zero = some (.agg #[.int .i64 0, .slice none 0 0, .int .i64 0, .string ⟨#[]⟩, .slice none 0 0, .int .i64 0, .int .i64 0]) ∧ i.size = 7 ∧ i.bytes = 96 := by
  have h : (Tryz.prog.info? 64).map (fun i => (i.zero, i.size, i.bytes)) = some (some (.agg #[.int .i64 0, .slice none 0 0, .int .i64 0, .string ⟨#[]⟩, .slice none 0 0, .int .i64 0, .int .i64 0]), 7, 96) := by kernel_rfl
  rw [Option.map_eq_some_iff] at h
  obtain ⟨i, hi, he⟩ := h
  simp only [Prod.mk.injEq] at he
  exact ⟨i, hi, he⟩

theorem rawD_new (w : World) (r : RawD) : ∀ j u, r.cells[j]? = some u → (w.alloc (.cells #[.int .i64 r.d.kind, .slice r.p r.d.rp.length r.cp, .int .i64 r.d.rc, .string r.d.rt, .slice r.q r.d.mp.length r.cq, .int .i64 r.d.mc, .int .i64 r.d.many] 64)).cell? ⟨w.heap.size, j, none⟩ = some u := by
  intro j u hj
  rw [World.cell?_alloc_new]
  simpa [RawD.cells] using hj

end Go.Proofs.YtnhjebdlcbhkcaeGreat

namespace Go.Proofs.YtnhjebdlcbhkcaeGreat
open Go.RowKit

def Blk (w : World) (R : Nat) (cs : Array Value) (t : TypeId) : Prop := w.heap[R]? = some (.cells cs t (0, 0))

section
variable {w w' : World} {R : Nat} {cs : Array Value} {t : TypeId}
theorem Blk.cell (h : Blk w R cs t) (i : Nat) : w.cell? ⟨R, i, none⟩ = cs[i]? := by
  unfold Blk at h; simp [World.cell?, h]
theorem Blk.is (h : Blk w R cs t) (i : Nat) {v : Value} (hv : cs[i]? = some v) : w.cell? ⟨R, i, none⟩ = some v := (h.cell i).trans hv
theorem Blk.frozen (h : Blk w R cs t) (i : Nat) : w.frozen? ⟨R, i, none⟩ = false := by
  unfold Blk at h; simp [World.frozen?, h]
theorem Blk.lt (h : Blk w R cs t) : R < w.heap.size := (Array.getElem?_eq_some_iff.1 h).1
theorem Blk.new (w : World) (cs : Array Value) (t : TypeId) : Blk (w.alloc (.cells cs t)) w.heap.size cs t := by
  unfold Blk World.alloc; simp
theorem Blk.alloc (h : Blk w R cs t) (o : Obj) : Blk (w.alloc o) R cs t := by
  have := h.lt
  unfold Blk World.alloc at *
  simp only
  rw [Array.getElem?_push_lt this]
  rw [Array.getElem?_eq_getElem this] at h
  exact h
theorem Blk.drew (h : Blk w R cs t) : Blk w.drew R cs t := h
theorem Blk.setOther (h : Blk w R cs t) {a : Addr} (ha : a.block ≠ R) (v : Value) : Blk (w.setCell a v) R cs t := by
  unfold Blk
  rw [Below.heap_setCell _ _ _ _ (fun e => ha e.symm)]; exact h
theorem Blk.set (h : Blk w R cs t) (i : Nat) (v : Value) : Blk (w.setCell ⟨R, i, none⟩ v) R (cs.setIfInBounds i v) t := by
  have hl := h.lt
  unfold Blk World.setCell at *
  simp only
  rw [Array.getElem?_modify]
  simp [h]
theorem Blk.grown (h : Blk w R cs t) {row : Option Nat} (hg : w.grownBy w' row) (hne : some R ≠ row) : Blk w' R cs t := (hg.block R h.lt hne).trans h
theorem Blk.below (h : Blk w R cs t) {B : Nat} (hb : Below B w w') (hB : R < B) : Blk w' R cs t := (hb.block R hB).trans h
end
theorem grownBy_set' (w : World) (R i : Nat) (v : Value) : w.grownBy (w.setCell ⟨R, i, none⟩ v) (some R) :=
  ⟨rfl, rfl, rfl, by simp [World.setCell], fun k _ hne => Below.heap_setCell _ _ _ k (fun e => hne (by rw [e]))⟩
theorem owns_sl {w : World} {base : Nat} {e : TypeId} {size : Nat} {v : Value} {n : Nat} {xs : List Value} (h : w.ownsRow base e size v n xs) : ∃ p cap, v = .slice p n cap := by
  rcases h.2 with ⟨rfl, rfl⟩ | ⟨g, cap, cur, rfl, _⟩
  · exact ⟨none, 0, rfl⟩
  · exact ⟨_, _, rfl⟩
end Go.Proofs.YtnhjebdlcbhkcaeGreat

namespace Go.Proofs.YtnhjebdlcbhkcaeGreat
open Go.RowKit

def SpG (B : Nat) (w w' : World) : Prop :=
  Below B w w' ∧ ∀ (k : Nat) (cs : Array Value) (t : TypeId) (fz : Nat × Nat), w.heap[k]? = some (.cells cs t fz) → ∃ cs', w'.heap[k]? = some (.cells cs' t fz) ∧ ∀ (j : Nat) (v : Value), cs[j]? = some v → cs'[j]? = some v ∨ ∃ kd a b, v = .int kd a ∧ cs'[j]? = some (.int kd b)

section
variable {B : Nat} {w w' w'' : World}
theorem SpG.refl (B : Nat) (w : World) : SpG B w w := ⟨Below.refl _ _, fun _ cs _ _ h => ⟨cs, h, fun _ _ h => Or.inl h⟩⟩
theorem SpG.trans (h : SpG B w w') (k : SpG B w' w'') : SpG B w w'' := by
  refine ⟨h.1.trans k.1, fun b cs t fz hb => ?_⟩
  obtain ⟨cs1, h1, h2⟩ := h.2 b cs t fz hb
  obtain ⟨cs2, k1, k2⟩ := k.2 b cs1 t fz h1
  refine ⟨cs2, k1, fun j v hj => ?_⟩
  rcases h2 j v hj with e | ⟨kd, x, y, rfl, e⟩
  · exact k2 j v e
  · rcases k2 j _ e with e' | ⟨kd', x', y', e1, e2⟩
    · exact Or.inr ⟨kd, x, y, rfl, e'⟩
    · cases e1
      exact Or.inr ⟨kd, x, y', rfl, e2⟩
theorem SpG.of_below (hb : Below w.heap.size w w') (hB : B ≤ w.heap.size) : SpG B w w' := by
  refine ⟨hb.mono hB, fun k cs t fz hk => ⟨cs, ?_, fun _ _ h => Or.inl h⟩⟩
  rw [hb.block k (Array.getElem?_eq_some_iff.1 hk).1]
  exact hk
theorem SpG.thru (h : SpG B w w') (hb : Below w'.heap.size w' w'') (hB : B ≤ w.heap.size) : SpG B w w'' := h.trans (SpG.of_below hb (Nat.le_trans hB h.1.size))
theorem heap_of_cell {w : World} {b o : Nat} {v : Value} (h : w.cell? ⟨b, o, none⟩ = some v) : ∃ cs t fz, w.heap[b]? = some (.cells cs t fz) ∧ cs[o]? = some v := by
  unfold World.cell? at h
  simp only at h
  split at h
  · next cs t fz e => exact ⟨cs, t, fz, e, h⟩
  all_goals first | contradiction | simp at h
theorem SpG.cell {b o : Nat} {v : Value} (h : SpG B w w') (hc : w.cell? ⟨b, o, none⟩ = some v) : w'.cell? ⟨b, o, none⟩ = some v ∨ ∃ kd x y, v = .int kd x ∧ w'.cell? ⟨b, o, none⟩ = some (.int kd y) := by
  obtain ⟨cs, t, fz, e, hv⟩ := heap_of_cell hc
  obtain ⟨cs', e', h'⟩ := h.2 b cs t fz e
  have hk : w'.cell? ⟨b, o, none⟩ = cs'[o]? := by simp [World.cell?, e']
  rw [hk]
  exact h' o v hv
theorem SpG.cellI {b o : Nat} {kd : IntKind} {x : Int} (h : SpG B w w') (hc : w.cell? ⟨b, o, none⟩ = some (.int kd x)) : ∃ y, w'.cell? ⟨b, o, none⟩ = some (.int kd y) := by
  rcases h.cell hc with e | ⟨kd', x', y, e1, e2⟩
  · exact ⟨x, e⟩
  · cases e1; exact ⟨y, e2⟩
theorem SpG.cellS {b o : Nat} {p : Option Addr} {n c : Nat} (h : SpG B w w') (hc : w.cell? ⟨b, o, none⟩ = some (.slice p n c)) : w'.cell? ⟨b, o, none⟩ = some (.slice p n c) := by
  rcases h.cell hc with e | ⟨kd', x', y, e1, e2⟩
  · exact e
  · cases e1
theorem SpG.cellT {b o : Nat} {t : ByteArray} (h : SpG B w w') (hc : w.cell? ⟨b, o, none⟩ = some (.string t)) : w'.cell? ⟨b, o, none⟩ = some (.string t) := by
  rcases h.cell hc with e | ⟨kd', x', y, e1, e2⟩
  · exact e
  · cases e1
theorem SpG.frozen {b o o' : Nat} {v : Value} (h : SpG B w w') (hc : w.cell? ⟨b, o', none⟩ = some v) : w'.frozen? ⟨b, o, none⟩ = w.frozen? ⟨b, o, none⟩ := by
  obtain ⟨cs, t, fz, e, hv⟩ := heap_of_cell hc
  obtain ⟨cs', e', h'⟩ := h.2 b cs t fz e
  simp [World.frozen?, e, e']
theorem SpG.set {b o : Nat} {kd : IntKind} {x y : Int} (hc : w.cell? ⟨b, o, none⟩ = some (.int kd x)) (hB : B ≤ b) : SpG B w (w.setCell ⟨b, o, none⟩ (.int kd y)) := by
  refine ⟨(Below.refl _ _).setCell hB _, fun k cs t fz hk => ?_⟩
  by_cases e : k = b
  · subst e
    obtain ⟨cs0, t0, fz0, e0, hv⟩ := heap_of_cell hc
    rw [e0] at hk
    cases hk
    refine ⟨cs.setIfInBounds o (.int kd y), ?_, fun j v hj => ?_⟩
    · unfold World.setCell
      simp only
      rw [Array.getElem?_modify]
      simp [e0]
    · by_cases ej : j = o
      · subst ej
        rw [hv] at hj
        cases hj
        refine Or.inr ⟨kd, x, y, rfl, ?_⟩
        have := (Array.getElem?_eq_some_iff.1 hv).1
        simp [this]
      · refine Or.inl ?_
        rw [Array.getElem?_setIfInBounds_ne (fun e => ej e.symm)]
        exact hj
  · refine ⟨cs, ?_, fun _ _ h => Or.inl h⟩
    rw [Below.heap_setCell _ _ _ _ (fun e' => e e')]
    exact hk
end

def ShS (w : World) (B : Nat) (p : Option Addr) (n : Nat) : Prop :=
  n = 0 ∨ ∃ b o, p = some ⟨b, o, none⟩ ∧ B ≤ b ∧ b < w.heap.size ∧ ∀ j, j < n → (∃ x, w.cell? ⟨b, o + j * 2, none⟩ = some (.int .i64 x)) ∧ (∃ x, w.cell? ⟨b, o + j * 2 + 1, none⟩ = some (.int .i64 x)) ∧ w.frozen? ⟨b, o + j * 2, none⟩ = false
theorem ShS.sp {B B' : Nat} {w w' : World} {p : Option Addr} {n : Nat} (h : ShS w B p n) (hs : SpG B' w w') : ShS w' B p n := by
  rcases h with h | ⟨b, o, rfl, hB, hlt, hc⟩
  · exact Or.inl h
  · refine Or.inr ⟨b, o, rfl, hB, Nat.lt_of_lt_of_le hlt hs.1.size, fun j hj => ?_⟩
    obtain ⟨⟨x, c0⟩, ⟨y, c1⟩, hf⟩ := hc j hj
    exact ⟨hs.cellI c0, hs.cellI c1, (hs.frozen c0).trans hf⟩
theorem ShS.mono {B B' : Nat} {w : World} {p : Option Addr} {n : Nat} (h : ShS w B p n) (hB : B' ≤ B) : ShS w B' p n := by
  rcases h with h | ⟨b, o, rfl, h1, hlt, hc⟩
  · exact Or.inl h
  · exact Or.inr ⟨b, o, rfl, Nat.le_trans hB h1, hlt, hc⟩
theorem ShS.steps {B : Nat} {w : World} {p : Option Addr} {n : Nat} (h : ShS w B p n) : ∃ l : List (Int × Int), l.length = n ∧ StepsAt w p l := by
  rcases h with rfl | ⟨b, o, rfl, _, hlt, hc⟩
  · exact ⟨[], rfl, Or.inl rfl⟩
  · induction n with
    | zero => exact ⟨[], rfl, Or.inl rfl⟩
    | succ n ih =>
      obtain ⟨l, hl, hs⟩ := ih (fun j hj => hc j (by omega))
      obtain ⟨⟨x, c0⟩, ⟨y, c1⟩, _⟩ := hc n (by omega)
      refine ⟨l ++ [(x, y)], by simp [hl], Or.inr ⟨b, o, rfl, hlt, fun i hi => ?_⟩⟩
      by_cases e : i < l.length
      · rcases hs with h0 | ⟨b', o', e1, _, hk⟩
        · rw [h0] at e; simp at e
        · simp only [Option.some.injEq, Addr.mk.injEq, and_true] at e1
          obtain ⟨rfl, rfl⟩ := e1
          rw [List.getElem_append_left e]
          exact hk i e
      · have : i = n := by simp at hi; omega
        subst this
        rw [List.getElem_append_right (by omega)]
        simp [hl, c0, c1]
theorem ShS.own {w : World} {base n cap : Nat} {p : Option Addr} {l : List (Int × Int)} (h : w.ownsRow base 124 2 (.slice p n cap) n (flatS l)) (hn : l.length = n) : ShS w base p n := by
  have h' := h
  rcases h.2 with ⟨e, h0⟩ | ⟨g, c, cur, e, hb, _⟩
  · exact Or.inl h0
  · simp only [Value.slice.injEq] at e
    obtain ⟨rfl, _, _⟩ := e
    subst hn
    refine Or.inr ⟨g, 0, rfl, hb, (h'.lt g rfl).2, fun j hj => ?_⟩
    have hs := stepsAt_owns h' rfl
    rcases hs with h0 | ⟨b', o', e1, _, hk⟩
    · rw [h0] at hj; simp at hj
    · simp only [Option.some.injEq, Addr.mk.injEq, and_true] at e1
      obtain ⟨rfl, rfl⟩ := e1
      exact ⟨⟨_, (hk j hj).1⟩, ⟨_, (hk j hj).2⟩, h'.frozenAt _⟩
end Go.Proofs.YtnhjebdlcbhkcaeGreat

namespace Go.Proofs.YtnhjebdlcbhkcaeGreat
open Go.RowKit

theorem flat_at {α : Type} (f : α → List Value) (K : Nat) (hf : ∀ x, (f x).length = K) : ∀ (l : List α) (i : Nat) (hi : i < l.length) (j : Nat), j < K → (l.flatMap f)[i * K + j]? = (f l[i])[j]?
  | [], i, hi, _, _ => by simp at hi
  | x :: l, 0, _, j, hj => by
    rw [List.flatMap_cons, Nat.zero_mul, Nat.zero_add, List.getElem?_append_left (by rw [hf]; exact hj)]
    rfl
  | x :: l, i + 1, hi, j, hj => by
    have hk : (i + 1) * K + j - (f x).length = i * K + j := by rw [hf, Nat.succ_mul]; omega
    rw [List.flatMap_cons, List.getElem?_append_right (by rw [hf, Nat.succ_mul]; omega), hk, flat_at f K hf l i (by simpa using hi) j hj]
    simp

def ShA (w : World) (B : Nat) (p : Option Addr) (n : Nat) : Prop :=
  n = 0 ∨ ∃ b o, p = some ⟨b, o, none⟩ ∧ B ≤ b ∧ ∀ i, i < n → ∃ q m c, w.cell? ⟨b, o + i * 3, none⟩ = some (.slice q m c) ∧ (∃ x, w.cell? ⟨b, o + i * 3 + 1, none⟩ = some (.int .i64 x)) ∧ (∃ x, w.cell? ⟨b, o + i * 3 + 2, none⟩ = some (.int .u8 x)) ∧ w.frozen? ⟨b, o + i * 3 + 2, none⟩ = false ∧ ShS w B q m ∧ m ≤ maxLen
theorem ShA.sp {B B' : Nat} {w w' : World} {p : Option Addr} {n : Nat} (h : ShA w B p n) (hs : SpG B' w w') : ShA w' B p n := by
  rcases h with h | ⟨b, o, rfl, hB, hc⟩
  · exact Or.inl h
  · refine Or.inr ⟨b, o, rfl, hB, fun i hi => ?_⟩
    obtain ⟨q, m, c, c0, ⟨x, c1⟩, ⟨y, c2⟩, hf, hS, hm⟩ := hc i hi
    exact ⟨q, m, c, hs.cellS c0, hs.cellI c1, hs.cellI c2, (hs.frozen c2).trans hf, hS.sp hs, hm⟩

def ShM (w : World) (B : Nat) (p : Option Addr) (n : Nat) : Prop :=
  n = 0 ∨ ∃ b o, p = some ⟨b, o, none⟩ ∧ B ≤ b ∧ ∀ i, i < n → ∃ q m c, w.cell? ⟨b, o + i * 2, none⟩ = some (.slice q m c) ∧ (∃ x, w.cell? ⟨b, o + i * 2 + 1, none⟩ = some (.int .i64 x)) ∧ w.frozen? ⟨b, o + i * 2 + 1, none⟩ = false ∧ ShS w B q m ∧ m ≤ maxLen
def ShR (w : World) (B : Nat) (p : Option Addr) (n : Nat) : Prop :=
  n = 0 ∨ ∃ b o, p = some ⟨b, o, none⟩ ∧ B ≤ b ∧ ∀ i, i < n → ∃ q m c t, w.cell? ⟨b, o + i * 3, none⟩ = some (.slice q m c) ∧ (∃ x, w.cell? ⟨b, o + i * 3 + 1, none⟩ = some (.int .i64 x)) ∧ w.cell? ⟨b, o + i * 3 + 2, none⟩ = some (.string t) ∧ ShS w B q m ∧ m ≤ maxLen ∧ t.size ≤ maxLen
def ShD (w : World) (B : Nat) (p : Option Addr) (n : Nat) : Prop :=
  n = 0 ∨ ∃ b o, p = some ⟨b, o, none⟩ ∧ B ≤ b ∧ ∀ i, i < n → ∃ q m c t q' m' c', (∃ x, w.cell? ⟨b, o + i * 7, none⟩ = some (.int .i64 x)) ∧ w.cell? ⟨b, o + i * 7 + 1, none⟩ = some (.slice q m c) ∧ (∃ x, w.cell? ⟨b, o + i * 7 + 2, none⟩ = some (.int .i64 x)) ∧ w.cell? ⟨b, o + i * 7 + 3, none⟩ = some (.string t) ∧ w.cell? ⟨b, o + i * 7 + 4, none⟩ = some (.slice q' m' c') ∧ (∃ x, w.cell? ⟨b, o + i * 7 + 5, none⟩ = some (.int .i64 x)) ∧ (∃ x, w.cell? ⟨b, o + i * 7 + 6, none⟩ = some (.int .i64 x)) ∧ w.frozen? ⟨b, o + i * 7, none⟩ = false ∧ ShS w B q m ∧ ShS w B q' m' ∧ m ≤ maxLen ∧ m' ≤ maxLen
def ShE (w : World) (B : Nat) (p : Option Addr) (n : Nat) : Prop :=
  n = 0 ∨ ∃ b o, p = some ⟨b, o, none⟩ ∧ B ≤ b ∧ ∀ i, i < n → (∃ x, w.cell? ⟨b, o + i * 4, none⟩ = some (.int .i64 x)) ∧ w.frozen? ⟨b, o + i * 4, none⟩ = false

section
variable {B B' : Nat} {w w' : World} {p : Option Addr} {n : Nat}
theorem ShM.sp (h : ShM w B p n) (hs : SpG B' w w') : ShM w' B p n := by
  rcases h with h | ⟨b, o, rfl, hB, hc⟩
  · exact Or.inl h
  · refine Or.inr ⟨b, o, rfl, hB, fun i hi => ?_⟩
    obtain ⟨q, m, c, c0, ⟨x, c1⟩, hf, hS, hm⟩ := hc i hi
    exact ⟨q, m, c, hs.cellS c0, hs.cellI c1, (hs.frozen c1).trans hf, hS.sp hs, hm⟩
theorem ShR.sp (h : ShR w B p n) (hs : SpG B' w w') : ShR w' B p n := by
  rcases h with h | ⟨b, o, rfl, hB, hc⟩
  · exact Or.inl h
  · refine Or.inr ⟨b, o, rfl, hB, fun i hi => ?_⟩
    obtain ⟨q, m, c, t, c0, ⟨x, c1⟩, c2, hS, hm, ht⟩ := hc i hi
    exact ⟨q, m, c, t, hs.cellS c0, hs.cellI c1, hs.cellT c2, hS.sp hs, hm, ht⟩
theorem ShD.sp (h : ShD w B p n) (hs : SpG B' w w') : ShD w' B p n := by
  rcases h with h | ⟨b, o, rfl, hB, hc⟩
  · exact Or.inl h
  · refine Or.inr ⟨b, o, rfl, hB, fun i hi => ?_⟩
    obtain ⟨q, m, c, t, q', m', c', ⟨x, c0⟩, c1, ⟨y, c2⟩, c3, c4, ⟨z, c5⟩, ⟨u, c6⟩, hf, hS, hS', hm, hm'⟩ := hc i hi
    exact ⟨q, m, c, t, q', m', c', hs.cellI c0, hs.cellS c1, hs.cellI c2, hs.cellT c3, hs.cellS c4, hs.cellI c5, hs.cellI c6, (hs.frozen c0).trans hf, hS.sp hs, hS'.sp hs, hm, hm'⟩
theorem ShE.sp (h : ShE w B p n) (hs : SpG B' w w') : ShE w' B p n := by
  rcases h with h | ⟨b, o, rfl, hB, hc⟩
  · exact Or.inl h
  · refine Or.inr ⟨b, o, rfl, hB, fun i hi => ?_⟩
    obtain ⟨⟨x, c0⟩, hf⟩ := hc i hi
    exact ⟨hs.cellI c0, (hs.frozen c0).trans hf⟩
theorem ShA.mono (h : ShA w B p n) (hB : B' ≤ B) : ShA w B' p n := by
  rcases h with h | ⟨b, o, rfl, h1, hc⟩
  · exact Or.inl h
  · refine Or.inr ⟨b, o, rfl, Nat.le_trans hB h1, fun i hi => ?_⟩
    obtain ⟨q, m, c, c0, c1, c2, hf, hS, hm⟩ := hc i hi
    exact ⟨q, m, c, c0, c1, c2, hf, hS.mono hB, hm⟩
theorem ShM.mono (h : ShM w B p n) (hB : B' ≤ B) : ShM w B' p n := by
  rcases h with h | ⟨b, o, rfl, h1, hc⟩
  · exact Or.inl h
  · refine Or.inr ⟨b, o, rfl, Nat.le_trans hB h1, fun i hi => ?_⟩
    obtain ⟨q, m, c, c0, c1, hf, hS, hm⟩ := hc i hi
    exact ⟨q, m, c, c0, c1, hf, hS.mono hB, hm⟩
theorem ShR.mono (h : ShR w B p n) (hB : B' ≤ B) : ShR w B' p n := by
  rcases h with h | ⟨b, o, rfl, h1, hc⟩
  · exact Or.inl h
  · refine Or.inr ⟨b, o, rfl, Nat.le_trans hB h1, fun i hi => ?_⟩
    obtain ⟨q, m, c, t, c0, c1, c2, hS, hm, ht⟩ := hc i hi
    exact ⟨q, m, c, t, c0, c1, c2, hS.mono hB, hm, ht⟩
theorem ShD.mono (h : ShD w B p n) (hB : B' ≤ B) : ShD w B' p n := by
  rcases h with h | ⟨b, o, rfl, h1, hc⟩
  · exact Or.inl h
  · refine Or.inr ⟨b, o, rfl, Nat.le_trans hB h1, fun i hi => ?_⟩
    obtain ⟨q, m, c, t, q', m', c', c0, c1, c2, c3, c4, c5, c6, hf, hS, hS', hm, hm'⟩ := hc i hi
    exact ⟨q, m, c, t, q', m', c', c0, c1, c2, c3, c4, c5, c6, hf, hS.mono hB, hS'.mono hB, hm, hm'⟩
theorem ShE.mono (h : ShE w B p n) (hB : B' ≤ B) : ShE w B' p n := by
  rcases h with h | ⟨b, o, rfl, h1, hc⟩
  · exact Or.inl h
  · exact Or.inr ⟨b, o, rfl, Nat.le_trans hB h1, hc⟩
end

section
variable {base : Nat} {w : World} {p : Option Addr} {n c : Nat}
theorem ShA.pick {xs : List At} (h : PickRow w base (.slice p n c) xs) (hn : xs.length = n) : ShA w base p n := by
  subst hn
  obtain ⟨rs, hrl, hown, hr⟩ := h
  have hown' := hown
  rcases hown.2 with ⟨e, h0⟩ | ⟨g, cc, cur, e, hb, _⟩
  · exact Or.inl h0
  simp only [Value.slice.injEq] at e
  obtain ⟨rfl, _, _⟩ := e
  refine Or.inr ⟨g, 0, rfl, hb, fun i hi => ?_⟩
  have hi' : i < rs.length := by omega
  have k : ∀ j, j < 3 → w.cell? ⟨g, 0 + i * 3 + j, none⟩ = rs[i].cells[j]? := fun j hj => by
    rw [Nat.zero_add]
    exact (hown'.cellAt (i * 3 + j) (by omega)).trans (flat_at Raw.cells 3 (fun _ => rfl) rs i hi' j hj)
  obtain ⟨g', cap, e, how, hm, _, _⟩ := hr i hi hi'
  rw [e] at k
  exact ⟨_, _, _, k 0 (by decide), ⟨_, k 1 (by decide)⟩, ⟨_, k 2 (by decide)⟩, hown'.frozenAt _, ShS.own how rfl, hm⟩
theorem ShM.mk {xs : List Mk} (h : MkRow w base (.slice p n c) xs) (hn : xs.length = n) : ShM w base p n := by
  subst hn
  obtain ⟨rs, hrl, hown, hr⟩ := h
  have hown' := hown
  rcases hown.2 with ⟨e, h0⟩ | ⟨g, cc, cur, e, hb, _⟩
  · exact Or.inl h0
  simp only [Value.slice.injEq] at e
  obtain ⟨rfl, _, _⟩ := e
  refine Or.inr ⟨g, 0, rfl, hb, fun i hi => ?_⟩
  have hi' : i < rs.length := by omega
  have k : ∀ j, j < 2 → w.cell? ⟨g, 0 + i * 2 + j, none⟩ = rs[i].cells[j]? := fun j hj => by
    rw [Nat.zero_add]
    exact (hown'.cellAt (i * 2 + j) (by omega)).trans (flat_at RawK.cells 2 (fun _ => rfl) rs i hi' j hj)
  obtain ⟨g', cap, e, how, hm⟩ := hr i hi hi'
  rw [e] at k
  exact ⟨_, _, _, k 0 (by decide), ⟨_, k 1 (by decide)⟩, hown'.frozenAt _, ShS.own how rfl, hm⟩
theorem ShR.run {xs : List Rn} (h : RunRow w base (.slice p n c) xs) (hn : xs.length = n) : ShR w base p n := by
  subst hn
  obtain ⟨rs, hrl, hown, hr⟩ := h
  have hown' := hown
  rcases hown.2 with ⟨e, h0⟩ | ⟨g, cc, cur, e, hb, _⟩
  · exact Or.inl h0
  simp only [Value.slice.injEq] at e
  obtain ⟨rfl, _, _⟩ := e
  refine Or.inr ⟨g, 0, rfl, hb, fun i hi => ?_⟩
  have hi' : i < rs.length := by omega
  have k : ∀ j, j < 3 → w.cell? ⟨g, 0 + i * 3 + j, none⟩ = rs[i].cells[j]? := fun j hj => by
    rw [Nat.zero_add]
    exact (hown'.cellAt (i * 3 + j) (by omega)).trans (flat_at RawN.cells 3 (fun _ => rfl) rs i hi' j hj)
  obtain ⟨g', cap, e, how, hm, ht⟩ := hr i hi hi'
  rw [e] at k
  exact ⟨_, _, _, _, k 0 (by decide), ⟨_, k 1 (by decide)⟩, k 2 (by decide), ShS.own how rfl, hm, ht⟩
theorem ShD.dd {w0 : World} {B : Nat} {rs : List RawD} (h : OwnsDd w0 w base (.slice p n c) rs) (hn : rs.length = n) (hB : B ≤ base) (hr : ∀ r ∈ rs, ShS w B r.p r.d.rp.length ∧ ShS w B r.q r.d.mp.length ∧ r.d.rp.length ≤ maxLen ∧ r.d.mp.length ≤ maxLen) : ShD w B p n := by
  subst hn
  obtain ⟨hown, _⟩ := h
  have hown' := hown
  rcases hown.2 with ⟨e, h0⟩ | ⟨g, cc, cur, e, hb, _⟩
  · exact Or.inl h0
  simp only [Value.slice.injEq] at e
  obtain ⟨rfl, _, _⟩ := e
  refine Or.inr ⟨g, 0, rfl, Nat.le_trans hB hb, fun i hi => ?_⟩
  have k : ∀ j, j < 7 → w.cell? ⟨g, 0 + i * 7 + j, none⟩ = rs[i].cells[j]? := fun j hj => by
    rw [Nat.zero_add]
    exact (hown'.cellAt (i * 7 + j) (by omega)).trans (flat_at RawD.cells 7 (fun _ => rfl) rs i hi j hj)
  obtain ⟨h1, h2, h3, h4⟩ := hr rs[i] (List.getElem_mem hi)
  exact ⟨_, _, _, _, _, _, _, ⟨_, k 0 (by decide)⟩, k 1 (by decide), ⟨_, k 2 (by decide)⟩, k 3 (by decide), k 4 (by decide), ⟨_, k 5 (by decide)⟩, ⟨_, k 6 (by decide)⟩, hown'.frozenAt _, h1, h2, h3, h4⟩
theorem RunRow.path {xs : List Rn} {b o : Nat} (h : RunRow w base (.slice (some ⟨b, o, none⟩) n c) xs) {i : Nat} (hi : i < xs.length) {pp : Option Addr} {m cp : Nat} (hc : w.cell? ⟨b, o + i * 3, none⟩ = some (.slice pp m cp)) : ShS w base pp m := by
  obtain ⟨rs, hrl, hown, hr⟩ := h
  have hown' := hown
  rcases hown.2 with ⟨e, h0⟩ | ⟨g, cc, cur, e, hb, _⟩
  · omega
  simp only [Value.slice.injEq, Option.some.injEq, Addr.mk.injEq, and_true] at e
  obtain ⟨⟨rfl, rfl⟩, rfl, rfl⟩ := e
  have hi' : i < rs.length := by omega
  have k : w.cell? ⟨b, 0 + i * 3 + 0, none⟩ = rs[i].cells[0]? := by
    rw [Nat.zero_add]
    exact (hown'.cellAt (i * 3 + 0) (by omega)).trans (flat_at RawN.cells 3 (fun _ => rfl) rs i hi' 0 (by decide))
  obtain ⟨g', cap, e, how, _, _⟩ := hr i hi hi'
  rw [e] at k
  have h9 := hc.symm.trans k
  simp only [RawN.cells, List.getElem?_cons_zero, Option.some.injEq, Value.slice.injEq] at h9
  obtain ⟨rfl, rfl, rfl⟩ := h9
  exact ShS.own how rfl
end
end Go.Proofs.YtnhjebdlcbhkcaeGreat
