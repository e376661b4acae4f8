/- Contracts of slices.Clone. -/
import Derived.Test.YtnhjebdlcbhkcaeGreatEnds
import Derived.Test.YtnhjebdlcbhkcaeGreatNextC
import Derived.Test.YtnhjebdlcbhkcaeGreatGapA
import Derived.Laws.OwnMore
import Derived.Test.YtnhjebdlcbhkcaeGreatShapeC
import Derived.Test.YtnhjebdlcbhkcaeGreatNextOf
import Derived.Laws.AppendOwnNone
namespace Go.Proofs.YtnhjebdlcbhkcaeGreat
open Go.RowKit

theorem addPl (b o i : Nat) : (⟨b, o, none⟩ : Addr).add i = ⟨b, o + i, none⟩ := by unfold Addr.add; split <;> simp_all

theorem infoCS : ∃ i, Tryz.prog.info? 124 = some i ∧ i.zero = some (.agg #[.int .i64 0, .int .i64 0]) ∧ i.size = 2 ∧ i.bytes = 16 := by
  have h : (Tryz.prog.info? 124).map (fun i => (i.zero, i.size, i.bytes)) = some (some (.agg #[.int .i64 0, .int .i64 0]), 2, 16) := by kernel_rfl
  rw [Option.map_eq_some_iff] at h
  obtain ⟨i, hi, he⟩ := h
  simp only [Prod.mk.injEq] at he
  exact ⟨i, hi, he⟩

end Go.Proofs.YtnhjebdlcbhkcaeGreat

namespace Go.Proofs.YtnhjebdlcbhkcaeGreat
open Go.RowKit

theorem run_append_nil {P : Program} {w : World} (base : Nat) (t ty e : TypeId) (i : TypeInfo) (size : Nat) (ht : P.underlying t = some (.slice e)) (hi : P.info? e = some i)
    (v : Value) (n c : Nat) (xs : List Value) (hown : w.ownsRow base e size v n xs) :
    (Builtin.append_ #[t, t] ty #[v, .slice none 0 c]).run P w = .ok v w := by
  rcases hown.2 with ⟨rfl, rfl⟩ | ⟨g, cap, cur, rfl, _, _, hnc, _⟩
  · simp [Builtin.append_, run_underlying ht, sizeOf, typeInfo, hi, Builtin.lenOf, Builtin.firstCells]
  · simp [Builtin.append_, run_underlying ht, sizeOf, typeInfo, hi, Builtin.lenOf, Builtin.firstCells, hnc, storeCells]

theorem step_append_any {P : Program} {ops : Array Oper} {o : Oper} {a : Act} {w : World} {K : Act → World → Prop} {Q : Exit → Act → World → Prop} {E : Prop}
    (hg : o.guard = none) (s x : Operand) (t : TypeId) (hop : o.op = Op.call { callee := Callee.builtin Builtin.append, args := #[s, x], argTypes := #[t, t] }) (base : Nat)
    (e : TypeId) (i : TypeInfo) (z : Value) (size bytes : Nat) (h1 : P.underlying t = some (.slice e)) (h2 : P.info? e = some i) (h3 : i.zero = some z) (h4 : i.size = size) (h5 : i.bytes = bytes) (h6 : z.cells.size = size) (h7 : 0 < size)
    (v : Value) (n : Nat) (olds : List Value) (hs : a.eval s = v) (hown : w.ownsRow base e size v n olds)
    (ao : Option Addr) (m c : Nat) (news : List Value) (hx : a.eval x = .slice ao m c) (hn : news.length = m * size) (hc : ∀ j u, news[j]? = some u → ∃ b off, ao = some ⟨b, off, none⟩ ∧ w.cell? ⟨b, off + j, none⟩ = some u) (h1c : ∀ u ∈ news, u.oneCell' = true)
    (b1 : n + m ≤ maxLen) (b2 : (n + m) * bytes ≤ 140737488355328) (hb : base ≤ w.heap.size)
    (hK : ∀ v' w', w'.ownsRow base e size v' (n + m) (olds ++ news) → w.grownBy w' v.ownBlock → K (a.put o.dst v') w') :
    if Region.wanted o (yielded ops a.tmps) = true then Oper.wp P o a w K Q else E := by
  cases ao with
  | none =>
    have h0 : m = 0 := by
      rcases Nat.eq_zero_or_pos m with h | h
      · exact h
      · have hp : 0 < news.length := by rw [hn]; exact Nat.mul_pos h h7
        obtain ⟨b, off, e, _⟩ := hc 0 _ (List.getElem?_eq_getElem hp)
        cases e
    subst h0
    have he : news = [] := List.length_eq_zero_iff.1 (by omega)
    subst he
    have hw : Region.wanted o (yielded ops a.tmps) = true := by simp [Region.wanted, hg]
    rw [if_pos hw]
    have hrun := run_append_nil (P := P) (w := w) base t o.type e i size h1 h2 v n c olds hown
    unfold Oper.wp
    simp [execOp, hop, resolve, invoke, builtin, hs, hx, hrun, Result.andThen]
    exact hK v w (by rw [List.append_nil]; exact hown) ⟨rfl, rfl, rfl, Nat.le_refl _, fun _ _ _ => rfl⟩
  | some ad =>
    refine step_append_own hg s x t hop base e i z size bytes h1 h2 h3 h4 h5 h6 h7 v n olds hs hown ad m c news hx hn (fun j u hj => ?_) h1c b1 b2 hb hK
    obtain ⟨b, off, e, h⟩ := hc j u hj
    cases e
    rw [addPl]
    exact h
end Go.Proofs.YtnhjebdlcbhkcaeGreat

namespace Go.Proofs.YtnhjebdlcbhkcaeGreat
open Go.RowKit

theorem wpList_append_any {P : Program} {w : World} {ops : Array Oper} {rest : List Oper} {o : Oper} {a : Act} {Q : Exit → Act → World → Prop} (hgd : o.guard = none) (s x : Operand) (t : TypeId)
    (ho : o.op = .call { callee := .builtin .append, args := #[s, x], argTypes := #[t, t] })
    (base : Nat) (e : TypeId) (i : TypeInfo) (z : Value) (size bytes : Nat) (ht : P.underlying t = some (.slice e)) (hi : P.info? e = some i) (hz : i.zero = some z)
    (hsize : i.size = size) (hby : i.bytes = bytes) (hzs : z.cells.size = size) (hsz : 0 < size)
    (v : Value) (n : Nat) (xs : List Value) (hs : a.eval s = v) (hown : w.ownsRow base e size v n xs)
    (ao : Option Addr) (m c : Nat) (news : List Value) (hx : a.eval x = .slice ao m c) (hl : news.length = m * size) (hnews : ∀ j u, news[j]? = some u → ∃ b off, ao = some ⟨b, off, none⟩ ∧ w.cell? ⟨b, off + j, none⟩ = some u) (h1 : ∀ u ∈ news, u.oneCell' = true)
    (h63 : n + m ≤ maxLen) (hbytes : (n + m) * bytes ≤ 140737488355328) (hbase : base ≤ w.heap.size)
    (h : ∀ v' w', w'.ownsRow base e size v' (n + m) (xs ++ news) → w.grownBy w' v.ownBlock → wpList P ops Q rest (a.put o.dst v') w') : wpList P ops Q (o :: rest) a w := by
  cases ao with
  | none =>
    have h0 : m = 0 := by
      rcases Nat.eq_zero_or_pos m with h | h
      · exact h
      · have hp : 0 < news.length := by rw [hl]; exact Nat.mul_pos h hsz
        obtain ⟨b, off, e, _⟩ := hnews 0 _ (List.getElem?_eq_getElem hp)
        cases e
    subst h0
    have he : news = [] := List.length_eq_zero_iff.1 (by omega)
    subst he
    refine wpList_plain hgd fun K hK => ?_
    have hrun := run_append_nil (P := P) (w := w) base t o.type e i size ht hi v n c xs hown
    unfold Oper.wp
    simp [execOp, ho, resolve, invoke, builtin, hs, hx, hrun, Result.andThen]
    exact hK _ _ (h v w (by rw [List.append_nil]; exact hown) ⟨rfl, rfl, rfl, Nat.le_refl _, fun _ _ _ => rfl⟩)
  | some ad =>
    exact wpList_append_own w hgd s x t ho base e i z size bytes ht hi hz hsize hby hzs hsz v n xs hs hown ad m c news hx hl (fun j u hj => by
      obtain ⟨b, off, e, h⟩ := hnews j u hj
      cases e
      rw [addPl]
      exact h) h1 h63 hbytes hbase (fun v' w' h1 h2 _ => h v' w' h1 h2)

theorem steps_cells {w : World} {p : Option Addr} {l : List (Int × Int)} (h : StepsAt w p l) : ∀ j u, (flatS l)[j]? = some u → ∃ b off, p = some ⟨b, off, none⟩ ∧ w.cell? ⟨b, off + j, none⟩ = some u := by
  intro j u hj
  rcases h with rfl | ⟨b, off, rfl, _, hc⟩
  · simp [flatS] at hj
  · refine ⟨b, off, rfl, ?_⟩
    have hlt : j < (flatS l).length := (List.getElem?_eq_some_iff.1 hj).1
    rw [flatS_length] at hlt
    have hd : j / 2 < l.length := by omega
    have hk := flat_at (fun s : Int × Int => [Value.int .i64 s.1, .int .i64 s.2]) 2 (fun _ => rfl) l (j / 2) hd (j % 2) (Nat.mod_lt _ (by decide))
    have e : j / 2 * 2 + j % 2 = j := by omega
    rw [e] at hk
    have hj2 : ([Value.int .i64 l[j / 2].1, .int .i64 l[j / 2].2] : List Value)[j % 2]? = some u := hk.symm.trans hj
    obtain ⟨c0, c1⟩ := hc (j / 2) hd
    rcases (show j % 2 = 0 ∨ j % 2 = 1 by omega) with e2 | e2
    · rw [e2] at hj2
      have : off + j = off + j / 2 * 2 := by omega
      rw [this, c0]; simpa using hj2
    · rw [e2] at hj2
      have : off + j = off + j / 2 * 2 + 1 := by omega
      rw [this, c1]; simpa using hj2
theorem flatS_oneC (l : List (Int × Int)) : ∀ u ∈ flatS l, u.oneCell' = true := by
  intro u hu
  obtain ⟨x, _, hu⟩ := List.mem_flatMap.1 hu
  simp only [List.mem_cons, List.not_mem_nil, or_false] at hu
  rcases hu with rfl | rfl <;> rfl
theorem own_steps {w : World} {base n cap : Nat} {p : Option Addr} {l : List (Int × Int)} (h : w.ownsRow base 124 2 (.slice p n cap) n (flatS l)) (hn : n = l.length) : StepsAt w p l ∧ n ≤ cap := by
  have h' := h
  rcases h.2 with ⟨e, h0⟩ | ⟨g, c, cur, e, _, _, hc, _⟩
  · simp only [Value.slice.injEq] at e
    exact ⟨Or.inl (List.length_eq_zero_iff.1 (by omega)), by omega⟩
  · simp only [Value.slice.injEq] at e
    obtain ⟨rfl, _, rfl⟩ := e
    exact ⟨stepsAt_owns h' hn, hc⟩

structure CA where
  x : At
  p : Option Addr
  cap : Nat
def CA.cells (r : CA) : List Value := [.slice r.p r.x.path.length r.cap, .int .i64 r.x.clock, .int .u8 r.x.sign]
def CaOwn (w : World) (base : Nat) (r : CA) : Prop := w.ownsRow base 124 2 (.slice r.p r.x.path.length r.cap) r.x.path.length (flatS r.x.path) ∧ r.x.path.length ≤ maxLen ∧ 0 ≤ r.x.sign ∧ r.x.sign ≤ 255
theorem CaOwn.stays (R : Nat) : Stays 108 R CaOwn :=
  ⟨fun _ _ _ _ h hR hg => ⟨h.1.kept hg (Or.inr (own_apart h.1 hR)), h.2⟩, fun _ _ _ _ _ _ _ _ h ho hg => ⟨h.1.kept hg (types_apart h.1 ho (by decide)), h.2⟩⟩
theorem CaOwn.mono {w : World} {base base' : Nat} {r : CA} (h : CaOwn w base r) (hb : base' ≤ base) : CaOwn w base' r := ⟨owns_base h.1 hb, h.2⟩

structure CM where
  x : Mk
  p : Option Addr
  cap : Nat
def CM.cells (r : CM) : List Value := [.slice r.p r.x.1.length r.cap, .int .i64 r.x.2]
def CmOwn (w : World) (base : Nat) (r : CM) : Prop := w.ownsRow base 124 2 (.slice r.p r.x.1.length r.cap) r.x.1.length (flatS r.x.1) ∧ r.x.1.length ≤ maxLen
theorem CmOwn.stays (R : Nat) : Stays 42 R CmOwn :=
  ⟨fun _ _ _ _ h hR hg => ⟨h.1.kept hg (Or.inr (own_apart h.1 hR)), h.2⟩, fun _ _ _ _ _ _ _ _ h ho hg => ⟨h.1.kept hg (types_apart h.1 ho (by decide)), h.2⟩⟩
theorem CmOwn.mono {w : World} {base base' : Nat} {r : CM} (h : CmOwn w base r) (hb : base' ≤ base) : CmOwn w base' r := ⟨owns_base h.1 hb, h.2⟩

structure CdOwn (w : World) (base : Nat) (r : RawD) : Prop where
  run : w.ownsRow base 124 2 (.slice r.p r.d.rp.length r.cp) r.d.rp.length (flatS r.d.rp)
  mark : w.ownsRow base 124 2 (.slice r.q r.d.mp.length r.cq) r.d.mp.length (flatS r.d.mp)
  rl : r.d.rp.length ≤ maxLen
  ml : r.d.mp.length ≤ maxLen
  tl : r.d.rt.size ≤ maxLen
  n0 : -9223372036854775808 ≤ r.d.many
  n1 : r.d.many ≤ 9223372036854775807
theorem CdOwn.stays (R : Nat) : Stays 64 R CdOwn :=
  ⟨fun _ _ _ _ h hR hg => ⟨h.run.kept hg (Or.inr (own_apart h.run hR)), h.mark.kept hg (Or.inr (own_apart h.mark hR)), h.rl, h.ml, h.tl, h.n0, h.n1⟩,
   fun _ _ _ _ _ _ _ _ h ho hg => ⟨h.run.kept hg (types_apart h.run ho (by decide)), h.mark.kept hg (types_apart h.mark ho (by decide)), h.rl, h.ml, h.tl, h.n0, h.n1⟩⟩

theorem RowOwn.belowE {α : Type} {T : TypeId} {K : Nat} {cells : α → List Value} {E : World → Nat → α → Prop} {w w' : World} {base : Nat} {v : Value} {xs : List α} (h : RowOwn T K cells E w base v xs) (hE : ∀ x, E w base x → E w' base x) (hb : Below w.heap.size w w') : RowOwn T K cells E w' base v xs :=
  ⟨owns_below h.own hb, fun x hx => hE x (h.each x hx)⟩
theorem CaOwn.below {w w' : World} {base : Nat} {r : CA} (h : CaOwn w base r) (hb : Below w.heap.size w w') : CaOwn w' base r := ⟨owns_below h.1 hb, h.2⟩
theorem CmOwn.below {w w' : World} {base : Nat} {r : CM} (h : CmOwn w base r) (hb : Below w.heap.size w w') : CmOwn w' base r := ⟨owns_below h.1 hb, h.2⟩
theorem CdOwn.below {w w' : World} {base : Nat} {r : RawD} (h : CdOwn w base r) (hb : Below w.heap.size w w') : CdOwn w' base r := ⟨owns_below h.run hb, owns_below h.mark hb, h.rl, h.ml, h.tl, h.n0, h.n1⟩

theorem rowOwn_cells {α : Type} {T : TypeId} {K : Nat} {cells : α → List Value} {E : World → Nat → α → Prop} {w : World} {base n cap : Nat} {p : Option Addr} {xs : List α} (h : RowOwn T K cells E w base (.slice p n cap) xs) (hn : xs.length = n) (hK : ∀ x, (cells x).length = K) :
    xs = [] ∨ ∃ g, p = some ⟨g, 0, none⟩ ∧ g < w.heap.size ∧ ∀ i (hi : i < xs.length) j, j < K → w.cell? ⟨g, 0 + i * K + j, none⟩ = (cells xs[i])[j]? := by
  subst hn
  have hown' := h.own
  rcases h.own.2 with ⟨e, h0⟩ | ⟨g, cc, cur, e, hb, _⟩
  · exact Or.inl (List.length_eq_zero_iff.1 h0)
  simp only [Value.slice.injEq] at e
  obtain ⟨rfl, _, _⟩ := e
  refine Or.inr ⟨g, rfl, (hown'.lt g rfl).2, fun i hi j hj => ?_⟩
  rw [Nat.zero_add]
  have hlt : i * K + j < xs.length * K := by
    have h1 : (i + 1) * K ≤ xs.length * K := Nat.mul_le_mul_right K hi
    rw [Nat.succ_mul] at h1
    omega
  exact (hown'.cellAt (i * K + j) hlt).trans (flat_at cells K hK xs i hi j hj)

theorem atoms_copy {w : World} {base n cap : Nat} {p : Option Addr} {rs : List CA} (h : RowOwn 108 3 CA.cells CaOwn w base (.slice p n cap) rs) (hn : rs.length = n) : AtomsAt w p (rs.map CA.x) := by
  rcases rowOwn_cells h hn (fun _ => rfl) with rfl | ⟨g, rfl, hg, k⟩
  · exact Or.inl rfl
  refine Or.inr ⟨g, 0, rfl, hg, fun i hi => ?_⟩
  have hi' : i < rs.length := by simpa using hi
  have em : (rs.map CA.x)[i] = rs[i].x := by simp
  rw [em]
  obtain ⟨how, hm, h0, h1⟩ := h.each _ (List.getElem_mem hi')
  obtain ⟨hs, hc⟩ := own_steps how rfl
  exact ⟨rs[i].p, rs[i].cap, k i hi' 0 (by decide), k i hi' 1 (by decide), k i hi' 2 (by decide), hs, hm, hc, h0, h1⟩
theorem marks_copy {w : World} {base n cap : Nat} {p : Option Addr} {rs : List CM} (h : RowOwn 42 2 CM.cells CmOwn w base (.slice p n cap) rs) (hn : rs.length = n) : MarksAt w p (rs.map CM.x) := by
  rcases rowOwn_cells h hn (fun _ => rfl) with rfl | ⟨g, rfl, hg, k⟩
  · exact Or.inl rfl
  refine Or.inr ⟨g, 0, rfl, hg, fun i hi => ?_⟩
  have hi' : i < rs.length := by simpa using hi
  have em : (rs.map CM.x)[i] = rs[i].x := by simp
  rw [em]
  obtain ⟨how, hm⟩ := h.each _ (List.getElem_mem hi')
  exact ⟨rs[i].p, rs[i].cap, k i hi' 0 (by decide), k i hi' 1 (by decide), (own_steps how rfl).1, hm⟩
theorem deeds_copy {w : World} {base n cap : Nat} {p : Option Addr} {rs : List RawD} (h : RowOwn 64 7 RawD.cells CdOwn w base (.slice p n cap) rs) (hn : rs.length = n) : DeedsAt w p (rs.map RawD.d) := by
  rcases rowOwn_cells h hn (fun _ => rfl) with rfl | ⟨g, rfl, hg, k⟩
  · exact Or.inl rfl
  refine Or.inr ⟨g, 0, rfl, hg, fun i hi => ?_⟩
  have hi' : i < rs.length := by simpa using hi
  have em : (rs.map RawD.d)[i] = rs[i].d := by simp
  rw [em]
  have hE := h.each _ (List.getElem_mem hi')
  exact ⟨rs[i].p, rs[i].cp, rs[i].q, rs[i].cq, k i hi' 0 (by decide), k i hi' 1 (by decide), k i hi' 2 (by decide), k i hi' 3 (by decide), k i hi' 4 (by decide), k i hi' 5 (by decide), k i hi' 6 (by decide), ⟨(own_steps hE.run rfl).1, (own_steps hE.mark rfl).1, hE.rl, hE.ml, hE.tl⟩, hE.n0, hE.n1⟩
end Go.Proofs.YtnhjebdlcbhkcaeGreat
