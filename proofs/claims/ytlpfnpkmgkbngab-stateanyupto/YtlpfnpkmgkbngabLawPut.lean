/- Lists of numbers in memory; looking for a wrong one (slices.ContainsFunc over the literals of seen.Check and wire.Check). -/
import Derived.Test.YtlpfnpkmgkbngabOrderC
import Derived.Test.YtlpfnpkmgkbngabAllC
import Derived.Test.YtlpfnpkmgkbngabMkRow
import Derived.Test.YtlpfnpkmgkbngabDeedC
import Derived.Test.YtlpfnpkmgkbngabAtomCk
import Derived.Deep.RegionHeld3
namespace Go.Proofs.Ytlpfnpkmgkbngab
open Go.RowKit

/-- numbers that lie somewhere -/
def IntsAt (w : World) (a : Option Addr) (l : List Int) : Prop := l = [] ∨ ∃ b off, a = some ⟨b, off, none⟩ ∧ b < w.heap.size ∧ ∀ i (h : i < l.length), w.cell? ⟨b, off + i, none⟩ = some (.int .i64 l[i])
theorem IntsAt.below {w w' : World} {a : Option Addr} {l : List Int} (h : IntsAt w a l) (hb : Below w.heap.size w w') : IntsAt w' a l := by
  rcases h with h | ⟨b, off, e, hlt, hc⟩
  · exact Or.inl h
  · exact Or.inr ⟨b, off, e, Nat.lt_of_lt_of_le hlt hb.size, fun i hi => (hb.cell (p := ⟨b, off + i, none⟩) hlt).trans (hc i hi)⟩

def okNum (n : Int) : Bool := inB n 0 500
def okNums (l : List Int) : Bool := l.all okNum

end Go.Proofs.Ytlpfnpkmgkbngab

namespace Go.Proofs.Ytlpfnpkmgkbngab
open Go.RowKit

/-- a deed with where its paths lie -/
structure RawD where
  d : Dd
  p : Option Addr
  q : Option Addr
  cp : Nat
  cq : Nat
def RawD.cells (r : RawD) : List Value := [.int .i64 r.d.kind, .slice r.p r.d.rp.length r.cp, .int .i64 r.d.rc, .string r.d.rt, .slice r.q r.d.mp.length r.cq, .int .i64 r.d.mc, .int .i64 r.d.many]
def flatD (l : List RawD) : List Value := l.flatMap RawD.cells

theorem flatD_length (l : List RawD) : (flatD l).length = l.length * 7 := by
  unfold flatD; induction l with
  | nil => rfl
  | cons s l ih => simp only [List.flatMap_cons, List.length_append, ih, List.length_cons, RawD.cells, List.length_nil]; omega
theorem flatD_append (l m : List RawD) : flatD (l ++ m) = flatD l ++ flatD m := by unfold flatD; simp
theorem flatD_get (l : List RawD) : ∀ i (h : i < l.length) j, j < 7 → (flatD l)[i * 7 + j]? = l[i].cells[j]? := by
  induction l with
  | nil => intro i h; simp at h
  | cons s l ih =>
    intro i h j hj
    have e : flatD (s :: l) = s.cells ++ flatD l := rfl
    have hc : s.cells.length = 7 := rfl
    cases i with
    | zero => rw [e, List.getElem?_append_left (by omega)]; simp
    | succ i =>
      rw [e, List.getElem?_append_right (by omega), hc]
      have := ih i (by simpa using h) j hj
      rw [show (i + 1) * 7 + j - 7 = i * 7 + j by omega]
      simpa using this
theorem flatD_one (l : List RawD) : ∀ u ∈ flatD l, u.oneCell' = true := by
  intro u hu
  unfold flatD at hu
  rw [List.mem_flatMap] at hu
  obtain ⟨s, _, hs⟩ := hu
  simp only [RawD.cells, List.mem_cons, List.not_mem_nil, or_false] at hs
  rcases hs with rfl | rfl | rfl | rfl | rfl | rfl | rfl <;> rfl

/-- a deed's paths lie there, and its number is one -/
def RawD.At (w : World) (r : RawD) : Prop := DdAt w r.d r.p r.q ∧ -9223372036854775808 ≤ r.d.many ∧ r.d.many ≤ 9223372036854775807
theorem RawD.At.below {w w' : World} {r : RawD} (h : r.At w) (hb : Below w.heap.size w w') : r.At w' := ⟨h.1.below hb, h.2⟩

/-- a row that is the call's own -/
def OwnsDd (w0 w : World) (base : Nat) (v : Value) (rs : List RawD) : Prop :=
  w.ownsRow base 54 7 v rs.length (flatD rs) ∧ ∀ r ∈ rs, r.At w0

theorem OwnsDd.nil (w0 w : World) (base : Nat) : OwnsDd w0 w base (.slice none 0 0) [] := ⟨World.ownsRow_nil w base 54 7, fun r h => by simp at h⟩

theorem OwnsDd.deeds {w0 w : World} {base : Nat} {v : Value} {rs : List RawD} (h : OwnsDd w0 w base v rs) (hb : Below w0.heap.size w0 w) : ∃ p cap, v = .slice p rs.length cap ∧ DeedsAt w p (rs.map RawD.d) := by
  obtain ⟨hown, hr⟩ := h
  have hown' := hown
  rcases hown.2 with ⟨rfl, h0⟩ | ⟨g, cap, cur, rfl, _, _, hc, hm, _⟩
  · have e : rs = [] := List.length_eq_zero_iff.1 h0
    subst e
    exact ⟨none, 0, rfl, Or.inl rfl⟩
  refine ⟨some ⟨g, 0, none⟩, cap, rfl, ?_⟩
  by_cases e : rs = []
  · exact Or.inl (by rw [e]; rfl)
  refine Or.inr ⟨g, 0, rfl, (hown'.lt g rfl).2, fun i hi => ?_⟩
  have hi' : i < rs.length := by simpa using hi
  have c := flatD_get rs i hi'
  have ha := (hr _ (List.getElem_mem hi')).below hb
  have k : ∀ j (hj : j < 7), w.cell? ⟨g, 0 + i * 7 + j, none⟩ = rs[i].cells[j]? := fun j hj => by
    rw [Nat.zero_add]
    exact (hown'.cellAt (i * 7 + j) (by omega)).trans (c j hj)
  have em : (rs.map RawD.d)[i] = rs[i].d := by simp
  rw [em]
  exact ⟨rs[i].p, rs[i].cp, rs[i].q, rs[i].cq, k 0 (by decide), k 1 (by decide), k 2 (by decide), k 3 (by decide), k 4 (by decide), k 5 (by decide), k 6 (by decide), ha.1, ha.2.1, ha.2.2⟩

/-- deeds that lie somewhere, as raw ones -/
theorem deedsAt_raw {w : World} {b off : Nat} : ∀ {ds : List Dd} {k : Nat}, (∀ i (h : i < ds.length), ∃ p cp q cq, w.cell? ⟨b, off + (k + i) * 7, none⟩ = some (.int .i64 ds[i].kind) ∧ w.cell? ⟨b, off + (k + i) * 7 + 1, none⟩ = some (.slice p ds[i].rp.length cp) ∧ w.cell? ⟨b, off + (k + i) * 7 + 2, none⟩ = some (.int .i64 ds[i].rc) ∧ w.cell? ⟨b, off + (k + i) * 7 + 3, none⟩ = some (.string ds[i].rt) ∧ w.cell? ⟨b, off + (k + i) * 7 + 4, none⟩ = some (.slice q ds[i].mp.length cq) ∧ w.cell? ⟨b, off + (k + i) * 7 + 5, none⟩ = some (.int .i64 ds[i].mc) ∧ w.cell? ⟨b, off + (k + i) * 7 + 6, none⟩ = some (.int .i64 ds[i].many) ∧ DdAt w ds[i] p q ∧ -9223372036854775808 ≤ ds[i].many ∧ ds[i].many ≤ 9223372036854775807) →
    ∃ rs : List RawD, rs.map RawD.d = ds ∧ (∀ r ∈ rs, r.At w) ∧ ∀ j u, (flatD rs)[j]? = some u → w.cell? ⟨b, off + k * 7 + j, none⟩ = some u
  | [], k, _ => ⟨[], rfl, fun r h => by simp at h, fun j u h => by simp [flatD] at h⟩
  | d :: ds, k, h => by
    obtain ⟨p, cp, q, cq, c0, c1, c2, c3, c4, c5, c6, hD, h1, h2⟩ := h 0 (by simp)
    obtain ⟨rs, e, ha, hc⟩ := deedsAt_raw (w := w) (b := b) (off := off) (ds := ds) (k := k + 1) (fun i hi => by
      have := h (i + 1) (by simpa using hi)
      rw [show k + (i + 1) = k + 1 + i by omega] at this
      simpa using this)
    refine ⟨⟨d, p, q, cp, cq⟩ :: rs, by simp [e], fun r hr => ?_, fun j u hj => ?_⟩
    · rcases List.mem_cons.1 hr with rfl | hr
      · exact ⟨hD, h1, h2⟩
      · exact ha r hr
    · have ef : flatD (⟨d, p, q, cp, cq⟩ :: rs) = (⟨d, p, q, cp, cq⟩ : RawD).cells ++ flatD rs := rfl
      rw [ef] at hj
      by_cases hlt : j < 7
      · rw [List.getElem?_append_left (by simp [RawD.cells]; omega)] at hj
        rw [Nat.add_zero] at c0 c1 c2 c3 c4 c5 c6
        match j, hlt with
        | 0, _ => exact c0.trans hj
        | 1, _ => exact c1.trans hj
        | 2, _ => exact c2.trans hj
        | 3, _ => exact c3.trans hj
        | 4, _ => exact c4.trans hj
        | 5, _ => exact c5.trans hj
        | 6, _ => exact c6.trans hj
      · rw [List.getElem?_append_right (by simp [RawD.cells]; omega)] at hj
        have := hc _ _ hj
        simp only [RawD.cells, List.length_cons, List.length_nil] at this
        rw [← this]
        congr 2
        omega
end Go.Proofs.Ytlpfnpkmgkbngab

namespace Go.Proofs.Ytlpfnpkmgkbngab
open Go.RowKit


theorem deedsAt_one {w : World} {d : Dd} {p q : Option Addr} {cp cq : Nat} (h : DdAt w d p q) (h1 : -9223372036854775808 ≤ d.many) (h2 : d.many ≤ 9223372036854775807) : DeedsAt (w.alloc (Obj.cells #[.int .i64 d.kind, .slice p d.rp.length cp, .int .i64 d.rc, .string d.rt, .slice q d.mp.length cq, .int .i64 d.mc, .int .i64 d.many] 54)) (some ⟨w.heap.size, 0, none⟩) [d] := by
  refine Or.inr ⟨w.heap.size, 0, rfl, by simp, fun i hi => ?_⟩
  have h0 : i = 0 := by simp at hi; omega
  subst h0
  exact ⟨p, cp, q, cq, by simp, by simp, by simp, by simp, by simp, by simp, by simp, h.below ((Below.refl _ _).alloc (Nat.le_refl _) _), h1, h2⟩

theorem cells_boxes3 (w : World) (a0 a1 u0 u1 : Value) (cs : Array Value) (T T' : TypeId) : (((w.alloc (Obj.cells #[a0, a1] T)).alloc (Obj.cells cs T')).alloc (Obj.cells #[u0, u1] T)).cell? ⟨w.heap.size + 1 + 1, 0, none⟩ = some u0 ∧ (((w.alloc (Obj.cells #[a0, a1] T)).alloc (Obj.cells cs T')).alloc (Obj.cells #[u0, u1] T)).cell? ⟨w.heap.size + 1 + 1, 1, none⟩ = some u1 := by
  constructor <;> go_simp

set_option maxRecDepth 100000 in
set_option maxHeartbeats 4000000 in
theorem stateDo_ok (a b : Option Addr) (cap cap' : Nat) (l : List At) (g : List Mk) (d : Dd) (p q : Option Addr) (cp cq : Nat) (w : World) (hl : l.length ≤ maxLen) (h : AtomsAt w a l) (h' : MarksAt w b g) (hd : DdAt w d p q) (h1 : -9223372036854775808 ≤ d.many) (h2 : d.many ≤ 9223372036854775807) :
    Calls Try.prog 24 #[.agg #[.slice a l.length cap, .slice b g.length cap'], ddV d p q cp cq] w fun e w' => Below w.heap.size w w' ∧ AllPost l g [d] w.heap.size e w' := by
  unfold ddV
  have hB := (((Below.refl w.heap.size w).alloc (Nat.le_refl _) (Obj.cells #[.slice a l.length cap, .slice b g.length cap'] 51)).alloc (by simp) (Obj.cells #[.int .i64 d.kind, .slice p d.rp.length cp, .int .i64 d.rc, .string d.rt, .slice q d.mp.length cq, .int .i64 d.mc, .int .i64 d.many] 54)).alloc (by simp; omega) (Obj.cells #[.slice none 0 0, .slice none 0 0] 51)
  have hz : (((w.alloc (Obj.cells #[.slice a l.length cap, .slice b g.length cap'] 51)).alloc (Obj.cells #[.int .i64 d.kind, .slice p d.rp.length cp, .int .i64 d.rc, .string d.rt, .slice q d.mp.length cq, .int .i64 d.mc, .int .i64 d.many] 54)).alloc (Obj.cells #[.slice none 0 0, .slice none 0 0] 51)).heap.size = w.heap.size + 3 := by simp
  obtain ⟨r0, r1⟩ := cells_boxes3 w (.slice a l.length cap) (.slice b g.length cap') (.slice none 0 0) (.slice none 0 0) #[.int .i64 d.kind, .slice p d.rp.length cp, .int .i64 d.rc, .string d.rt, .slice q d.mp.length cq, .int .i64 d.mc, .int .i64 d.many] 51 54
  have rf : ∀ o, (((w.alloc (Obj.cells #[.slice a l.length cap, .slice b g.length cap'] 51)).alloc (Obj.cells #[.int .i64 d.kind, .slice p d.rp.length cp, .int .i64 d.rc, .string d.rt, .slice q d.mp.length cq, .int .i64 d.mc, .int .i64 d.many] 54)).alloc (Obj.cells #[.slice none 0 0, .slice none 0 0] 51)).frozen? ⟨w.heap.size + 1 + 1, o, none⟩ = false := fun o => by go_simp
  replace h := h.below hB (Nat.le_refl _)
  replace h' := h'.below hB (Nat.le_refl _)
  replace hd := hd.below hB
  go_enter Try.func24, Try.ntmps24
  go_wp2_with fail
  generalize ((w.alloc (Obj.cells #[.slice a l.length cap, .slice b g.length cap'] 51)).alloc (Obj.cells #[.int .i64 d.kind, .slice p d.rp.length cp, .int .i64 d.rc, .string d.rt, .slice q d.mp.length cq, .int .i64 d.mc, .int .i64 d.many] 54)).alloc (Obj.cells #[.slice none 0 0, .slice none 0 0] 51) = W at hB hz r0 r1 rf h h' hd ⊢
  rw [← hz]
  have hbn := (Below.refl W.heap.size W).alloc (Nat.le_refl _) (Obj.cells #[.int .i64 d.kind, .slice p d.rp.length cp, .int .i64 d.rc, .string d.rt, .slice q d.mp.length cq, .int .i64 d.mc, .int .i64 d.many] 54)
  have hDs := deedsAt_one (cp := cp) (cq := cq) hd h1 h2
  have HAL := hidE (stateAll_ok a b _ cap cap' 1 l g [d] _ hl (by simp [maxLen]) (h.below hbn (Nat.le_refl _)) (h'.below hbn (Nat.le_refl _)) hDs)
  have zR : w.heap.size + 1 + 1 < (W.alloc (Obj.cells #[.int .i64 d.kind, .slice p d.rp.length cp, .int .i64 d.rc, .string d.rt, .slice q d.mp.length cq, .int .i64 d.mc, .int .i64 d.many] 54)).heap.size := by have := hbn.size; omega
  have hBn := hB.thru hbn (by omega)
  replace r0 := (hbn.cell (p := ⟨w.heap.size + 1 + 1, 0, none⟩) (by show w.heap.size + 1 + 1 < _; omega)).trans r0
  replace r1 := (hbn.cell (p := ⟨w.heap.size + 1 + 1, 1, none⟩) (by show w.heap.size + 1 + 1 < _; omega)).trans r1
  replace rf := fun o => (hbn.frozen (p := ⟨w.heap.size + 1 + 1, o, none⟩) (by show w.heap.size + 1 + 1 < _; omega)).trans (rf o)
  have hwW : w.heap.size ≤ (W.alloc (Obj.cells #[.int .i64 d.kind, .slice p d.rp.length cp, .int .i64 d.rc, .string d.rt, .slice q d.mp.length cq, .int .i64 d.mc, .int .i64 d.many] 54)).heap.size := by omega
  clear hDs hbn hB hd h h' hz h1 h2 hl
  generalize W.alloc (Obj.cells #[.int .i64 d.kind, .slice p d.rp.length cp, .int .i64 d.rc, .string d.rt, .slice q d.mp.length cq, .int .i64 d.mc, .int .i64 d.many] 54) = W2 at HAL zR hBn r0 r1 rf hwW ⊢
  refine HAL.out.mono ?_
  rintro e w2 ⟨hb2, hp⟩
  clear HAL
  replace r0 := (hb2.cell (p := ⟨w.heap.size + 1 + 1, 0, none⟩) zR).trans r0
  replace r1 := (hb2.cell (p := ⟨w.heap.size + 1 + 1, 1, none⟩) zR).trans r1
  replace rf := fun o => (hb2.frozen (p := ⟨w.heap.size + 1 + 1, o, none⟩) zR).trans (rf o)
  have hB2 := hBn.thru hb2 hwW
  clear hBn hb2
  rcases hp with ⟨hne, rfl⟩ | ⟨h0, l', g', p2, c2, q2, d2, hok, hda, hok', rfl, hP, hM⟩
  · have HNE := hidE hne
    clear hne
    go_wp2_with fail
    refine bodyPost_ret (v := .tuple #[.agg #[.slice none 0 0, .slice none 0 0], .int .i64 (errAll l g [d])]) (by simp [results, Try.results24, go_sem, r0, r1]) rfl ?_
    exact ⟨(hB2.setCell (by simp; omega) _).setCell (by simp; omega) _, Or.inl ⟨HNE.out, rfl⟩⟩
  · have H0 := hidE h0
    have HDA := hidE hda
    have HOK := hidE hok
    have HOK' := hidE hok'
    clear h0 hda hok hok'
    have s3 : (w2.setCell ⟨w.heap.size + 1 + 1, 0, none⟩ (.slice p2 l'.length c2)).cell? ⟨w.heap.size + 1 + 1, 1, none⟩ = some (.slice none 0 0) := (World.cell?_setCell_other _ _ _ _ (by simp)).trans r1
    go_wp2_with fail
    refine bodyPost_ret (v := .tuple #[.agg #[.slice p2 l'.length c2, .slice q2 g'.length d2], .int .i64 0]) (by simp [results, Try.results24, go_sem, r0, s3]) rfl ?_
    exact ⟨(hB2.setCell (by simp; omega) _).setCell (by simp; omega) _, Or.inr ⟨H0.out, l', g', p2, c2, q2, d2, HOK.out, HDA.out, HOK'.out, rfl, ((hP.setLow zR _ _).setLow zR _ _).mono hwW, ((hM.setLow zR _ _).setLow zR _ _).mono hwW⟩⟩
end Go.Proofs.Ytlpfnpkmgkbngab

namespace Go.Proofs.Ytlpfnpkmgkbngab
open Go.RowKit

/-- a deed that puts a text at a mark -/
def dPut (s : ByteArray) : Dd := ⟨1, [(3, 0)], 1, s, [], 0, 0⟩
def hiS : ByteArray := ⟨#[104, 105]⟩

theorem alloc_topP (w : World) (o : Obj) : (w.alloc o).heap[w.heap.size]? = some o := by
  show (w.heap.push o)[w.heap.size]? = some o
  simp
theorem set7 {w : World} {b : Nat} {T : TypeId} {u0 u1 u2 u3 u4 u5 u6 v0 v1 v2 v3 v4 v5 v6 : Value} (h : w.heap[b]? = some (Obj.cells #[u0, u1, u2, u3, u4, u5, u6] T)) :
    (((((((w.setCell ⟨b, 0, none⟩ v0).setCell ⟨b, 1, none⟩ v1).setCell ⟨b, 2, none⟩ v2).setCell ⟨b, 3, none⟩ v3).setCell ⟨b, 4, none⟩ v4).setCell ⟨b, 5, none⟩ v5).setCell ⟨b, 6, none⟩ v6).heap[b]? = some (Obj.cells #[v0, v1, v2, v3, v4, v5, v6] T) := by
  simp [World.setCell, Array.getElem?_modify, h]

set_option maxRecDepth 100000 in
set_option maxHeartbeats 1000000 in
theorem lawPut_any (s : ByteArray) (w : World) (hs : s.size ≤ maxLen) : Calls Try.prog 61 #[.string s] w fun e w' => ∃ g, e = .returned (ddV (dPut s) (some ⟨g, 0, none⟩) none 1 0) ∧ DdAt w' (dPut s) (some ⟨g, 0, none⟩) none ∧ Below w.heap.size w w' := by
  have hB := (Below.refl w.heap.size w).alloc (Nat.le_refl _) (Obj.cells #[.int .i64 0, .slice none 0 0, .int .i64 0, .string ⟨#[]⟩, .slice none 0 0, .int .i64 0, .int .i64 0] 54)
  have hc : ∀ i, i < 7 → (w.alloc (Obj.cells #[.int .i64 0, .slice none 0 0, .int .i64 0, .string ⟨#[]⟩, .slice none 0 0, .int .i64 0, .int .i64 0] 54)).cell? ⟨w.heap.size, i, none⟩ = #[.int .i64 0, .slice none 0 0, .int .i64 0, .string ⟨#[]⟩, .slice none 0 0, .int .i64 0, .int .i64 0][i]? := fun i hi => by simp
  have rf : ∀ o, (w.alloc (Obj.cells #[.int .i64 0, .slice none 0 0, .int .i64 0, .string ⟨#[]⟩, .slice none 0 0, .int .i64 0, .int .i64 0] 54)).frozen? ⟨w.heap.size, o, none⟩ = false := fun o => by go_simp
  have z : w.heap.size < (w.alloc (Obj.cells #[.int .i64 0, .slice none 0 0, .int .i64 0, .string ⟨#[]⟩, .slice none 0 0, .int .i64 0, .int .i64 0] 54)).heap.size := by simp
  have q0 := hc 0 (by decide)
  have q1 := hc 1 (by decide)
  have q2 := hc 2 (by decide)
  have q3 := hc 3 (by decide)
  have q4 := hc 4 (by decide)
  have q5 := hc 5 (by decide)
  have q6 := hc 6 (by decide)
  simp only [List.getElem?_toArray, List.getElem?_cons_succ, List.getElem?_cons_zero] at q0 q1 q2 q3 q4 q5 q6
  clear hc
  go_enter Try.func61, Try.ntmps61
  go_wp2_with fail
  have hblk := alloc_topP w (Obj.cells #[.int .i64 0, .slice none 0 0, .int .i64 0, .string ⟨#[]⟩, .slice none 0 0, .int .i64 0, .int .i64 0] 54)
  generalize w.alloc (Obj.cells #[.int .i64 0, .slice none 0 0, .int .i64 0, .string ⟨#[]⟩, .slice none 0 0, .int .i64 0, .int .i64 0] 54) = W at hB hblk rf z q0 q1 q2 q3 q4 q5 q6 ⊢
  refine (at_any 3 0 1 W).mono ?_
  rintro e w1 ⟨rfl, hst, hb⟩
  replace q0 := (hb.cell (p := ⟨w.heap.size, 0, none⟩) z).trans q0
  replace q1 := (hb.cell (p := ⟨w.heap.size, 1, none⟩) z).trans q1
  replace q2 := (hb.cell (p := ⟨w.heap.size, 2, none⟩) z).trans q2
  replace q3 := (hb.cell (p := ⟨w.heap.size, 3, none⟩) z).trans q3
  replace q4 := (hb.cell (p := ⟨w.heap.size, 4, none⟩) z).trans q4
  replace q5 := (hb.cell (p := ⟨w.heap.size, 5, none⟩) z).trans q5
  replace q6 := (hb.cell (p := ⟨w.heap.size, 6, none⟩) z).trans q6
  replace rf := fun o => (hb.frozen (p := ⟨w.heap.size, o, none⟩) z).trans (rf o)
  go_wp2_with fail
  have hb6 : w1.heap[w.heap.size]? = some (Obj.cells #[.int .i64 0, .slice none 0 0, .int .i64 0, .string ⟨#[]⟩, .slice none 0 0, .int .i64 0, .int .i64 0] 54) := (hb.block _ z).trans hblk
  have hX := set7 (w := w1) (v0 := .int .i64 1) (v1 := .slice (some ⟨W.heap.size + 1, 0, none⟩) 1 1) (v2 := .int .i64 1) (v3 := .string s) (v4 := .slice none 0 0) (v5 := .int .i64 0) (v6 := .int .i64 0) hb6
  have hBX : Below w.heap.size w (((((((w1.setCell ⟨w.heap.size, 0, none⟩ (.int .i64 1)).setCell ⟨w.heap.size, 1, none⟩ (.slice (some ⟨W.heap.size + 1, 0, none⟩) 1 1)).setCell ⟨w.heap.size, 2, none⟩ (.int .i64 1)).setCell ⟨w.heap.size, 3, none⟩ (.string s)).setCell ⟨w.heap.size, 4, none⟩ (.slice none 0 0)).setCell ⟨w.heap.size, 5, none⟩ (.int .i64 0)).setCell ⟨w.heap.size, 6, none⟩ (.int .i64 0)) := ((((((((hB.thru hb (Nat.le_of_lt z)).setCell (p := ⟨w.heap.size, 0, none⟩) (Nat.le_refl _) (.int .i64 1)).setCell (p := ⟨w.heap.size, 1, none⟩) (Nat.le_refl _) (.slice (some ⟨W.heap.size + 1, 0, none⟩) 1 1)).setCell (p := ⟨w.heap.size, 2, none⟩) (Nat.le_refl _) (.int .i64 1)).setCell (p := ⟨w.heap.size, 3, none⟩) (Nat.le_refl _) (.string s)).setCell (p := ⟨w.heap.size, 4, none⟩) (Nat.le_refl _) (.slice none 0 0)).setCell (p := ⟨w.heap.size, 5, none⟩) (Nat.le_refl _) (.int .i64 0)).setCell (p := ⟨w.heap.size, 6, none⟩) (Nat.le_refl _) (.int .i64 0))
  have hSX : StepsAt (((((((w1.setCell ⟨w.heap.size, 0, none⟩ (.int .i64 1)).setCell ⟨w.heap.size, 1, none⟩ (.slice (some ⟨W.heap.size + 1, 0, none⟩) 1 1)).setCell ⟨w.heap.size, 2, none⟩ (.int .i64 1)).setCell ⟨w.heap.size, 3, none⟩ (.string s)).setCell ⟨w.heap.size, 4, none⟩ (.slice none 0 0)).setCell ⟨w.heap.size, 5, none⟩ (.int .i64 0)).setCell ⟨w.heap.size, 6, none⟩ (.int .i64 0)) (some ⟨W.heap.size + 1, 0, none⟩) [(3, 0)] := by
    rcases hst with e | ⟨b, o, e, hlt, hcc⟩
    · simp at e
    · cases e
      refine Or.inr ⟨W.heap.size + 1, 0, rfl, by simpa [World.setCell] using hlt, fun i hi => ?_⟩
      obtain ⟨c0, c1⟩ := hcc i hi
      refine ⟨?_, ?_⟩
      · rw [World.cell?_setCell_other _ _ _ _ (by simp), World.cell?_setCell_other _ _ _ _ (by simp), World.cell?_setCell_other _ _ _ _ (by simp), World.cell?_setCell_other _ _ _ _ (by simp), World.cell?_setCell_other _ _ _ _ (by simp), World.cell?_setCell_other _ _ _ _ (by simp), World.cell?_setCell_other _ _ _ _ (by simp)]
        exact c0
      · rw [World.cell?_setCell_other _ _ _ _ (by simp), World.cell?_setCell_other _ _ _ _ (by simp), World.cell?_setCell_other _ _ _ _ (by simp), World.cell?_setCell_other _ _ _ _ (by simp), World.cell?_setCell_other _ _ _ _ (by simp), World.cell?_setCell_other _ _ _ _ (by simp), World.cell?_setCell_other _ _ _ _ (by simp)]
        exact c1
  generalize (((((((w1.setCell ⟨w.heap.size, 0, none⟩ (.int .i64 1)).setCell ⟨w.heap.size, 1, none⟩ (.slice (some ⟨W.heap.size + 1, 0, none⟩) 1 1)).setCell ⟨w.heap.size, 2, none⟩ (.int .i64 1)).setCell ⟨w.heap.size, 3, none⟩ (.string s)).setCell ⟨w.heap.size, 4, none⟩ (.slice none 0 0)).setCell ⟨w.heap.size, 5, none⟩ (.int .i64 0)).setCell ⟨w.heap.size, 6, none⟩ (.int .i64 0)) = X at hX hBX hSX ⊢
  have x0 : X.cell? ⟨w.heap.size, 0, none⟩ = some (.int .i64 1) := by simp [World.cell?, hX]
  have x1 : X.cell? ⟨w.heap.size, 1, none⟩ = some (.slice (some ⟨W.heap.size + 1, 0, none⟩) 1 1) := by simp [World.cell?, hX]
  have x2 : X.cell? ⟨w.heap.size, 2, none⟩ = some (.int .i64 1) := by simp [World.cell?, hX]
  have x3 : X.cell? ⟨w.heap.size, 3, none⟩ = some (.string s) := by simp [World.cell?, hX]
  have x4 : X.cell? ⟨w.heap.size, 4, none⟩ = some (.slice none 0 0) := by simp [World.cell?, hX]
  have x5 : X.cell? ⟨w.heap.size, 5, none⟩ = some (.int .i64 0) := by simp [World.cell?, hX]
  have x6 : X.cell? ⟨w.heap.size, 6, none⟩ = some (.int .i64 0) := by simp [World.cell?, hX]
  refine bodyPost_ret (v := ddV (dPut s) (some ⟨W.heap.size + 1, 0, none⟩) none 1 0) (by simp [results, Try.results61, go_sem, x0, x1, x2, x3, x4, x5, x6, ddV, dPut]) rfl ?_
  exact ⟨W.heap.size + 1, rfl, ⟨hSX, Or.inl rfl, by simp [dPut, maxLen], by simp [dPut, maxLen], hs⟩, hBX⟩

end Go.Proofs.Ytlpfnpkmgkbngab
