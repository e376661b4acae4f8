/- Rows that are the call's own. -/
import Derived.Test.YtnhjebdlcbhkcaeGreatAtomCk
import Derived.Deep.RegionLawGrows
import Derived.Deep.RegionHeldLaw
namespace Go.Proofs.YtnhjebdlcbhkcaeGreat
open Go.RowKit

theorem owns_form {w : World} {base : Nat} {e : TypeId} {size : Nat} {v : Value} {n : Nat} {xs : List Value} (h : w.ownsRow base e size v n xs) (hn : 0 < n) : ∃ g cap, v = .slice (some ⟨g, 0, none⟩) n cap := by
  rcases h.2 with ⟨_, h0⟩ | ⟨g, cap, cur, rfl, _⟩
  · omega
  · exact ⟨g, cap, rfl⟩

theorem keepB {w1 w' : World} {z : Nat} {v0 v1 : Value} (hb : Below w1.heap.size w1 w') (q0 : w1.cell? ⟨z, 0, none⟩ = some v0) (q1 : w1.cell? ⟨z, 1, none⟩ = some v1) (hz : z < w1.heap.size) :
    Below w1.heap.size w1 w' ∧ w'.cell? ⟨z, 0, none⟩ = some v0 ∧ w'.cell? ⟨z, 1, none⟩ = some v1 :=
  ⟨hb, (hb.cell (p := ⟨z, 0, none⟩) hz).trans q0, (hb.cell (p := ⟨z, 1, none⟩) hz).trans q1⟩

end Go.Proofs.YtnhjebdlcbhkcaeGreat

namespace Go.Proofs.YtnhjebdlcbhkcaeGreat
open Go.RowKit

set_option maxRecDepth 100000 in
set_option maxHeartbeats 2000000 in
theorem afterOf_any (b off cap : Nat) (l : List (Int × Int)) (c n : Int) (w : World) (h : StepsAt w (some ⟨b, off, none⟩) l) (hok : chk l c = 0) (h0 : 0 ≤ n) (h60 : n ≤ 60) :
    Calls Tryz.prog 197 #[.agg #[.slice (some ⟨b, off, none⟩) l.length cap, .int .i64 c], .int .i64 n] w fun e w' => ∃ g cap', e = .returned (.agg #[.slice (some ⟨g, 0, none⟩) l.length cap', .int .i64 (c + n)]) ∧ StepsAt w' (some ⟨g, 0, none⟩) (bump l n) ∧ Below w.heap.size w w' ∧ w'.ownsRow w.heap.size 124 2 (.slice (some ⟨g, 0, none⟩) l.length cap') l.length (flatS (bump l n)) := by
  obtain ⟨hl0, hl10, hoks, _, hc1, hc2⟩ := chk_ok hok
  have hd := okStep_iff.1 (okSteps_get hoks (i := l.length - 1) (by omega))
  obtain ⟨i0, hi, hz0, hz1, hz2⟩ := Tryz.info124
  clear hok
  have hwr : IntKind.i64.wrap (c + n) = c + n := by rw [IntKind.wrap_i64]; omega
  obtain ⟨q0, q1, q3, q4, hz, hb1⟩ := boxes2 w (.slice (some ⟨b, off, none⟩) l.length cap) (.int .i64 c) (.slice none 0 0) (.int .i64 0) 42 42
  have q2 : ∀ o, ((w.alloc (Obj.cells #[.slice (some ⟨b, off, none⟩) l.length cap, .int .i64 c] 42)).alloc (Obj.cells #[.slice none 0 0, .int .i64 0] 42)).frozen? ⟨w.heap.size + 1, o, none⟩ = false := by intro o; go_simp
  go_enter Tryz.func197, Tryz.ntmps197
  go_upto_region 1 with fail
  generalize (w.alloc (Obj.cells #[.slice (some ⟨b, off, none⟩) l.length cap, .int .i64 c] 42)).alloc (Obj.cells #[.slice none 0 0, .int .i64 0] 42) = w1 at q0 q1 q2 q3 q4 hz hb1 ⊢
  have z1 : w.heap.size < w1.heap.size := by omega
  have z2 : w.heap.size + 1 < w1.heap.size := by omega
  clear hz
  have hBd : Below w1.heap.size w1 w1.drew := (Below.refl _ _).drew
  have hs1 := h.below hb1 (Nat.le_refl _)
  go_cut [5] (fun t wc => ∃ N g cap2, t = .pointer (some ⟨N, 0, none⟩) ∧ w1.heap.size ≤ N ∧ N < wc.heap.size ∧ w1.heap.size ≤ g ∧ g ≠ N ∧ wc.cell? ⟨N, 0, none⟩ = some (.slice (some ⟨g, 0, none⟩) l.length cap2) ∧ wc.cell? ⟨N, 1, none⟩ = some (.int .i64 (c + n)) ∧ wc.ownsRow w1.heap.size 124 2 (.slice (some ⟨g, 0, none⟩) l.length cap2) l.length (flatS l) ∧ Below w1.heap.size w1 wc)
  case first =>
    go_region_held_law (fun w' => Below w1.heap.size w1 w' ∧ w'.cell? ⟨w.heap.size, 0, none⟩ = some (.slice (some ⟨b, off, none⟩) l.length cap) ∧ w'.cell? ⟨w.heap.size, 1, none⟩ = some (.int .i64 c)) ((refine keepB ?_ q0 q1 z1; first | exact hBd | exact ((Below.refl _ _).alloc (Nat.le_refl _) _).drew | exact (((Below.refl _ _).alloc (Nat.le_refl _) _).alloc (by simp) _).drew | exact hBw | exact hBw.alloc hzw _ | exact (hBw.setCell (by simp) _).setCell (by simp) _ | exact (hBw.setCell (by simp; omega) _).setCell (by simp; omega) _))
      (first | (refine step_append_grows rfl (.tmp 6) (.tmp 8) 40 rfl 124 i0 (.agg #[.int .i64 0, .int .i64 0]) 2 16 Tryz.underlying40 hi hz0 hz1 hz2 rfl (by decide) _ 0 0 [] (by simp [Act.eval]; rfl) (by simp) rfl (by intro _ _ j u hj; simp at hj) ⟨b, off, none⟩ l.length cap (flatS l) (by simp [Act.eval]) (flatS_length l) (by intro j u hj; rw [Addr.add_lit]; exact (hs1.below (And.left ‹Below w1.heap.size w1 _ ∧ _›) (Nat.le_refl _)).cells j u hj) (flatS_one l) (by omega) (by unfold maxLen; omega) (by omega) ?_; intro v' w2 hown hgrow; rw [Nat.zero_add, List.nil_append] at hown; obtain ⟨g, cap2, hv⟩ := owns_form hown hl0; subst hv; have hBw := (And.left ‹Below w1.heap.size w1 _ ∧ _›).grown hgrow (And.left ‹Below w1.heap.size w1 _ ∧ _›).size (by intro k hk; simp at hk); have hzw := hBw.size; have hBp := (Below.refl _ _).grown hgrow (Nat.le_refl _) (by intro k hk; simp at hk); have c0 := fun o => hBp.cell (p := ⟨w1.heap.size, o, none⟩) (by simp <;> omega); have f0 := fun o => hBp.frozen (p := ⟨w1.heap.size, o, none⟩) (by simp <;> omega); have c1 := fun o (hh : w1.heap.size + 1 < _) => hBp.cell (p := ⟨w1.heap.size + 1, o, none⟩) hh; have f1 := fun o (hh : w1.heap.size + 1 < _) => hBp.frozen (p := ⟨w1.heap.size + 1, o, none⟩) hh; have t0 := (hBw.cell (p := ⟨w.heap.size, 0, none⟩) z1).trans q0; have t1 := (hBw.cell (p := ⟨w.heap.size, 1, none⟩) z1).trans q1))
    · go_wp2_with fail
      go_meet
      have hg := hown.lt g rfl
      simp at hg
      exact ⟨w2.heap.size, g, cap2, rfl, hzw, by simp, by omega, by omega, by simp, by simp, (owns_base hown (by simp)).alloc _, hBw.alloc hzw _⟩
    · go_wp2_with fail
      go_meet
      have hg := hown.lt g rfl
      have hz2 := hBp.size
      simp at hg hz2
      exact ⟨w1.heap.size + 1, g, cap2, rfl, by omega, by simp [World.setCell]; omega, by omega, by omega, by go_simp, by go_simp, ownsRow_setCell_other (ownsRow_setCell_other (owns_base hown (by simp; omega)) (by simp [Value.ownBlock]; omega) _) (by simp [Value.ownBlock]; omega) _, (hBw.setCell (by simp) _).setCell (by simp) _⟩
    · go_wp2_with fail
      go_meet
      have hg := hown.lt g rfl
      have hz2 := hBp.size
      simp at hg hz2
      exact ⟨w1.heap.size, g, cap2, rfl, by omega, by simp [World.setCell]; omega, by omega, by omega, by go_simp, by go_simp, ownsRow_setCell_other (ownsRow_setCell_other (owns_base hown (by simp; omega)) (by simp [Value.ownBlock]; omega) _) (by simp [Value.ownBlock]; omega) _, (hBw.setCell (by simp) _).setCell (by simp) _⟩
  case rest =>
    obtain ⟨N, g, cap2, rfl, hN1, hN2, hg1, hgN, e0, e1, hown, hb2⟩ := hcut
    have hgl := (hown.lt g rfl).2
    have fc := (hown.cellAt ((l.length - 1) * 2) (by omega)).trans (flatS_get l (l.length - 1) (by omega)).1
    have ff := hown.frozenAt ((l.length - 1) * 2)
    have hst := hown.stored ((l.length - 1) * 2) (.int .i64 (l[l.length - 1].1 + n))
    rw [flatS_set l _ (by omega)] at hst
    have hbump : l.set (l.length - 1) (l[l.length - 1].1 + n, l[l.length - 1].2) = bump l n := by unfold bump setL; rw [lastS_eq hl0]
    rw [hbump] at hst
    have hlb : (bump l n).length = l.length := by unfold bump setL; simp
    have hsa := stepsAt_owns hst.1 hlb.symm
    clear hbump hlb
    obtain ⟨hcc, hff⟩ := bcellN hb2 w1.heap.size (Nat.le_refl _)
    have p3 : wc.cell? ⟨w.heap.size + 1, 0, none⟩ = some (.slice none 0 0) := (hcc _ _ z2).trans q3
    have p4 : wc.cell? ⟨w.heap.size + 1, 1, none⟩ = some (.int .i64 0) := (hcc _ _ z2).trans q4
    have p2 : ∀ o, wc.frozen? ⟨w.heap.size + 1, o, none⟩ = false := fun o => (hff _ _ z2).trans (q2 o)
    clear hcc hff q0 q1 q2 q3 q4
    have hgn' : N ≠ g := fun e => hgN e.symm
    have hg2 : w.heap.size + 1 ≠ g := by omega
    have hg3 : g ≠ w.heap.size + 1 := by omega
    have hN3 : N ≠ w.heap.size + 1 := by omega
    have hN4 : w.heap.size + 1 ≠ N := by omega
    obtain ⟨d1, d2, d3, d4⟩ := hd
    generalize l[l.length - 1].1 = dl at fc hst d1 d2 hsa
    have y0 : (wc.setCell ⟨g, (l.length - 1) * 2, none⟩ (.int .i64 (dl + n))).cell? ⟨N, 0, none⟩ = some (.slice (some ⟨g, 0, none⟩) l.length cap2) := cell_other hgn' e0
    have y1 : (wc.setCell ⟨g, (l.length - 1) * 2, none⟩ (.int .i64 (dl + n))).cell? ⟨N, 1, none⟩ = some (.int .i64 (c + n)) := cell_other hgn' e1
    have y2 : (wc.setCell ⟨g, (l.length - 1) * 2, none⟩ (.int .i64 (dl + n))).cell? ⟨w.heap.size + 1, 0, none⟩ = some (.slice none 0 0) := cell_other hg2 p3
    have y3 : (wc.setCell ⟨g, (l.length - 1) * 2, none⟩ (.int .i64 (dl + n))).cell? ⟨w.heap.size + 1, 1, none⟩ = some (.int .i64 0) := cell_other hg2 p4
    go_wp2
    refine bodyPost_ret (v := .agg #[.slice (some ⟨g, 0, none⟩) l.length cap2, .int .i64 (c + n)]) (by simp [results, Tryz.results197, go_sem, y2, y3]) rfl ?_
    refine ⟨g, cap2, rfl, (hsa.setOld (by simp; omega)).setOld (by simp; omega), ?_, ?_⟩
    · exact (((hb1.thru hb2 hb1.size).setCell (by show _ ≤ g; omega) _).setCell (by simp) _).setCell (by simp) _
    · exact ownsRow_setCell_other (ownsRow_setCell_other (owns_base hst.1 (by omega)) (by simp [Value.ownBlock]; omega) _) (by simp [Value.ownBlock]; omega) _
end Go.Proofs.YtnhjebdlcbhkcaeGreat

namespace Go.Proofs.YtnhjebdlcbhkcaeGreat
open Go.RowKit

structure Raw where
  p : Option Addr
  n : Nat
  cap : Nat
  clock : Int
  sign : Int

def Raw.cells (r : Raw) : List Value := [.slice r.p r.n r.cap, .int .i64 r.clock, .int .u8 r.sign]
def flatR (l : List Raw) : List Value := l.flatMap Raw.cells

theorem flatR_length (l : List Raw) : (flatR l).length = l.length * 3 := by
  unfold flatR; induction l with
  | nil => rfl
  | cons s l ih => simp only [List.flatMap_cons, List.length_append, ih, List.length_cons, Raw.cells, List.length_nil]; omega
theorem flatR_append (l m : List Raw) : flatR (l ++ m) = flatR l ++ flatR m := by unfold flatR; simp
theorem flatR_get (l : List Raw) : ∀ i (h : i < l.length), (flatR l)[i * 3]? = some (.slice l[i].p l[i].n l[i].cap) ∧ (flatR l)[i * 3 + 1]? = some (.int .i64 l[i].clock) ∧ (flatR l)[i * 3 + 2]? = some (.int .u8 l[i].sign) := by
  induction l with
  | nil => intro i h; simp at h
  | cons s l ih =>
    intro i h
    match i with
    | 0 => exact ⟨rfl, rfl, rfl⟩
    | i + 1 =>
      have := ih i (by simpa using h)
      rw [show (i + 1) * 3 = i * 3 + 3 by omega, show i * 3 + 3 + 1 = i * 3 + 1 + 3 by omega, show i * 3 + 3 + 2 = i * 3 + 2 + 3 by omega]
      exact this
theorem flatR_one (l : List Raw) : ∀ u ∈ flatR l, u.oneCell' = true := by
  intro u hu
  unfold flatR at hu
  rw [List.mem_flatMap] at hu
  obtain ⟨s, _, hs⟩ := hu
  simp [Raw.cells] at hs
  rcases hs with rfl | rfl | rfl <;> rfl

structure RawOf (w : World) (r : Raw) (x : At) : Prop where
  n : r.n = x.path.length
  clock : r.clock = x.clock
  sign : r.sign = x.sign
  steps : StepsAt w r.p x.path
  len : x.path.length ≤ maxLen
  cap : x.path.length ≤ r.cap
  s0 : 0 ≤ x.sign
  s1 : x.sign ≤ 255

theorem RawOf.below {w w' : World} {r : Raw} {x : At} {B : Nat} (h : RawOf w r x) (hb : Below B w w') (hB : w.heap.size ≤ B) : RawOf w' r x :=
  ⟨h.n, h.clock, h.sign, h.steps.below hb hB, h.len, h.cap, h.s0, h.s1⟩

def OwnsA (w0 w : World) (base : Nat) (v : Value) (xs : List At) : Prop :=
  ∃ rs : List Raw, rs.length = xs.length ∧ w.ownsRow base 108 3 v xs.length (flatR rs) ∧ ∀ i (h : i < xs.length) (h' : i < rs.length), RawOf w0 rs[i] xs[i]

theorem OwnsA.nil (w0 w : World) (base : Nat) : OwnsA w0 w base (.slice none 0 0) [] := ⟨[], rfl, World.ownsRow_nil w base 108 3, fun i h => by simp at h⟩

theorem OwnsA.atoms {w0 w : World} {base : Nat} {v : Value} {xs : List At} (h : OwnsA w0 w base v xs) (hb : Below w0.heap.size w0 w) : ∃ p cap, v = .slice p xs.length cap ∧ AtomsAt w p xs ∧ xs.length ≤ cap := by
  obtain ⟨rs, hl, hown, hr⟩ := h
  by_cases e : xs = []
  · subst e
    rcases hown.2 with ⟨rfl, _⟩ | ⟨g, cap, cur, rfl, _⟩
    · exact ⟨none, 0, rfl, Or.inl rfl, Nat.le_refl _⟩
    · exact ⟨some ⟨g, 0, none⟩, cap, rfl, Or.inl rfl, Nat.zero_le _⟩
  have hpos : 0 < xs.length := by
    rcases Nat.eq_zero_or_pos xs.length with h0 | h0
    · exact absurd (List.length_eq_zero_iff.1 h0) e
    · exact h0
  have hown' := hown
  rcases hown.2 with ⟨_, h0⟩ | ⟨g, cap, cur, rfl, _, _, hc, _⟩
  · omega
  refine ⟨some ⟨g, 0, none⟩, cap, rfl, Or.inr ⟨g, 0, rfl, (hown'.lt g rfl).2, fun i hi => ?_⟩, hc⟩
  have c := flatR_get rs i (by omega)
  have r := hr i hi (by omega)
  rw [Nat.zero_add]
  refine ⟨rs[i].p, rs[i].cap, ?_, ?_, ?_, (r.below hb (Nat.le_refl _)).steps, r.len, r.cap, r.s0, r.s1⟩
  · rw [← r.n]; exact (hown'.cellAt _ (by omega)).trans c.1
  · rw [← r.clock]; exact (hown'.cellAt _ (by omega)).trans c.2.1
  · rw [← r.sign]; exact (hown'.cellAt _ (by omega)).trans c.2.2

theorem ownsA_snoc {w0 w : World} {base : Nat} {v : Value} {xs : List At} {rs : List Raw} {r : Raw} {x : At} (hl : rs.length = xs.length) (hr : ∀ i (h : i < xs.length) (h' : i < rs.length), RawOf w0 rs[i] xs[i]) (hx : RawOf w0 r x) (h : w.ownsRow base 108 3 v (xs.length + 1) (flatR rs ++ r.cells)) :
    OwnsA w0 w base v (xs ++ [x]) := by
  refine ⟨rs ++ [r], by simp [hl], ?_, fun i hi hi' => ?_⟩
  · rw [flatR_append, List.length_append]
    show w.ownsRow base 108 3 v (xs.length + 1) (flatR rs ++ (r.cells ++ []))
    rw [List.append_nil]; exact h
  · by_cases e : i < xs.length
    · rw [List.getElem_append_left (by omega), List.getElem_append_left e]; exact hr i e (by omega)
    · have : i = xs.length := by simp at hi; omega
      subst this
      have e1 : (rs ++ [r])[xs.length] = r := by rw [List.getElem_append_right (by omega)]; simp [hl]
      have e2 : (xs ++ [x])[xs.length] = x := by simp
      rw [e1, e2]; exact hx

theorem AtomsAt.raw {w : World} {a : Option Addr} {l : List At} (h : AtomsAt w a l) (hne : 0 < l.length) : ∃ b off, a = some ⟨b, off, none⟩ ∧ b < w.heap.size ∧ ∀ i (h : i < l.length), ∃ r, RawOf w r l[i] ∧ w.cell? ⟨b, off + i * 3, none⟩ = some (.slice r.p r.n r.cap) ∧ w.cell? ⟨b, off + i * 3 + 1, none⟩ = some (.int .i64 r.clock) ∧ w.cell? ⟨b, off + i * 3 + 2, none⟩ = some (.int .u8 r.sign) := by
  rcases h with h | ⟨b, off, rfl, hlt, hc⟩
  · simp [h] at hne
  · refine ⟨b, off, rfl, hlt, fun i hi => ?_⟩
    obtain ⟨p, cap, h1, h2, h3, h4, h5, h6, h7, h8⟩ := hc i hi
    exact ⟨⟨p, _, cap, _, _⟩, ⟨rfl, rfl, rfl, h4, h5, h6, h7, h8⟩, h1, h2, h3⟩

theorem raw_new (w : World) (r : Raw) : ∀ j u, r.cells[j]? = some u → (w.alloc (.cells #[.slice r.p r.n r.cap, .int .i64 r.clock, .int .u8 r.sign] 108)).cell? ⟨w.heap.size, j, none⟩ = some u := by
  intro j u hj
  rw [World.cell?_alloc_new]
  simpa [Raw.cells] using hj

theorem Tryz.info108 : ∃ i, Tryz.prog.info? 108 = some i ∧ i.zero = some (.agg #[.slice none 0 0, .int .i64 0, .int .u8 0]) ∧ i.size = 3 ∧ i.bytes = 40 := by
  have h : (Tryz.prog.info? 108).map (fun i => (i.zero, i.size, i.bytes)) = some (some (.agg #[.slice none 0 0, .int .i64 0, .int .u8 0]), 3, 40) := by kernel_rfl
  rw [Option.map_eq_some_iff] at h
  obtain ⟨i, hi, he⟩ := h
  simp only [Prod.mk.injEq] at he
  exact ⟨i, hi, he⟩
end Go.Proofs.YtnhjebdlcbhkcaeGreat

namespace Go.Proofs.YtnhjebdlcbhkcaeGreat
open Go.RowKit

def lessSign (a x : At) : At := { x with sign := if a.sign < x.sign then a.sign else x.sign }
def stepPut (a x : At) (put : Bool) : List At × Bool :=
  if 0 < ordA x a then (if put then [x] else [a, x], true) else if ordA x a = 0 then ([lessSign a x], true) else ([x], put)
def putA (a : At) : List At → Bool → List At
  | [], put => if put then [] else [a]
  | x :: l, put => (stepPut a x put).1 ++ putA a l (stepPut a x put).2

theorem putA_drop {a : At} {l : List At} {k : Nat} (h : k < l.length) (put : Bool) : putA a (l.drop k) put = (stepPut a l[k] put).1 ++ putA a (l.drop (k + 1)) (stepPut a l[k] put).2 := by
  rw [List.drop_eq_getElem_cons h]; rfl

theorem grown_cell {w w' : World} {row : Option Nat} (h : w.grownBy w' row) {b : Nat} (hb : b < w.heap.size) (hne : some b ≠ row) (o : Nat) : w'.cell? ⟨b, o, none⟩ = w.cell? ⟨b, o, none⟩ :=
  World.cell?_of_block (w := w) (a := ⟨b, o, none⟩) (h.block b hb hne)

theorem own_ne {w : World} {base : Nat} {e : TypeId} {size : Nat} {v : Value} {n : Nat} {xs : List Value} (h : w.ownsRow base e size v n xs) {b : Nat} (hb : b < base ∨ w.heap.size ≤ b) : some b ≠ v.ownBlock := by
  intro e
  have := h.lt b e.symm
  omega

set_option maxRecDepth 100000 in
set_option maxHeartbeats 4000000 in
theorem putAtom_ok (a : Option Addr) (cap : Nat) (l : List At) (w : World) (h : AtomsAt w a l) (h300 : l.length ≤ 1000) (ra : Raw) (xa : At) (hra : RawOf w ra xa) :
    Calls Tryz.prog 128 #[.slice a l.length cap, .agg #[.slice ra.p ra.n ra.cap, .int .i64 ra.clock, .int .u8 ra.sign]] w fun e w' => ∃ p c, e = .returned (.slice p (putA xa l false).length c) ∧ AtomsAt w' p (putA xa l false) ∧ Below w.heap.size w w' := by
  obtain ⟨i0, hi, hz0, hz1, hz2⟩ := Tryz.info108
  have HAx : Hid (RawOf w ra xa) := hra
  obtain ⟨pa, na, ca, cka, ska⟩ := ra
  have hna : na = xa.path.length := hra.n
  have hcka : cka = xa.clock := hra.clock
  have hska : ska = xa.sign := hra.sign
  subst hna hcka hska
  have sa0 := hra.s0
  have sa1 := hra.s1
  have hlna := hra.len
  clear hra
  go_enter Tryz.func128, Tryz.ntmps128
  go_upto_region 1 with fail
  have hbA : Below w.heap.size w (w.alloc (Obj.cells #[.slice pa xa.path.length ca, .int .i64 xa.clock, .int .u8 xa.sign] 108)) := (Below.refl _ _).alloc (Nat.le_refl _) _
  have q0 : (w.alloc (Obj.cells #[.slice pa xa.path.length ca, .int .i64 xa.clock, .int .u8 xa.sign] 108)).cell? ⟨w.heap.size, 0, none⟩ = some (.slice pa xa.path.length ca) := by simp
  have q1 : (w.alloc (Obj.cells #[.slice pa xa.path.length ca, .int .i64 xa.clock, .int .u8 xa.sign] 108)).cell? ⟨w.heap.size, 1, none⟩ = some (.int .i64 xa.clock) := by simp
  have q2 : (w.alloc (Obj.cells #[.slice pa xa.path.length ca, .int .i64 xa.clock, .int .u8 xa.sign] 108)).cell? ⟨w.heap.size, 2, none⟩ = some (.int .u8 xa.sign) := by simp
  have z1 : w.heap.size < (w.alloc (Obj.cells #[.slice pa xa.path.length ca, .int .i64 xa.clock, .int .u8 xa.sign] 108)).heap.size := by simp
  generalize w.alloc (Obj.cells #[.slice pa xa.path.length ca, .int .i64 xa.clock, .int .u8 xa.sign] 108) = w1 at hbA q0 q1 q2 z1 ⊢
  replace h := h.below hbA (Nat.le_refl _)
  replace HAx : Hid (RawOf w1 ⟨pa, xa.path.length, ca, xa.clock, xa.sign⟩ xa) := HAx.out.below hbA (Nat.le_refl _)
  go_wp2_with fail
  go_loopw [7, 5, 6] (fun i v pv wr => ∃ k : Nat, k ≤ l.length ∧ i = .int .i64 k ∧ ∃ pb : Bool, pv = .bool pb ∧ ∃ outL, OwnsA w1 wr w1.heap.size v outL ∧ outL.length ≤ 2 * k ∧ outL ++ putA xa (l.drop k) pb = putA xa l false ∧ Below w1.heap.size w1 wr) (fun i _ _ _ => l.length - (intOf i).toNat)
  case atStart => exact ⟨0, Nat.zero_le _, rfl, false, rfl, [], OwnsA.nil _ _ _, Nat.zero_le _, rfl, Below.refl _ _⟩
  case round =>
    obtain ⟨k, hk, rfl, pb, rfl, outL, ⟨rs, hrl, hown, hrr⟩, hol, heq, hb⟩ := hrel
    have HEQ := hidE heq
    clear heq
    by_cases hlt : k < l.length
    · obtain ⟨ab, ao, rfl, hab, hc⟩ := h.raw (by omega)
      obtain ⟨⟨p, n, cp, ck, sk⟩, hr, c0, c1, c2⟩ := hc k hlt
      have hi1 : (k : Int) < l.length := by omega
      have HD : Hid (putA xa l false = outL ++ ((stepPut xa l[k] pb).1 ++ putA xa (l.drop (k + 1)) (stepPut xa l[k] pb).2)) := by
        show _ = _
        rw [← HEQ.out, putA_drop hlt]
      have HR := hidE hr
      have hn : n = l[k].path.length := hr.n
      have hck : ck = l[k].clock := hr.clock
      have hsk : sk = l[k].sign := hr.sign
      subst hn hck hsk
      have d0 := (hb.cell (p := ⟨ab, ao + k * 3, none⟩) hab).trans c0
      have d1 := (hb.cell (p := ⟨ab, ao + k * 3 + 1, none⟩) hab).trans c1
      have d2 := (hb.cell (p := ⟨ab, ao + k * 3 + 2, none⟩) hab).trans c2
      have hln := hr.len
      have s0 := hr.s0
      have s1 := hr.s1
      have HO : Hid (ordA l[k] xa = ordM l[k].path l[k].clock xa.path xa.clock) := rfl
      have HX : Hid (∃ x : At, x = l[k]) := ⟨_, rfl⟩
      obtain ⟨x, hx⟩ : ∃ x : At, x = l[k] := ⟨_, rfl⟩
      rw [← hx] at HD HR HO d0 d1 d2 hln s0 s1
      clear hc h c0 c1 c2 hr hx HX
      have hb0 := hb.alloc hb.size (.cells #[.slice p x.path.length cp, .int .i64 x.clock, .int .u8 x.sign] 108)
      have hown0 := hown.alloc (.cells #[.slice p x.path.length cp, .int .i64 x.clock, .int .u8 x.sign] 108)
      have hON : ∀ b, b = w.heap.size ∨ b = wr.heap.size → some b ≠ Value.ownBlock u5 := fun b hb' => own_ne hown (by omega)
      have x0 : (wr.alloc (.cells #[.slice p x.path.length cp, .int .i64 x.clock, .int .u8 x.sign] 108)).cell? ⟨wr.heap.size, 0, none⟩ = some (.slice p x.path.length cp) := by simp
      have x1 : (wr.alloc (.cells #[.slice p x.path.length cp, .int .i64 x.clock, .int .u8 x.sign] 108)).cell? ⟨wr.heap.size, 1, none⟩ = some (.int .i64 x.clock) := by simp
      have x2 : (wr.alloc (.cells #[.slice p x.path.length cp, .int .i64 x.clock, .int .u8 x.sign] 108)).cell? ⟨wr.heap.size, 2, none⟩ = some (.int .u8 x.sign) := by simp
      have xf : ∀ o, (wr.alloc (.cells #[.slice p x.path.length cp, .int .i64 x.clock, .int .u8 x.sign] 108)).frozen? ⟨wr.heap.size, o, none⟩ = false := by intro o; go_simp
      have a0 := (hb0.cell (p := ⟨w.heap.size, 0, none⟩) z1).trans q0
      have a1 := (hb0.cell (p := ⟨w.heap.size, 1, none⟩) z1).trans q1
      have a2 := (hb0.cell (p := ⟨w.heap.size, 2, none⟩) z1).trans q2
      have hsz : wr.heap.size < (wr.alloc (.cells #[.slice p x.path.length cp, .int .i64 x.clock, .int .u8 x.sign] 108)).heap.size := by simp
      have hzz : w.heap.size < wr.heap.size := Nat.lt_of_lt_of_le z1 hb.size
      have hnxa : w.heap.size ≠ wr.heap.size := by omega
      have hzw : w1.heap.size ≤ wr.heap.size := hb.size
      go_upto_region 7 with fail
      generalize wr.alloc (.cells #[.slice p x.path.length cp, .int .i64 x.clock, .int .u8 x.sign] 108) = w2 at hb0 hown0 x0 x1 x2 xf a0 a1 a2 hsz ⊢
      clear d0 d1 d2
      go_wp2_with fail
      refine (orderOf_any _ _ _ _ x.path xa.path _ _ _ hln hlna (HR.out.steps.below hb0 (Nat.le_refl _)) (HAx.out.steps.below hb0 (Nat.le_refl _))).mono ?_
      rintro e w3 ⟨rfl, hb3⟩
      have hown3 := owns_below hown0 hb3
      have hB3 := hb0.thru hb3 hb0.size
      replace x0 := (hb3.cell (p := ⟨wr.heap.size, 0, none⟩) hsz).trans x0
      replace x1 := (hb3.cell (p := ⟨wr.heap.size, 1, none⟩) hsz).trans x1
      replace x2 := (hb3.cell (p := ⟨wr.heap.size, 2, none⟩) hsz).trans x2
      replace xf : ∀ o, w3.frozen? ⟨wr.heap.size, o, none⟩ = false := fun o => (hb3.frozen (p := ⟨wr.heap.size, o, none⟩) hsz).trans (xf o)
      have hza : w.heap.size < w2.heap.size := by omega
      replace a0 := (hb3.cell (p := ⟨w.heap.size, 0, none⟩) hza).trans a0
      replace a1 := (hb3.cell (p := ⟨w.heap.size, 1, none⟩) hza).trans a1
      replace a2 := (hb3.cell (p := ⟨w.heap.size, 2, none⟩) hza).trans a2
      have hz3 : wr.heap.size < w3.heap.size := Nat.lt_of_lt_of_le hsz hb3.size
      have hz3a : w.heap.size < w3.heap.size := by omega
      clear hown0 hb0 hown hb hb3
      generalize hord : ordM x.path x.clock xa.path xa.clock = o at HO ⊢
      clear hord
      rcases (show 0 < o ∨ o = 0 ∨ o < 0 by omega) with ho | ho | ho
      · cases pb
        · have HSP : Hid (stepPut xa x false = ([xa, x], true)) := by show _ = _; unfold stepPut; rw [HO.out, if_pos ho]; rfl
          have hog : decide (o > 0) = true := by simpa using ho
          have hoe : ¬ o = 0 := by omega
          go_wp2_with (at_builtin; refine wpList_append_own _ rfl _ _ 22 rfl w1.heap.size 108 i0 (.agg #[.slice none 0 0, .int .i64 0, .int .u8 0]) 3 40 Tryz.underlying22 hi hz0 hz1 hz2 rfl (by decide) _ _ _ rfl (hown3.alloc _) ⟨w3.heap.size, 0, none⟩ 1 1 ((⟨pa, xa.path.length, ca, xa.clock, xa.sign⟩ : Raw).cells) rfl ?qc1 ?qc2 ?qc3 ?qc4 ?qc5 ?qc6 ?_)
          case qc1 => rfl
          case qc2 =>
            intro j u hj
            rw [Addr.add_lit, Nat.zero_add]
            exact raw_new w3 ⟨pa, xa.path.length, ca, xa.clock, xa.sign⟩ j u hj
          case qc3 => intro u hu; exact flatR_one [⟨pa, xa.path.length, ca, xa.clock, xa.sign⟩] u (by simpa [flatR] using hu)
          case qc4 => unfold maxLen; omega
          case qc5 => omega
          case qc6 => exact (hB3.alloc hB3.size _).size
          intro v4 w4n hown4n hgrow4 hnil4
          have hB4 := (hB3.alloc hB3.size (.cells #[.slice pa xa.path.length ca, .int .i64 xa.clock, .int .u8 xa.sign] 108)).grown hgrow4 (hB3.alloc hB3.size _).size (fun k hk => (hown3.lt k hk).1)
          obtain ⟨rs4, hrl4, hown4, hrr4⟩ := ownsA_snoc hrl hrr HAx.out hown4n
          have hbn : Below w3.heap.size w3 (w3.alloc (Obj.cells #[.slice pa xa.path.length ca, .int .i64 xa.clock, .int .u8 xa.sign] 108)) := (Below.refl _ _).alloc (Nat.le_refl _) _
          have hgz : wr.heap.size < (w3.alloc (Obj.cells #[.slice pa xa.path.length ca, .int .i64 xa.clock, .int .u8 xa.sign] 108)).heap.size := Nat.lt_of_lt_of_le hz3 hbn.size
          have y0 := ((grown_cell hgrow4 hgz (hON _ (Or.inr rfl)) 0).trans (hbn.cell (p := ⟨wr.heap.size, 0, none⟩) hz3)).trans x0
          have y1 := ((grown_cell hgrow4 hgz (hON _ (Or.inr rfl)) 1).trans (hbn.cell (p := ⟨wr.heap.size, 1, none⟩) hz3)).trans x1
          have y2 := ((grown_cell hgrow4 hgz (hON _ (Or.inr rfl)) 2).trans (hbn.cell (p := ⟨wr.heap.size, 2, none⟩) hz3)).trans x2
          have hol4 : (outL ++ [xa]).length ≤ 2 * k + 1 := by simp; omega
          have HAp : Hid (outL ++ [xa, x] = (outL ++ [xa]) ++ [x]) := by show _ = _; simp
          clear x0 x1 x2 a0 a1 a2 hbn hgz hgrow4 hown4n hnil4 hrl hrr hown3 hB3
          have hHD : Hid (putA xa l false = outL ++ ([xa, x] ++ putA xa (l.drop (k + 1)) true)) := by show _ = _; rw [HD.out, HSP.out]
          have HE4 : Hid (∃ oL, oL = outL ++ [xa]) := ⟨_, rfl⟩
          generalize hoL : outL ++ [xa] = oL at hrl4 hown4 hrr4 hol4
          have HOL := hidE hoL
          clear hoL
          go_wp2_with (at_builtin; refine wpList_append_own _ rfl _ _ 22 rfl w1.heap.size 108 i0 (.agg #[.slice none 0 0, .int .i64 0, .int .u8 0]) 3 40 Tryz.underlying22 hi hz0 hz1 hz2 rfl (by decide) _ _ _ rfl (hown4.alloc _) ⟨w4n.heap.size, 0, none⟩ 1 1 ((⟨p, x.path.length, cp, x.clock, x.sign⟩ : Raw).cells) rfl ?qc1 ?qc2 ?qc3 ?qc4 ?qc5 ?qc6 ?_)
          case qc1 => rfl
          case qc2 =>
            intro j u hj
            rw [Addr.add_lit, Nat.zero_add]
            exact raw_new w4n ⟨p, x.path.length, cp, x.clock, x.sign⟩ j u hj
          case qc3 => intro u hu; exact flatR_one [⟨p, x.path.length, cp, x.clock, x.sign⟩] u (by simpa [flatR] using hu)
          case qc4 => unfold maxLen; omega
          case qc5 => omega
          case qc6 => exact (hB4.alloc hB4.size _).size
          intro v9 w9n hown9n hgrow9 hnil9

          go_wp2_with fail
          go_roundw
          case rel =>
            refine ⟨k + 1, by omega, by go_num, true, rfl, oL ++ [x], ownsA_snoc hrl4 hrr4 HR.out hown9n, by simp; omega, ?_, (hB4.alloc hB4.size _).grown hgrow9 (hB4.alloc hB4.size _).size (fun k hk => (hown4.lt k hk).1)⟩
            rw [hHD.out, ← HOL.out]
            simp
          case measure => simp [intOf]; omega
        · have HSP : Hid (stepPut xa x true = ([x], true)) := by show _ = _; unfold stepPut; rw [HO.out, if_pos ho]; rfl
          have hog : decide (o > 0) = true := by simpa using ho
          have hoe : ¬ o = 0 := by omega
          go_wp2_with (at_builtin; refine wpList_append_own _ rfl _ _ 22 rfl w1.heap.size 108 i0 (.agg #[.slice none 0 0, .int .i64 0, .int .u8 0]) 3 40 Tryz.underlying22 hi hz0 hz1 hz2 rfl (by decide) _ _ _ rfl (hown3.alloc _) ⟨w3.heap.size, 0, none⟩ 1 1 ((⟨p, x.path.length, cp, x.clock, x.sign⟩ : Raw).cells) rfl ?qc1 ?qc2 ?qc3 ?qc4 ?qc5 ?qc6 ?_)
          case qc1 => rfl
          case qc2 =>
            intro j u hj
            rw [Addr.add_lit, Nat.zero_add]
            exact raw_new w3 ⟨p, x.path.length, cp, x.clock, x.sign⟩ j u hj
          case qc3 => intro u hu; exact flatR_one [⟨p, x.path.length, cp, x.clock, x.sign⟩] u (by simpa [flatR] using hu)
          case qc4 => unfold maxLen; (try simp only [List.length_append, List.length_cons, List.length_nil]); omega
          case qc5 => (try simp only [List.length_append, List.length_cons, List.length_nil]); omega
          case qc6 => exact (hB3.alloc hB3.size _).size
          intro v9 w9n hown9n hgrow9 hnil9

          go_wp2_with fail
          go_roundw
          case rel =>
            refine ⟨k + 1, by omega, by go_num, true, rfl, outL ++ [x], ownsA_snoc hrl hrr HR.out hown9n, by simp; omega, ?_, (hB3.alloc hB3.size _).grown hgrow9 (hB3.alloc hB3.size _).size (fun k hk => (hown3.lt k hk).1)⟩
            rw [HD.out, HSP.out]
            simp
          case measure => simp [intOf]; omega
      · subst ho
        by_cases hs : xa.sign < x.sign
        · have HSP : Hid (stepPut xa x pb = ([lessSign xa x], true)) := by show _ = _; unfold stepPut; rw [HO.out, if_neg (by decide), if_pos rfl]
          have HRs : Hid (RawOf w1 ⟨p, x.path.length, cp, x.clock, xa.sign⟩ (lessSign xa x)) := by
            unfold lessSign; rw [if_pos hs]
            exact ⟨rfl, rfl, rfl, HR.out.steps, HR.out.len, HR.out.cap, sa0, sa1⟩
          have hown4 : (w3.setCell ⟨wr.heap.size, 2, none⟩ (.int .u8 xa.sign)).ownsRow w1.heap.size 108 3 u5 outL.length (flatR rs) := ownsRow_setCell_other hown3 (fun e => hON _ (Or.inr rfl) e.symm) _
          have hB4 := hB3.setCell (p := ⟨wr.heap.size, 2, none⟩) hzw (.int .u8 xa.sign)
          have y0 : (w3.setCell ⟨wr.heap.size, 2, none⟩ (.int .u8 xa.sign)).cell? ⟨wr.heap.size, 0, none⟩ = some (.slice p x.path.length cp) := by rw [World.cell?_setCell_other _ _ _ _ (by simp)]; exact x0
          have y1 : (w3.setCell ⟨wr.heap.size, 2, none⟩ (.int .u8 xa.sign)).cell? ⟨wr.heap.size, 1, none⟩ = some (.int .i64 x.clock) := by rw [World.cell?_setCell_other _ _ _ _ (by simp)]; exact x1
          have y2 : (w3.setCell ⟨wr.heap.size, 2, none⟩ (.int .u8 xa.sign)).cell? ⟨wr.heap.size, 2, none⟩ = some (.int .u8 xa.sign) := World.cell?_setCell_same _ _ _ x2
          go_upto_region 15 with fail
          generalize w3.setCell ⟨wr.heap.size, 2, none⟩ (.int .u8 xa.sign) = w4 at hown4 hB4 y0 y1 y2 ⊢
          clear x0 x1 x2 a0 a1 a2 hown3 hB3
          go_wp2_with (at_builtin; refine wpList_append_own _ rfl _ _ 22 rfl w1.heap.size 108 i0 (.agg #[.slice none 0 0, .int .i64 0, .int .u8 0]) 3 40 Tryz.underlying22 hi hz0 hz1 hz2 rfl (by decide) _ _ _ rfl (hown4.alloc _) ⟨w4.heap.size, 0, none⟩ 1 1 ((⟨p, x.path.length, cp, x.clock, xa.sign⟩ : Raw).cells) rfl ?qc1 ?qc2 ?qc3 ?qc4 ?qc5 ?qc6 ?_)
          case qc1 => rfl
          case qc2 =>
            intro j u hj
            rw [Addr.add_lit, Nat.zero_add]
            exact raw_new w4 ⟨p, x.path.length, cp, x.clock, xa.sign⟩ j u hj
          case qc3 => intro u hu; exact flatR_one [⟨p, x.path.length, cp, x.clock, xa.sign⟩] u (by simpa [flatR] using hu)
          case qc4 => unfold maxLen; (try simp only [List.length_append, List.length_cons, List.length_nil]); omega
          case qc5 => (try simp only [List.length_append, List.length_cons, List.length_nil]); omega
          case qc6 => exact (hB4.alloc hB4.size _).size
          intro v9 w9n hown9n hgrow9 hnil9

          go_wp2_with fail
          go_roundw
          case rel =>
            refine ⟨k + 1, by omega, by go_num, true, rfl, outL ++ [(lessSign xa x)], ownsA_snoc hrl hrr HRs.out hown9n, by simp; omega, ?_, (hB4.alloc hB4.size _).grown hgrow9 (hB4.alloc hB4.size _).size (fun k hk => (hown4.lt k hk).1)⟩
            rw [HD.out, HSP.out]
            simp
          case measure => simp [intOf]; omega
        · have HSP : Hid (stepPut xa x pb = ([lessSign xa x], true)) := by show _ = _; unfold stepPut; rw [HO.out, if_neg (by decide), if_pos rfl]
          have HLS : Hid (lessSign xa x = x) := by show _ = _; unfold lessSign; rw [if_neg hs]
          have hs' : x.sign ≤ xa.sign := by omega
          clear hs
          go_wp2_with (at_builtin; refine wpList_append_own _ rfl _ _ 22 rfl w1.heap.size 108 i0 (.agg #[.slice none 0 0, .int .i64 0, .int .u8 0]) 3 40 Tryz.underlying22 hi hz0 hz1 hz2 rfl (by decide) _ _ _ rfl (hown3.alloc _) ⟨w3.heap.size, 0, none⟩ 1 1 ((⟨p, x.path.length, cp, x.clock, x.sign⟩ : Raw).cells) rfl ?qc1 ?qc2 ?qc3 ?qc4 ?qc5 ?qc6 ?_)
          case qc1 => rfl
          case qc2 =>
            intro j u hj
            rw [Addr.add_lit, Nat.zero_add]
            exact raw_new w3 ⟨p, x.path.length, cp, x.clock, x.sign⟩ j u hj
          case qc3 => intro u hu; exact flatR_one [⟨p, x.path.length, cp, x.clock, x.sign⟩] u (by simpa [flatR] using hu)
          case qc4 => unfold maxLen; (try simp only [List.length_append, List.length_cons, List.length_nil]); omega
          case qc5 => (try simp only [List.length_append, List.length_cons, List.length_nil]); omega
          case qc6 => exact (hB3.alloc hB3.size _).size
          intro v9 w9n hown9n hgrow9 hnil9

          go_wp2_with fail
          go_roundw
          case rel =>
            refine ⟨k + 1, by omega, by go_num, true, rfl, outL ++ [(lessSign xa x)], ownsA_snoc hrl hrr (by rw [HLS.out]; exact HR.out) hown9n, by simp; omega, ?_, (hB3.alloc hB3.size _).grown hgrow9 (hB3.alloc hB3.size _).size (fun k hk => (hown3.lt k hk).1)⟩
            rw [HD.out, HSP.out]
            simp
          case measure => simp [intOf]; omega
      · have HSP : Hid (stepPut xa x pb = ([x], pb)) := by show _ = _; unfold stepPut; rw [HO.out, if_neg (by omega), if_neg (by omega)]
        have hog : decide (o > 0) = false := by simpa using (show o ≤ 0 by omega)
        have hoe : ¬ o = 0 := by omega
        go_wp2_with (at_builtin; refine wpList_append_own _ rfl _ _ 22 rfl w1.heap.size 108 i0 (.agg #[.slice none 0 0, .int .i64 0, .int .u8 0]) 3 40 Tryz.underlying22 hi hz0 hz1 hz2 rfl (by decide) _ _ _ rfl (hown3.alloc _) ⟨w3.heap.size, 0, none⟩ 1 1 ((⟨p, x.path.length, cp, x.clock, x.sign⟩ : Raw).cells) rfl ?qc1 ?qc2 ?qc3 ?qc4 ?qc5 ?qc6 ?_)
        case qc1 => rfl
        case qc2 =>
          intro j u hj
          rw [Addr.add_lit, Nat.zero_add]
          exact raw_new w3 ⟨p, x.path.length, cp, x.clock, x.sign⟩ j u hj
        case qc3 => intro u hu; exact flatR_one [⟨p, x.path.length, cp, x.clock, x.sign⟩] u (by simpa [flatR] using hu)
        case qc4 => unfold maxLen; (try simp only [List.length_append, List.length_cons, List.length_nil]); omega
        case qc5 => (try simp only [List.length_append, List.length_cons, List.length_nil]); omega
        case qc6 => exact (hB3.alloc hB3.size _).size
        intro v9 w9n hown9n hgrow9 hnil9

        go_wp2_with fail
        go_roundw
        case rel =>
          refine ⟨k + 1, by omega, by go_num, pb, rfl, outL ++ [x], ownsA_snoc hrl hrr HR.out hown9n, by simp; omega, ?_, (hB3.alloc hB3.size _).grown hgrow9 (hB3.alloc hB3.size _).size (fun k hk => (hown3.lt k hk).1)⟩
          rw [HD.out, HSP.out]
          simp
        case measure => simp [intOf]; omega
    · have hkl : k = l.length := by omega
      subst hkl
      have a0 := (hb.cell (p := ⟨w.heap.size, 0, none⟩) z1).trans q0
      have a1 := (hb.cell (p := ⟨w.heap.size, 1, none⟩) z1).trans q1
      have a2 := (hb.cell (p := ⟨w.heap.size, 2, none⟩) z1).trans q2
      have HE2 : Hid (putA xa l false = outL ++ if pb then [] else [xa]) := by
        show _ = _
        rw [← HEQ.out, List.drop_eq_nil_of_le (Nat.le_refl _)]; rfl
      clear HEQ
      cases pb
      · have HE3 : Hid (putA xa l false = outL ++ [xa]) := by show _ = _; rw [HE2.out]; rfl
        clear HE2
        go_wp2_with (at_builtin; refine wpList_append_own _ rfl _ _ 22 rfl w1.heap.size 108 i0 (.agg #[.slice none 0 0, .int .i64 0, .int .u8 0]) 3 40 Tryz.underlying22 hi hz0 hz1 hz2 rfl (by decide) _ _ _ rfl (hown.alloc _) ⟨wr.heap.size, 0, none⟩ 1 1 ((⟨pa, xa.path.length, ca, xa.clock, xa.sign⟩ : Raw).cells) rfl ?qc1 ?qc2 ?qc3 ?qc4 ?qc5 ?qc6 ?_)
        case qc1 => rfl
        case qc2 =>
          intro j u hj
          rw [Addr.add_lit, Nat.zero_add]
          exact raw_new wr ⟨pa, xa.path.length, ca, xa.clock, xa.sign⟩ j u hj
        case qc3 => intro u hu; exact flatR_one [⟨pa, xa.path.length, ca, xa.clock, xa.sign⟩] u (by simpa [flatR] using hu)
        case qc4 => unfold maxLen; omega
        case qc5 => omega
        case qc6 => exact (hb.alloc hb.size _).size
        intro v9 w9n hown9n hgrow9 hnil9

        go_wp2_with fail
        have hb9 := (hb.alloc hb.size _).grown hgrow9 (hb.alloc hb.size _).size (fun k hk => (hown.lt k hk).1)
        obtain ⟨p9, c9, hv9, hat, _⟩ := (ownsA_snoc hrl hrr HAx.out hown9n).atoms hb9
        subst hv9
        go_ret
        rw [HE3.out]
        exact ⟨p9, c9, rfl, hat, hbA.thru hb9 hbA.size⟩
      · have HE3 : Hid (putA xa l false = outL) := by show _ = _; rw [HE2.out]; simp
        clear HE2
        obtain ⟨p9, c9, rfl, hat, _⟩ := OwnsA.atoms ⟨rs, hrl, hown, hrr⟩ hb
        go_wp2_with fail
        go_ret
        rw [HE3.out]
        exact ⟨p9, c9, rfl, hat, hbA.thru hb hbA.size⟩
end Go.Proofs.YtnhjebdlcbhkcaeGreat
