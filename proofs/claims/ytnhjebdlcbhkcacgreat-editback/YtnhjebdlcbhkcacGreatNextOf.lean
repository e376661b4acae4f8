/- Rows that are the call's own. -/
import Derived.Test.YtnhjebdlcbhkcacGreatAtomCk
import Derived.Deep.RegionLawGrows
import Derived.Deep.RegionHeldLaw
namespace Go.Proofs.YtnhjebdlcbhkcacGreat
open Go.RowKit

theorem owns_form {w : World} {base : Nat} {e : TypeId} {size : Nat} {v : Value} {n : Nat} {xs : List Value} (h : w.ownsRow base e size v n xs) (hn : 0 < n) : ∃ g cap, v = .slice (some ⟨g, 0, none⟩) n cap := by
  rcases h.2 with ⟨_, h0⟩ | ⟨g, cap, cur, rfl, _⟩
  · omega
  · exact ⟨g, cap, rfl⟩

theorem keepB {w1 w' : World} {z : Nat} {v0 v1 : Value} (hb : Below w1.heap.size w1 w') (q0 : w1.cell? ⟨z, 0, none⟩ = some v0) (q1 : w1.cell? ⟨z, 1, none⟩ = some v1) (hz : z < w1.heap.size) :
    Below w1.heap.size w1 w' ∧ w'.cell? ⟨z, 0, none⟩ = some v0 ∧ w'.cell? ⟨z, 1, none⟩ = some v1 :=
  ⟨hb, (hb.cell (p := ⟨z, 0, none⟩) hz).trans q0, (hb.cell (p := ⟨z, 1, none⟩) hz).trans q1⟩

end Go.Proofs.YtnhjebdlcbhkcacGreat

namespace Go.Proofs.YtnhjebdlcbhkcacGreat
open Go.RowKit

set_option maxRecDepth 100000 in
set_option maxHeartbeats 2000000 in
theorem afterOf_any (b off cap : Nat) (l : List (Int × Int)) (c n : Int) (w : World) (h : StepsAt w (some ⟨b, off, none⟩) l) (hok : chk l c = 0) (h0 : 0 ≤ n) (h60 : n ≤ 60) :
    Calls Tryz.prog 54 #[.agg #[.slice (some ⟨b, off, none⟩) l.length cap, .int .i64 c], .int .i64 n] w fun e w' => ∃ g cap', e = .returned (.agg #[.slice (some ⟨g, 0, none⟩) l.length cap', .int .i64 (c + n)]) ∧ StepsAt w' (some ⟨g, 0, none⟩) (bump l n) ∧ Below w.heap.size w w' ∧ w'.ownsRow w.heap.size 99 2 (.slice (some ⟨g, 0, none⟩) l.length cap') l.length (flatS (bump l n)) := by
  obtain ⟨hl0, hl10, hoks, _, hc1, hc2⟩ := chk_ok hok
  have hd := okStep_iff.1 (okSteps_get hoks (i := l.length - 1) (by omega))
  obtain ⟨i0, hi, hz0, hz1, hz2⟩ := Tryz.info99
  clear hok
  have hwr : IntKind.i64.wrap (c + n) = c + n := by rw [IntKind.wrap_i64]; omega
  obtain ⟨q0, q1, q3, q4, hz, hb1⟩ := boxes2 w (.slice (some ⟨b, off, none⟩) l.length cap) (.int .i64 c) (.slice none 0 0) (.int .i64 0) 46 46
  have q2 : ∀ o, ((w.alloc (Obj.cells #[.slice (some ⟨b, off, none⟩) l.length cap, .int .i64 c] 46)).alloc (Obj.cells #[.slice none 0 0, .int .i64 0] 46)).frozen? ⟨w.heap.size + 1, o, none⟩ = false := by intro o; go_simp
  go_enter Tryz.func54, Tryz.ntmps54
  go_upto_region 1 with fail
  generalize (w.alloc (Obj.cells #[.slice (some ⟨b, off, none⟩) l.length cap, .int .i64 c] 46)).alloc (Obj.cells #[.slice none 0 0, .int .i64 0] 46) = w1 at q0 q1 q2 q3 q4 hz hb1 ⊢
  have z1 : w.heap.size < w1.heap.size := by omega
  have z2 : w.heap.size + 1 < w1.heap.size := by omega
  clear hz
  have hBd : Below w1.heap.size w1 w1.drew := (Below.refl _ _).drew
  have hs1 := h.below hb1 (Nat.le_refl _)
  go_cut [5] (fun t wc => ∃ N g cap2, t = .pointer (some ⟨N, 0, none⟩) ∧ w1.heap.size ≤ N ∧ N < wc.heap.size ∧ w1.heap.size ≤ g ∧ g ≠ N ∧ wc.cell? ⟨N, 0, none⟩ = some (.slice (some ⟨g, 0, none⟩) l.length cap2) ∧ wc.cell? ⟨N, 1, none⟩ = some (.int .i64 (c + n)) ∧ wc.ownsRow w1.heap.size 99 2 (.slice (some ⟨g, 0, none⟩) l.length cap2) l.length (flatS l) ∧ Below w1.heap.size w1 wc)
  case first =>
    go_region_held_law (fun w' => Below w1.heap.size w1 w' ∧ w'.cell? ⟨w.heap.size, 0, none⟩ = some (.slice (some ⟨b, off, none⟩) l.length cap) ∧ w'.cell? ⟨w.heap.size, 1, none⟩ = some (.int .i64 c)) ((refine keepB ?_ q0 q1 z1; first | exact hBd | exact ((Below.refl _ _).alloc (Nat.le_refl _) _).drew | exact (((Below.refl _ _).alloc (Nat.le_refl _) _).alloc (by simp) _).drew | exact hBw | exact hBw.alloc hzw _ | exact (hBw.setCell (by simp) _).setCell (by simp) _ | exact (hBw.setCell (by simp; omega) _).setCell (by simp; omega) _))
      (first | (refine step_append_grows rfl (.tmp 6) (.tmp 8) 44 rfl 99 i0 (.agg #[.int .i64 0, .int .i64 0]) 2 16 Tryz.underlying44 hi hz0 hz1 hz2 rfl (by decide) _ 0 0 [] (by simp [Act.eval]; rfl) (by simp) rfl (by intro _ _ j u hj; simp at hj) ⟨b, off, none⟩ l.length cap (flatS l) (by simp [Act.eval]) (flatS_length l) (by intro j u hj; rw [Addr.add_lit]; exact (hs1.below (And.left ‹Below w1.heap.size w1 _ ∧ _›) (Nat.le_refl _)).cells j u hj) (flatS_one l) (by omega) (by unfold maxLen; omega) (by omega) ?_; intro v' w2 hown hgrow; rw [Nat.zero_add, List.nil_append] at hown; obtain ⟨g, cap2, hv⟩ := owns_form hown hl0; subst hv; have hBw := (And.left ‹Below w1.heap.size w1 _ ∧ _›).grown hgrow (And.left ‹Below w1.heap.size w1 _ ∧ _›).size (by intro k hk; simp at hk); have hzw := hBw.size; have hBp := (Below.refl _ _).grown hgrow (Nat.le_refl _) (by intro k hk; simp at hk); have c0 := fun o => hBp.cell (p := ⟨w1.heap.size, o, none⟩) (by simp <;> omega); have f0 := fun o => hBp.frozen (p := ⟨w1.heap.size, o, none⟩) (by simp <;> omega); have c1 := fun o (hh : w1.heap.size + 1 < _) => hBp.cell (p := ⟨w1.heap.size + 1, o, none⟩) hh; have f1 := fun o (hh : w1.heap.size + 1 < _) => hBp.frozen (p := ⟨w1.heap.size + 1, o, none⟩) hh; have t0 := (hBw.cell (p := ⟨w.heap.size, 0, none⟩) z1).trans q0; have t1 := (hBw.cell (p := ⟨w.heap.size, 1, none⟩) z1).trans q1))
    · go_wp2_with fail
      go_meet
      have hg := hown.lt g rfl
      simp at hg
      exact ⟨w2.heap.size, g, cap2, rfl, hzw, by simp, by omega, by omega, by simp, by simp, (owns_base hown (by simp)).alloc _, hBw.alloc hzw _⟩
    · go_wp2_with fail
      go_meet
      have hg := hown.lt g rfl
      have hz2 := hBp.size
      simp at hg hz2
      exact ⟨w1.heap.size + 1, g, cap2, rfl, by omega, by simp [World.setCell]; omega, by omega, by omega, by go_simp, by go_simp, ownsRow_setCell_other (ownsRow_setCell_other (owns_base hown (by simp; omega)) (by simp [Value.ownBlock]; omega) _) (by simp [Value.ownBlock]; omega) _, (hBw.setCell (by simp) _).setCell (by simp) _⟩
    · go_wp2_with fail
      go_meet
      have hg := hown.lt g rfl
      have hz2 := hBp.size
      simp at hg hz2
      exact ⟨w1.heap.size, g, cap2, rfl, by omega, by simp [World.setCell]; omega, by omega, by omega, by go_simp, by go_simp, ownsRow_setCell_other (ownsRow_setCell_other (owns_base hown (by simp; omega)) (by simp [Value.ownBlock]; omega) _) (by simp [Value.ownBlock]; omega) _, (hBw.setCell (by simp) _).setCell (by simp) _⟩
  case rest =>
    obtain ⟨N, g, cap2, rfl, hN1, hN2, hg1, hgN, e0, e1, hown, hb2⟩ := hcut
    have hgl := (hown.lt g rfl).2
    have fc := (hown.cellAt ((l.length - 1) * 2) (by omega)).trans (flatS_get l (l.length - 1) (by omega)).1
    have ff := hown.frozenAt ((l.length - 1) * 2)
    have hst := hown.stored ((l.length - 1) * 2) (.int .i64 (l[l.length - 1].1 + n))
    rw [flatS_set l _ (by omega)] at hst
    have hbump : l.set (l.length - 1) (l[l.length - 1].1 + n, l[l.length - 1].2) = bump l n := by unfold bump setL; rw [lastS_eq hl0]
    rw [hbump] at hst
    have hlb : (bump l n).length = l.length := by unfold bump setL; simp
    have hsa := stepsAt_owns hst.1 hlb.symm
    clear hbump hlb
    obtain ⟨hcc, hff⟩ := bcellN hb2 w1.heap.size (Nat.le_refl _)
    have p3 : wc.cell? ⟨w.heap.size + 1, 0, none⟩ = some (.slice none 0 0) := (hcc _ _ z2).trans q3
    have p4 : wc.cell? ⟨w.heap.size + 1, 1, none⟩ = some (.int .i64 0) := (hcc _ _ z2).trans q4
    have p2 : ∀ o, wc.frozen? ⟨w.heap.size + 1, o, none⟩ = false := fun o => (hff _ _ z2).trans (q2 o)
    clear hcc hff q0 q1 q2 q3 q4
    have hgn' : N ≠ g := fun e => hgN e.symm
    have hg2 : w.heap.size + 1 ≠ g := by omega
    have hg3 : g ≠ w.heap.size + 1 := by omega
    have hN3 : N ≠ w.heap.size + 1 := by omega
    have hN4 : w.heap.size + 1 ≠ N := by omega
    obtain ⟨d1, d2, d3, d4⟩ := hd
    generalize l[l.length - 1].1 = dl at fc hst d1 d2 hsa
    have y0 : (wc.setCell ⟨g, (l.length - 1) * 2, none⟩ (.int .i64 (dl + n))).cell? ⟨N, 0, none⟩ = some (.slice (some ⟨g, 0, none⟩) l.length cap2) := cell_other hgn' e0
    have y1 : (wc.setCell ⟨g, (l.length - 1) * 2, none⟩ (.int .i64 (dl + n))).cell? ⟨N, 1, none⟩ = some (.int .i64 (c + n)) := cell_other hgn' e1
    have y2 : (wc.setCell ⟨g, (l.length - 1) * 2, none⟩ (.int .i64 (dl + n))).cell? ⟨w.heap.size + 1, 0, none⟩ = some (.slice none 0 0) := cell_other hg2 p3
    have y3 : (wc.setCell ⟨g, (l.length - 1) * 2, none⟩ (.int .i64 (dl + n))).cell? ⟨w.heap.size + 1, 1, none⟩ = some (.int .i64 0) := cell_other hg2 p4
    go_wp2
    refine bodyPost_ret (v := .agg #[.slice (some ⟨g, 0, none⟩) l.length cap2, .int .i64 (c + n)]) (by simp [results, Tryz.results54, go_sem, y2, y3]) rfl ?_
    refine ⟨g, cap2, rfl, (hsa.setOld (by simp; omega)).setOld (by simp; omega), ?_, ?_⟩
    · exact (((hb1.thru hb2 hb1.size).setCell (by show _ ≤ g; omega) _).setCell (by simp) _).setCell (by simp) _
    · exact ownsRow_setCell_other (ownsRow_setCell_other (owns_base hst.1 (by omega)) (by simp [Value.ownBlock]; omega) _) (by simp [Value.ownBlock]; omega) _
end Go.Proofs.YtnhjebdlcbhkcacGreat

namespace Go.Proofs.YtnhjebdlcbhkcacGreat
open Go.RowKit

/-- an atom's three cells -/
structure Raw where
  p : Option Addr
  n : Nat
  cap : Nat
  clock : Int
  sign : Int

def Raw.cells (r : Raw) : List Value := [.slice r.p r.n r.cap, .int .i64 r.clock, .int .u8 r.sign]
def flatR (l : List Raw) : List Value := l.flatMap Raw.cells

theorem flatR_length (l : List Raw) : (flatR l).length = l.length * 3 := by
  unfold flatR; induction l with
  | nil => rfl
  | cons s l ih => simp only [List.flatMap_cons, List.length_append, ih, List.length_cons, Raw.cells, List.length_nil]; omega
theorem flatR_append (l m : List Raw) : flatR (l ++ m) = flatR l ++ flatR m := by unfold flatR; simp
theorem flatR_get (l : List Raw) : ∀ i (h : i < l.length), (flatR l)[i * 3]? = some (.slice l[i].p l[i].n l[i].cap) ∧ (flatR l)[i * 3 + 1]? = some (.int .i64 l[i].clock) ∧ (flatR l)[i * 3 + 2]? = some (.int .u8 l[i].sign) := by
  induction l with
  | nil => intro i h; simp at h
  | cons s l ih =>
    intro i h
    match i with
    | 0 => exact ⟨rfl, rfl, rfl⟩
    | i + 1 =>
      have := ih i (by simpa using h)
      rw [show (i + 1) * 3 = i * 3 + 3 by omega, show i * 3 + 3 + 1 = i * 3 + 1 + 3 by omega, show i * 3 + 3 + 2 = i * 3 + 2 + 3 by omega]
      exact this
theorem flatR_one (l : List Raw) : ∀ u ∈ flatR l, u.oneCell' = true := by
  intro u hu
  unfold flatR at hu
  rw [List.mem_flatMap] at hu
  obtain ⟨s, _, hs⟩ := hu
  simp [Raw.cells] at hs
  rcases hs with rfl | rfl | rfl <;> rfl

/-- the cells tell this atom -/
structure RawOf (w : World) (r : Raw) (x : At) : Prop where
  n : r.n = x.path.length
  clock : r.clock = x.clock
  sign : r.sign = x.sign
  steps : StepsAt w r.p x.path
  len : x.path.length ≤ maxLen
  cap : x.path.length ≤ r.cap
  s0 : 0 ≤ x.sign
  s1 : x.sign ≤ 255

theorem RawOf.below {w w' : World} {r : Raw} {x : At} {B : Nat} (h : RawOf w r x) (hb : Below B w w') (hB : w.heap.size ≤ B) : RawOf w' r x :=
  ⟨h.n, h.clock, h.sign, h.steps.below hb hB, h.len, h.cap, h.s0, h.s1⟩

/-- a row of atoms that the call has made; their paths lie in the world w0 -/
def OwnsA (w0 w : World) (base : Nat) (v : Value) (xs : List At) : Prop :=
  ∃ rs : List Raw, rs.length = xs.length ∧ w.ownsRow base 66 3 v xs.length (flatR rs) ∧ ∀ i (h : i < xs.length) (h' : i < rs.length), RawOf w0 rs[i] xs[i]

theorem OwnsA.nil (w0 w : World) (base : Nat) : OwnsA w0 w base (.slice none 0 0) [] := ⟨[], rfl, World.ownsRow_nil w base 66 3, fun i h => by simp at h⟩

theorem OwnsA.atoms {w0 w : World} {base : Nat} {v : Value} {xs : List At} (h : OwnsA w0 w base v xs) (hb : Below w0.heap.size w0 w) : ∃ p cap, v = .slice p xs.length cap ∧ AtomsAt w p xs ∧ xs.length ≤ cap := by
  obtain ⟨rs, hl, hown, hr⟩ := h
  by_cases e : xs = []
  · subst e
    rcases hown.2 with ⟨rfl, _⟩ | ⟨g, cap, cur, rfl, _⟩
    · exact ⟨none, 0, rfl, Or.inl rfl, Nat.le_refl _⟩
    · exact ⟨some ⟨g, 0, none⟩, cap, rfl, Or.inl rfl, Nat.zero_le _⟩
  have hpos : 0 < xs.length := by
    rcases Nat.eq_zero_or_pos xs.length with h0 | h0
    · exact absurd (List.length_eq_zero_iff.1 h0) e
    · exact h0
  have hown' := hown
  rcases hown.2 with ⟨_, h0⟩ | ⟨g, cap, cur, rfl, _, _, hc, _⟩
  · omega
  refine ⟨some ⟨g, 0, none⟩, cap, rfl, Or.inr ⟨g, 0, rfl, (hown'.lt g rfl).2, fun i hi => ?_⟩, hc⟩
  have c := flatR_get rs i (by omega)
  have r := hr i hi (by omega)
  rw [Nat.zero_add]
  refine ⟨rs[i].p, rs[i].cap, ?_, ?_, ?_, (r.below hb (Nat.le_refl _)).steps, r.len, r.cap, r.s0, r.s1⟩
  · rw [← r.n]; exact (hown'.cellAt _ (by omega)).trans c.1
  · rw [← r.clock]; exact (hown'.cellAt _ (by omega)).trans c.2.1
  · rw [← r.sign]; exact (hown'.cellAt _ (by omega)).trans c.2.2

theorem ownsA_snoc {w0 w : World} {base : Nat} {v : Value} {xs : List At} {rs : List Raw} {r : Raw} {x : At} (hl : rs.length = xs.length) (hr : ∀ i (h : i < xs.length) (h' : i < rs.length), RawOf w0 rs[i] xs[i]) (hx : RawOf w0 r x) (h : w.ownsRow base 66 3 v (xs.length + 1) (flatR rs ++ r.cells)) :
    OwnsA w0 w base v (xs ++ [x]) := by
  refine ⟨rs ++ [r], by simp [hl], ?_, fun i hi hi' => ?_⟩
  · rw [flatR_append, List.length_append]
    show w.ownsRow base 66 3 v (xs.length + 1) (flatR rs ++ (r.cells ++ []))
    rw [List.append_nil]; exact h
  · by_cases e : i < xs.length
    · rw [List.getElem_append_left (by omega), List.getElem_append_left e]; exact hr i e (by omega)
    · have : i = xs.length := by simp at hi; omega
      subst this
      have e1 : (rs ++ [r])[xs.length] = r := by rw [List.getElem_append_right (by omega)]; simp [hl]
      have e2 : (xs ++ [x])[xs.length] = x := by simp
      rw [e1, e2]; exact hx

theorem AtomsAt.raw {w : World} {a : Option Addr} {l : List At} (h : AtomsAt w a l) (hne : 0 < l.length) : ∃ b off, a = some ⟨b, off, none⟩ ∧ b < w.heap.size ∧ ∀ i (h : i < l.length), ∃ r, RawOf w r l[i] ∧ w.cell? ⟨b, off + i * 3, none⟩ = some (.slice r.p r.n r.cap) ∧ w.cell? ⟨b, off + i * 3 + 1, none⟩ = some (.int .i64 r.clock) ∧ w.cell? ⟨b, off + i * 3 + 2, none⟩ = some (.int .u8 r.sign) := by
  rcases h with h | ⟨b, off, rfl, hlt, hc⟩
  · simp [h] at hne
  · refine ⟨b, off, rfl, hlt, fun i hi => ?_⟩
    obtain ⟨p, cap, h1, h2, h3, h4, h5, h6, h7, h8⟩ := hc i hi
    exact ⟨⟨p, _, cap, _, _⟩, ⟨rfl, rfl, rfl, h4, h5, h6, h7, h8⟩, h1, h2, h3⟩

theorem raw_new (w : World) (r : Raw) : ∀ j u, r.cells[j]? = some u → (w.alloc (.cells #[.slice r.p r.n r.cap, .int .i64 r.clock, .int .u8 r.sign] 66)).cell? ⟨w.heap.size, j, none⟩ = some u := by
  intro j u hj
  rw [World.cell?_alloc_new]
  simpa [Raw.cells] using hj

theorem Tryz.info66 : ∃ i, Tryz.prog.info? 66 = some i ∧ i.zero = some (.agg #[.slice none 0 0, .int .i64 0, .int .u8 0]) ∧ i.size = 3 ∧ i.bytes = 40 := by
  have h : (Tryz.prog.info? 66).map (fun i => (i.zero, i.size, i.bytes)) = some (some (.agg #[.slice none 0 0, .int .i64 0, .int .u8 0]), 3, 40) := by kernel_rfl
  rw [Option.map_eq_some_iff] at h
  obtain ⟨i, hi, he⟩ := h
  simp only [Prod.mk.injEq] at he
  exact ⟨i, hi, he⟩
end Go.Proofs.YtnhjebdlcbhkcacGreat

namespace Go.Proofs.YtnhjebdlcbhkcacGreat
open Go.RowKit

set_option maxHeartbeats 1000000 in
theorem nextOf_bad (a : Option Addr) (cap : Nat) (l : List (Int × Int)) (c n : Int) (w : World) (hl : l.length ≤ maxLen) (h : StepsAt w a l) (hbad : chk l c ≠ 0) :
    Calls Tryz.prog 95 #[.agg #[.slice a l.length cap, .int .i64 c], .int .i64 n] w (NextGives w l c n) := by
  have hn : Hid (nxt l c n = ([], 0, chk l c)) := by show _ = _; unfold nxt; rw [if_pos hbad]
  have hx : (chk l c != 0) = true := by rw [bne_iff_ne]; exact hbad
  clear hbad
  go_enter Tryz.func95, Tryz.ntmps95
  go_wp2_with (go_at_call 50; refine (checkMark_any _ _ _ _ _ hl (by exact h.below (((Below.refl _ _).alloc (Nat.le_refl _) _).alloc (by simp) _) (Nat.le_refl _))).mono ?_; rintro e w' ⟨rfl, hb⟩; obtain ⟨hcc, hff⟩ := bcellN hb (w.heap.size + 2) (by simp))
  refine bodyPost_ret (v := .tuple #[.agg #[.slice none 0 0, .int .i64 0], .int .i64 (chk l c)]) (by simp [results, Tryz.results95, go_sem, hcc]) rfl ?_
  refine ⟨none, 0, by rw [hn.out]; rfl, Or.inl (by rw [hn.out]), ?_⟩
  exact ((((Below.refl _ _).alloc (Nat.le_refl _) _).alloc (by simp) _).thru hb (by simp; omega)).setCell (by simp) _ |>.setCell (by simp) _

set_option maxHeartbeats 1000000 in
theorem nextOf_range (a : Option Addr) (cap : Nat) (l : List (Int × Int)) (c n : Int) (w : World) (hl : l.length ≤ maxLen) (h : StepsAt w a l) (hok : chk l c = 0) (hr : n < 0 ∨ 60 < n) :
    Calls Tryz.prog 95 #[.agg #[.slice a l.length cap, .int .i64 c], .int .i64 n] w (NextGives w l c n) := by
  have hn : Hid (nxt l c n = ([], 0, 3)) := by show _ = _; unfold nxt; rw [if_neg (by omega), if_pos hr]
  have H0 : Hid (chk l c = 0) := hok
  have HI : Hid (inB n 0 60 = false) := by show _ = _; rw [Bool.eq_false_iff]; intro e; simp [inB] at e; omega
  clear hok hr
  go_enter Tryz.func95, Tryz.ntmps95
  go_wp2_with (first | (go_at_call 50; refine (checkMark_any _ _ _ _ _ hl (by exact h.below (((Below.refl _ _).alloc (Nat.le_refl _) _).alloc (by simp) _) (Nat.le_refl _))).mono ?_; rintro e w' ⟨rfl, hb⟩; rw [H0.out]; obtain ⟨hcc, hff⟩ := bcellN hb (w.heap.size + 2) (by simp)) | (go_at_call 53; refine (between_any _ _ _ _).mono ?_; rintro e w'' ⟨rfl, rfl⟩; rw [HI.out]))
  refine bodyPost_ret (v := .tuple #[.agg #[.slice none 0 0, .int .i64 0], .int .i64 3]) (by simp [results, Tryz.results95, go_sem, hcc]) rfl ?_
  refine ⟨none, 0, by rw [hn.out]; rfl, Or.inl (by rw [hn.out]), ?_⟩
  exact ((((Below.refl _ _).alloc (Nat.le_refl _) _).alloc (by simp) _).thru hb (by simp; omega)).setCell (by simp) _ |>.setCell (by simp) _

set_option maxRecDepth 100000 in
set_option maxHeartbeats 1000000 in
theorem nextOf_in (b off : Nat) (cap : Nat) (l : List (Int × Int)) (c n : Int) (w : World) (h : StepsAt w (some ⟨b, off, none⟩) l) (hok : chk l c = 0) (h0 : 0 ≤ n) (h60 : n ≤ 60) :
    Calls Tryz.prog 95 #[.agg #[.slice (some ⟨b, off, none⟩) l.length cap, .int .i64 c], .int .i64 n] w (NextGives w l c n) := by
  have hn : Hid (nxt l c n = if chk (bump l n) (c + n) ≠ 0 then ([], 0, 3) else (bump l n, c + n, 0)) := by show _ = _; unfold nxt; rw [if_neg (by omega), if_neg (by omega)]
  obtain ⟨hl0, hl10, _, _, hc1, hc2⟩ := chk_ok hok
  have H0 : Hid (chk l c = 0) := hok
  have HI : Hid (inB n 0 60 = true) := by show _ = _; simp [inB]; omega
  have hml : l.length ≤ maxLen := by unfold maxLen; omega
  have HLB : Hid ((bump l n).length = l.length) := by show _ = _; unfold bump setL; simp
  have hmlb : (bump l n).length ≤ maxLen := by rw [HLB.out]; exact hml
  clear hok
  obtain ⟨q0, q1, q3, q4, hz, hb1⟩ := boxes2 w (.slice (some ⟨b, off, none⟩) l.length cap) (.int .i64 c) (.slice none 0 0) (.int .i64 0) 46 46
  have q2 : ∀ o, ((w.alloc (Obj.cells #[.slice (some ⟨b, off, none⟩) l.length cap, .int .i64 c] 46)).alloc (Obj.cells #[.slice none 0 0, .int .i64 0] 46)).frozen? ⟨w.heap.size + 1, o, none⟩ = false := by intro o; go_simp
  go_enter Tryz.func95, Tryz.ntmps95
  go_upto_region 1 with fail
  generalize (w.alloc (Obj.cells #[.slice (some ⟨b, off, none⟩) l.length cap, .int .i64 c] 46)).alloc (Obj.cells #[.slice none 0 0, .int .i64 0] 46) = w1 at q0 q1 q2 q3 q4 hz hb1 ⊢
  have z1 : w.heap.size < w1.heap.size := by omega
  have z2 : w.heap.size + 1 < w1.heap.size := by omega
  clear hz
  go_wp2_with fail
  refine (checkMark_any _ _ l _ _ hml (h.below hb1 (Nat.le_refl _))).mono ?_
  rintro e w2 ⟨rfl, hb2⟩
  rw [H0.out]
  have p0 := (hb2.cell (p := ⟨w.heap.size, 0, none⟩) z1).trans q0
  have p1 := (hb2.cell (p := ⟨w.heap.size, 1, none⟩) z1).trans q1
  go_wp2_with fail
  refine (between_any _ _ _ _).mono ?_
  rintro e w2' ⟨rfl, rfl⟩
  rw [HI.out]
  go_wp2_with fail
  have hbb := hb1.thru hb2 hb1.size
  refine (afterOf_any b off _ l c n _ (h.below hbb (Nat.le_refl _)) H0.out h0 h60).mono ?_
  rintro e w3 ⟨g, cap2, rfl, hs3, hb3, _⟩
  have hb4 : Below w1.heap.size w1 (w3.alloc (Obj.cells #[.slice (some ⟨g, 0, none⟩) l.length cap2, .int .i64 (c + n)] 46)) := (hb2.thru hb3 hb2.size).alloc (Nat.le_trans hb2.size hb3.size) _
  have n0 : (w3.alloc (Obj.cells #[.slice (some ⟨g, 0, none⟩) l.length cap2, .int .i64 (c + n)] 46)).cell? ⟨w3.heap.size, 0, none⟩ = some (.slice (some ⟨g, 0, none⟩) l.length cap2) := by go_simp
  have n1 : (w3.alloc (Obj.cells #[.slice (some ⟨g, 0, none⟩) l.length cap2, .int .i64 (c + n)] 46)).cell? ⟨w3.heap.size, 1, none⟩ = some (.int .i64 (c + n)) := by go_simp
  have zN : w3.heap.size < (w3.alloc (Obj.cells #[.slice (some ⟨g, 0, none⟩) l.length cap2, .int .i64 (c + n)] 46)).heap.size := by simp
  have hs4 := hs3.below ((Below.refl _ w3).alloc (Nat.le_refl _) (Obj.cells #[.slice (some ⟨g, 0, none⟩) l.length cap2, .int .i64 (c + n)] 46)) (Nat.le_refl _)
  have gnz : g ≠ w.heap.size + 1 := by
    intro e
    rcases id hs3 with h1 | ⟨b1, o1, he, _, hc1⟩
    · have := HLB.out; rw [h1] at this; simp at this; omega
    · simp only [Option.some.injEq, Addr.mk.injEq] at he
      obtain ⟨rfl, rfl, _⟩ := he
      have hx := (hc1 0 (by rw [HLB.out]; exact hl0)).1
      rw [Nat.zero_mul, Nat.add_zero, e, (hb2.thru hb3 hb2.size).cell (p := ⟨w.heap.size + 1, 0, none⟩) z2, q3] at hx
      simp at hx
  clear hs3 hb3 hb2 p0 p1
  go_wp2_with fail
  generalize w3.alloc (Obj.cells #[.slice (some ⟨g, 0, none⟩) l.length cap2, .int .i64 (c + n)] 46) = V at hb4 n0 n1 zN hs4 ⊢
  refine (checkMark_n _ _ _ (bump l n) _ _ HLB.out.symm hmlb hs4).mono ?_
  rintro e w5 ⟨rfl, hb5⟩
  have hb6 := hb4.thru hb5 hb4.size
  have m0 := (hb5.cell (p := ⟨w3.heap.size, 0, none⟩) zN).trans n0
  have m1 := (hb5.cell (p := ⟨w3.heap.size, 1, none⟩) zN).trans n1
  have y2 := (hb6.cell (p := ⟨w.heap.size + 1, 0, none⟩) z2).trans q3
  have y3 := (hb6.cell (p := ⟨w.heap.size + 1, 1, none⟩) z2).trans q4
  have y4 : ∀ o, w5.frozen? ⟨w.heap.size + 1, o, none⟩ = false := fun o => (hb6.frozen (p := ⟨w.heap.size + 1, o, none⟩) z2).trans (q2 o)
  have hs5 := hs4.below hb5 (Nat.le_refl _)
  clear q0 q1 q2 q3 q4 n0 n1 hs4 hb5
  by_cases hk : chk (bump l n) (c + n) = 0
  · have hn' : Hid (nxt l c n = (bump l n, c + n, 0)) := by show _ = _; rw [hn.out, if_neg (by omega)]
    rw [hk]
    clear hk
    go_wp2_with fail
    refine bodyPost_ret (v := .tuple #[.agg #[.slice (some ⟨g, 0, none⟩) l.length cap2, .int .i64 (c + n)], .int .i64 0]) (by simp [results, Tryz.results95, go_sem, y2, y3]) rfl ?_
    refine ⟨some ⟨g, 0, none⟩, cap2, by rw [hn'.out]; show _ = Ending.returned (.tuple #[.agg #[.slice _ (bump l n).length _, _], _]); rw [HLB.out], ?_, ?_⟩
    · rw [hn'.out]
      exact (hs5.setOld gnz).setOld gnz
    · exact ((hb1.thru hb6 hb1.size).setCell (by simp) _).setCell (by simp) _
  · have hn' : Hid (nxt l c n = ([], 0, 3)) := by show _ = _; rw [hn.out, if_pos hk]
    have hk' : (chk (bump l n) (c + n) != 0) = true := by rw [bne_iff_ne]; exact hk
    clear hk
    go_wp2_with fail
    refine bodyPost_ret (v := .tuple #[.agg #[.slice none 0 0, .int .i64 0], .int .i64 3]) (by simp [results, Tryz.results95, go_sem, y2, y3]) rfl ?_
    refine ⟨none, 0, by rw [hn'.out]; rfl, Or.inl (by rw [hn'.out]), ?_⟩
    exact ((hb1.thru hb6 hb1.size).setCell (by simp) _).setCell (by simp) _

theorem nextOf_any (a : Option Addr) (cap : Nat) (l : List (Int × Int)) (c n : Int) (w : World) (hl : l.length ≤ maxLen) (h : StepsAt w a l) :
    Calls Tryz.prog 95 #[.agg #[.slice a l.length cap, .int .i64 c], .int .i64 n] w (NextGives w l c n) := by
  by_cases hok : chk l c = 0
  · by_cases hr : n < 0 ∨ 60 < n
    · exact nextOf_range a cap l c n w hl h hok hr
    · rcases id h with hs | ⟨b, off, rfl, _⟩
      · have := (chk_ok hok).1
        simp [hs] at this
      · exact nextOf_in b off cap l c n w h hok (by omega) (by omega)
  · exact nextOf_bad a cap l c n w hl h hok
end Go.Proofs.YtnhjebdlcbhkcacGreat
