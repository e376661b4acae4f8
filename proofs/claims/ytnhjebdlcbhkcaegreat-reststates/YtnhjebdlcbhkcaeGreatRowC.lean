/- Contracts of slices.Grow and slices.Concat at steps. -/
import Derived.Test.YtnhjebdlcbhkcaeGreatFindG
import Derived.Lib.AppendZeros
namespace Go.Proofs.YtnhjebdlcbhkcaeGreat
open Go.RowKit

set_option maxRecDepth 100000 in
set_option maxHeartbeats 1000000 in
theorem growNil_any (n : Nat) (w : World) (h0 : 0 < n) (hn : n ≤ 1000) :
    Calls Tryz.prog 243 #[.slice none 0 0, .int .i64 n] w fun e w' => ∃ G, e = .returned (.slice (some ⟨w.heap.size, 0, none⟩) 0 G) ∧ w'.ownsRow w.heap.size 124 2 (.slice (some ⟨w.heap.size, 0, none⟩) 0 G) 0 [] ∧ Below w.heap.size w w' := by
  obtain ⟨i0, hi, hz0, hz1, hz2⟩ := Tryz.info124
  have hrz : ∀ ty, _ := fun ty => Lib.run_append_nil_zeros (P := Tryz.prog) w 40 3 ty 124 i0 _ .i64 .i64 Tryz.underlying40 Tryz.underlying3 hi hz0 n h0 (by rw [hz1]; decide) (by omega) (by rw [hz2]; omega)
  have hcap := grownCap_ge w n 0 124
  have hcapm := grownCap_le_maxLen w n 0 124 (by unfold maxLen; omega)
  generalize grownCap w n 0 124 = G at hrz hcap hcapm
  have hcapm' : G ≤ 9223372036854775807 := by unfold maxLen at hcapm; exact hcapm
  have hz : (Value.agg #[.int .i64 0, .int .i64 0]).cells.size = 2 := rfl
  go_enter Tryz.func243, Tryz.ntmps243
  go_wp2_with (at_builtin; refine Lib.wpList_append_run _ rfl _ _ _ _ rfl _ _ rfl rfl _ _ (hrz _) ?_)
  go_ret
  refine ⟨G, rfl, (World.ownsRow_made w _ G (Nat.le_refl _) hcapm ?_).drew, ((Below.refl _ _).alloc (Nat.le_refl _) _).drew⟩
  simp only [Array.size_append, size_zeroCells, List.size_toArray, List.length_cons, List.length_nil]
  omega

set_option maxRecDepth 100000 in
set_option maxHeartbeats 1000000 in
theorem concat_any (B b o b' o' c c' : Nat) (l m : List (Int × Int)) (w : World) (hl : l.length ≤ 10) (hm0 : 0 < m.length) (hm : m.length ≤ 10) (hB : B < w.heap.size)
   (h0 : w.cell? ⟨B, 0, none⟩ = some (.slice (some ⟨b, o, none⟩) l.length c)) (h1 : w.cell? ⟨B, 1, none⟩ = some (.slice (some ⟨b', o', none⟩) m.length c'))
   (hs : StepsAt w (some ⟨b, o, none⟩) l) (hs' : StepsAt w (some ⟨b', o', none⟩) m) :
    Calls Tryz.prog 205 #[.slice (some ⟨B, 0, none⟩) 2 2] w fun e w' => ∃ g cap, e = .returned (.slice (some ⟨g, 0, none⟩) (l.length + m.length) cap) ∧ w'.ownsRow w.heap.size 124 2 (.slice (some ⟨g, 0, none⟩) (l.length + m.length) cap) (l.length + m.length) (flatS (l ++ m)) ∧ Below w.heap.size w w' := by
  obtain ⟨i0, hi, hz0, hz1, hz2⟩ := Tryz.info124
  go_enter Tryz.func205, Tryz.ntmps205
  go_wp2
  go_loop [11, 3] (fun i t => ∃ k : Nat, k ≤ 2 ∧ i = .int .i64 k ∧ ∃ z : Int, t = .int .i64 z ∧ (k = 0 → z = 0) ∧ (k = 1 → z = l.length) ∧ (k = 2 → z = l.length + m.length)) (fun i _ => 2 - (intOf i).toNat)
  case atStart => exact ⟨0, by omega, rfl, 0, rfl, by omega, by omega, by omega⟩
  case round =>
    obtain ⟨k, hk, rfl, z, rfl, z0, z1, z2⟩ := hrel
    rcases (show k = 0 ∨ k = 1 ∨ k = 2 by omega) with rfl | rfl | rfl
    · have e0 := z0 rfl
      subst e0
      clear z0 z1 z2
      have e1 : ¬ ((l.length : Int) < 0) := by omega
      go_wp2
      go_round
      case rel => exact ⟨1, by omega, by go_num, _, rfl, by omega, by omega, by omega⟩
      case measure => simp [intOf]
    · have e0 := z1 rfl
      subst e0
      clear z0 z1 z2
      have e1 : ¬ ((l.length : Int) + m.length < 0) := by omega
      go_wp2
      go_round
      case rel => exact ⟨2, by omega, by go_num, _, rfl, by omega, by omega, by omega⟩
      case measure => simp [intOf]
    · have e0 := z2 rfl
      subst e0
      clear z0 z1 z2
      go_wp2_with fail
      rw [show ((l.length : Int) + m.length) = ((l.length + m.length : Nat) : Int) by omega]
      refine (growNil_any (l.length + m.length) _ (by omega) (by omega)).mono ?_
      rintro e w1 ⟨G, rfl, hown, hb1⟩
      go_wp2
      go_loopw [27, 6] (fun i v wr => ∃ k : Nat, k ≤ 2 ∧ i = .int .i64 k ∧ Below w.heap.size w wr ∧ v ≠ .slice none 0 0 ∧ ((k = 0 ∧ wr.ownsRow w.heap.size 124 2 v 0 []) ∨ (k = 1 ∧ wr.ownsRow w.heap.size 124 2 v l.length (flatS l)) ∨ (k = 2 ∧ wr.ownsRow w.heap.size 124 2 v (l.length + m.length) (flatS (l ++ m))))) (fun i _ _ => 2 - (intOf i).toNat)
      case atStart => exact ⟨0, by omega, rfl, hb1, by simp, Or.inl ⟨rfl, hown⟩⟩
      case round =>
        obtain ⟨k, hk2, rfl, hbr, hnn, hcase⟩ := hrel
        have c0 := (hbr.cell (p := ⟨B, 0, none⟩) hB).trans h0
        have c1 := (hbr.cell (p := ⟨B, 1, none⟩) hB).trans h1
        have s0 := (hs.below hbr (Nat.le_refl _)).cells
        have s1 := (hs'.below hbr (Nat.le_refl _)).cells
        rcases hcase with ⟨rfl, hown1⟩ | ⟨rfl, hown1⟩ | ⟨rfl, hown1⟩
        · have A : Hid (∀ j u, (flatS l)[j]? = some u → wr.cell? ⟨b, o + j, none⟩ = some u) := s0
          have HN : Hid (u6 ≠ .slice none 0 0) := hnn
          clear s0 s1 hnn
          go_wp2_with (at_builtin; refine wpList_append_own _ rfl _ _ 40 rfl w.heap.size 124 i0 (.agg #[.int .i64 0, .int .i64 0]) 2 16 Tryz.underlying40 hi hz0 hz1 hz2 rfl (by decide) _ _ _ rfl hown1 ⟨b, o, none⟩ l.length c (flatS l) rfl ?qc1 ?qc2 ?qc3 ?qc4 ?qc5 ?qc6 ?_)
          case qc1 => exact flatS_length l
          case qc2 =>
            intro j u hj
            rw [Addr.add_lit]
            exact A.out j u hj
          case qc3 => exact flatS_one l
          case qc4 => unfold maxLen; omega
          case qc5 => omega
          case qc6 => exact hbr.size
          intro v' w2 hown2 hgrow hnil
          go_wp2
          go_roundw
          case rel =>
            refine ⟨1, by omega, by go_num, hbr.grown hgrow hbr.size (fun k hk => (hown1.lt k hk).1), ?_, Or.inr (Or.inl ⟨rfl, by simpa using hown2⟩)⟩
            intro e; exact HN.out (hnil.1 e).1
          case measure => simp [intOf]
        · have A : Hid (∀ j u, (flatS m)[j]? = some u → wr.cell? ⟨b', o' + j, none⟩ = some u) := s1
          have HN : Hid (u6 ≠ .slice none 0 0) := hnn
          clear s0 s1 hnn
          go_wp2_with (at_builtin; refine wpList_append_own _ rfl _ _ 40 rfl w.heap.size 124 i0 (.agg #[.int .i64 0, .int .i64 0]) 2 16 Tryz.underlying40 hi hz0 hz1 hz2 rfl (by decide) _ _ _ rfl hown1 ⟨b', o', none⟩ m.length c' (flatS m) rfl ?qc1 ?qc2 ?qc3 ?qc4 ?qc5 ?qc6 ?_)
          case qc1 => exact flatS_length m
          case qc2 =>
            intro j u hj
            rw [Addr.add_lit]
            exact A.out j u hj
          case qc3 => exact flatS_one m
          case qc4 => unfold maxLen; omega
          case qc5 => omega
          case qc6 => exact hbr.size
          intro v' w2 hown2 hgrow hnil
          go_wp2
          go_roundw
          case rel =>
            refine ⟨2, by omega, by go_num, hbr.grown hgrow hbr.size (fun k hk => (hown1.lt k hk).1), ?_, Or.inr (Or.inr ⟨rfl, by rw [flatS_append]; exact hown2⟩)⟩
            intro e; exact HN.out (hnil.1 e).1
          case measure => simp [intOf]
        · have HN : Hid (u6 ≠ .slice none 0 0) := hnn
          clear s0 s1 hnn
          go_wp2
          go_ret
          have h2 := hown1.2
          rcases h2 with ⟨h2, _⟩ | ⟨g, cap, cur, hv, _⟩
          · exact absurd h2 HN.out
          · subst hv
            exact ⟨g, cap, rfl, hown1, hbr⟩
end Go.Proofs.YtnhjebdlcbhkcaeGreat

namespace Go.Proofs.YtnhjebdlcbhkcaeGreat
open Go.RowKit

theorem owns_cap {w : World} {base : Nat} {e : TypeId} {size : Nat} {p : Option Addr} {n c m : Nat} {xs : List Value} (h : w.ownsRow base e size (.slice p n c) m xs) : m ≤ c := by
  rcases h.2 with ⟨h1, h0⟩ | ⟨g, cap, cur, h1, _, _, hc, _⟩
  · omega
  · simp at h1; omega

structure RowM (w : World) (O many k : Nat) (pl : List (Int × Int)) (digit site clock : Int) : Prop where
  lt : O < w.heap.size
  has : ∀ j, j < many → (∃ v, w.cell? ⟨O, j * 2, none⟩ = some v) ∧ (∃ v, w.cell? ⟨O, j * 2 + 1, none⟩ = some v)
  free : ∀ o, w.frozen? ⟨O, o, none⟩ = false
  done : ∀ j, j < k → ∃ g cap, w.cell? ⟨O, j * 2, none⟩ = some (.slice (some ⟨g, 0, none⟩) (pl.length + 1) cap) ∧ w.cell? ⟨O, j * 2 + 1, none⟩ = some (.int .i64 (clock + j)) ∧ g ≠ O ∧ StepsAt w (some ⟨g, 0, none⟩) (pl ++ [(digit + j, site)]) ∧ pl.length + 1 ≤ cap

theorem RowM.below {w w' : World} {O many k : Nat} {pl : List (Int × Int)} {digit site clock : Int} {B : Nat} (h : RowM w O many k pl digit site clock) (hb : Below B w w') (hB : w.heap.size ≤ B) : RowM w' O many k pl digit site clock := by
  have hO : O < B := Nat.lt_of_lt_of_le h.lt hB
  refine ⟨Nat.lt_of_lt_of_le h.lt hb.size, fun j hj => ?_, fun o => (hb.frozen (p := ⟨O, o, none⟩) hO).trans (h.free o), fun j hj => ?_⟩
  · obtain ⟨⟨v, hv⟩, u, hu⟩ := h.has j hj
    exact ⟨⟨v, (hb.cell (p := ⟨O, j * 2, none⟩) hO).trans hv⟩, u, (hb.cell (p := ⟨O, j * 2 + 1, none⟩) hO).trans hu⟩
  · obtain ⟨g, cap, h1, h2, h3, h4, h5⟩ := h.done j hj
    exact ⟨g, cap, (hb.cell (p := ⟨O, j * 2, none⟩) hO).trans h1, (hb.cell (p := ⟨O, j * 2 + 1, none⟩) hO).trans h2, h3, h4.below hb hB, h5⟩

theorem RowM.put {w : World} {O many k : Nat} {pl : List (Int × Int)} {digit site clock : Int} (h : RowM w O many k pl digit site clock) (hk : k < many) {g cap : Nat} (hg : g ≠ O) (hs : StepsAt w (some ⟨g, 0, none⟩) (pl ++ [(digit + k, site)])) (hcp : pl.length + 1 ≤ cap) :
    RowM ((w.setCell ⟨O, k * 2, none⟩ (.slice (some ⟨g, 0, none⟩) (pl.length + 1) cap)).setCell ⟨O, k * 2 + 1, none⟩ (.int .i64 (clock + k))) O many (k + 1) pl digit site clock := by
  obtain ⟨⟨v0, hv0⟩, v1, hv1⟩ := h.has k hk
  refine ⟨by simpa [World.setCell] using h.lt, fun j hj => ?_, fun o => by rw [World.frozen?_setCell, World.frozen?_setCell]; exact h.free o, fun j hj => ?_⟩
  · obtain ⟨⟨v, hv⟩, u, hu⟩ := h.has j hj
    obtain ⟨v', hv'⟩ := cellSome_set (a := ⟨O, k * 2, none⟩) (u := .slice (some ⟨g, 0, none⟩) (pl.length + 1) cap) hv
    obtain ⟨u', hu'⟩ := cellSome_set (a := ⟨O, k * 2, none⟩) (u := .slice (some ⟨g, 0, none⟩) (pl.length + 1) cap) hu
    exact ⟨cellSome_set hv', cellSome_set hu'⟩
  · by_cases e : j = k
    · subst e
      refine ⟨g, cap, ?_, ?_, hg, (hs.setOld hg).setOld hg, hcp⟩
      · rw [World.cell?_setCell_other _ _ _ _ (by simp)]
        exact World.cell?_setCell_same _ _ _ hv0
      · obtain ⟨u', hu'⟩ := cellSome_set (a := ⟨O, j * 2, none⟩) (u := .slice (some ⟨g, 0, none⟩) (pl.length + 1) cap) hv1
        exact World.cell?_setCell_same _ _ _ hu'
    · obtain ⟨g', cap', h1, h2, h3, h4, h5⟩ := h.done j (by omega)
      refine ⟨g', cap', ?_, ?_, h3, (h4.setOld h3).setOld h3, h5⟩
      · rw [World.cell?_setCell_other _ _ _ _ (by intro e; have := congrArg Addr.off e; simp at this; omega), World.cell?_setCell_other _ _ _ _ (by intro e; have := congrArg Addr.off e; simp at this; omega)]; exact h1
      · rw [World.cell?_setCell_other _ _ _ _ (by intro e; have := congrArg Addr.off e; simp at this; omega), World.cell?_setCell_other _ _ _ _ (by intro e; have := congrArg Addr.off e; simp at this; omega)]; exact h2

def rowOf (pl : List (Int × Int)) (digit site clock : Int) (many : Nat) : List (List (Int × Int) × Int) := (List.range many).map fun (i : Nat) => (pl ++ [(digit + (i : Int), site)], clock + (i : Int))
theorem RowM.marks {w : World} {O many : Nat} {pl : List (Int × Int)} {digit site clock : Int} (h : RowM w O many many pl digit site clock) (hl : pl.length ≤ 1000) : MarksAt w (some ⟨O, 0, none⟩) (rowOf pl digit site clock many) := by
  refine Or.inr ⟨O, 0, rfl, h.lt, fun i hi => ?_⟩
  have hi' : i < many := by simpa [rowOf] using hi
  obtain ⟨g, cap, h1, h2, h3, h4, _⟩ := h.done i hi'
  simp only [rowOf, List.getElem_map, List.getElem_range]
  rw [Nat.zero_add]
  exact ⟨some ⟨g, 0, none⟩, cap, by rw [h1]; simp, h2, h4, by simp [maxLen]; omega⟩

def CapsM (w : World) (O : Nat) (ms : List (List (Int × Int) × Int)) : Prop := ∀ i (h : i < ms.length), ∃ p cap, w.cell? ⟨O, 0 + i * 2, none⟩ = some (.slice p ms[i].1.length cap) ∧ ms[i].1.length ≤ cap
theorem RowM.caps {w : World} {O many : Nat} {pl : List (Int × Int)} {digit site clock : Int} (h : RowM w O many many pl digit site clock) : CapsM w O (rowOf pl digit site clock many) := by
  intro i hi
  have hi' : i < many := by simpa [rowOf] using hi
  obtain ⟨g, cap, h1, _, _, _, h5⟩ := h.done i hi'
  simp only [rowOf, List.getElem_map, List.getElem_range]
  rw [Nat.zero_add]
  exact ⟨some ⟨g, 0, none⟩, cap, by rw [h1]; simp, by simpa using h5⟩

theorem Tryz.info42 : ∃ i, Tryz.prog.info? 42 = some i ∧ i.zero = some (.agg #[.slice none 0 0, .int .i64 0]) ∧ i.size = 2 ∧ i.bytes = 32 := by
  have h : (Tryz.prog.info? 42).map (fun i => (i.zero, i.size, i.bytes)) = some (some (.agg #[.slice none 0 0, .int .i64 0]), 2, 32) := by kernel_rfl
  rw [Option.map_eq_some_iff] at h
  obtain ⟨i, hi, he⟩ := h
  simp only [Prod.mk.injEq] at he
  exact ⟨i, hi, he⟩

theorem rowM_new (w : World) (many : Nat) (pl : List (Int × Int)) (digit site clock : Int) (cs : Array Value) (hc : cs.size = many * 2) : RowM (w.alloc (.cells cs 42)) w.heap.size many 0 pl digit site clock := by
  refine ⟨by simp, fun j hj => ?_, fun o => by go_simp, fun j hj => by omega⟩
  rw [World.cell?_alloc_new, World.cell?_alloc_new]
  exact ⟨⟨cs[j * 2], by rw [Array.getElem?_eq_getElem]⟩, cs[j * 2 + 1], by rw [Array.getElem?_eq_getElem]⟩

set_option maxRecDepth 100000 in
set_option maxHeartbeats 1000000 in
theorem row_any (P cp many : Nat) (pl : List (Int × Int)) (digit site clock : Int) (w : World) (hpl : pl.length ≤ 10) (hs : StepsAt w (some ⟨P, 0, none⟩) pl) (hm : many ≤ 60) (hd : 0 ≤ digit) (hd' : digit ≤ 1000) (hc : 0 ≤ clock) (hc' : clock ≤ 20000) :
    Calls Tryz.prog 150 #[.slice (some ⟨P, 0, none⟩) pl.length cp, .agg #[.int .i64 digit, .int .i64 site], .int .i64 clock, .int .i64 many] w fun e w' => ∃ O, e = .returned (.slice (some ⟨O, 0, none⟩) many many) ∧ MarksAt w' (some ⟨O, 0, none⟩) (rowOf pl digit site clock many) ∧ CapsM w' O (rowOf pl digit site clock many) ∧ Below w.heap.size w w' := by
  obtain ⟨i0, hi, hz0, hz1, hz2⟩ := Tryz.info42
  have hmk : ∀ w : World, (Instr.makeSlice 23 (.int .i64 many) (.int .i64 many)).run Tryz.prog w = .ok (.slice (some ⟨w.heap.size, 0, none⟩) many many) (w.alloc (.cells (madeCells #[.slice none 0 0, .int .i64 0] (many * 2)) 42)) := by
    intro w
    have := run_make (P := Tryz.prog) w 23 42 i0 _ Tryz.underlying23 hi hz0 .i64 .i64 many many (by omega) (Int.le_refl _) (by rw [hz2]; omega) (by omega)
    rw [hz1] at this
    simp only [Int.toNat_natCast] at this
    exact this
  have hsz := size_madeCells #[.slice none 0 0, .int .i64 0] (many * 2)
  generalize madeCells #[.slice none 0 0, .int .i64 0] (many * 2) = Z at hmk hsz
  go_enter Tryz.func150, Tryz.ntmps150
  go_wp2
  have hb0 : Below w.heap.size w ((w.alloc (Obj.cells #[.int .i64 digit, .int .i64 site] 124)).alloc (Obj.cells Z 42)) := ((Below.refl _ _).alloc (Nat.le_refl _) _).alloc (by simp) _
  have q0 : ((w.alloc (Obj.cells #[.int .i64 digit, .int .i64 site] 124)).alloc (Obj.cells Z 42)).cell? ⟨w.heap.size, 0, none⟩ = some (.int .i64 digit) := by go_simp
  have q1 : ((w.alloc (Obj.cells #[.int .i64 digit, .int .i64 site] 124)).alloc (Obj.cells Z 42)).cell? ⟨w.heap.size, 1, none⟩ = some (.int .i64 site) := by go_simp
  have hz : ((w.alloc (Obj.cells #[.int .i64 digit, .int .i64 site] 124)).alloc (Obj.cells Z 42)).heap.size = w.heap.size + 2 := by simp
  have hR := rowM_new (w.alloc (Obj.cells #[.int .i64 digit, .int .i64 site] 124)) many pl digit site clock Z hsz
  rw [show (w.alloc (Obj.cells #[.int .i64 digit, .int .i64 site] 124)).heap.size = w.heap.size + 1 by simp] at hR
  generalize (w.alloc (Obj.cells #[.int .i64 digit, .int .i64 site] 124)).alloc (Obj.cells Z 42) = W at hb0 q0 q1 hz hR ⊢
  have hz' : w.heap.size + 2 ≤ W.heap.size := by omega
  clear hz hmk hsz
  go_loopw [16] (fun i wr => ∃ k : Nat, k ≤ many ∧ i = .int .i64 k ∧ RowM wr (w.heap.size + 1) many k pl digit site clock ∧ Below w.heap.size w wr ∧ wr.cell? ⟨w.heap.size, 0, none⟩ = some (.int .i64 digit) ∧ wr.cell? ⟨w.heap.size, 1, none⟩ = some (.int .i64 site) ∧ w.heap.size + 2 ≤ wr.heap.size) (fun i _ => many - (intOf i).toNat)
  case atStart => exact ⟨0, Nat.zero_le _, rfl, hR, hb0, q0, q1, hz'⟩
  case round =>
    clear hR hb0 q0 q1 hz'
    obtain ⟨k, hk, rfl, hR, hb, q0, q1, hz⟩ := hrel
    have hsr := hs.below hb (Nat.le_refl _)
    by_cases hlt : k < many
    · have hi1 : (k : Int) < many := by omega
      have hne : w.heap.size ≠ wr.heap.size := by omega
      have hV : ∀ X Y : Obj, Below wr.heap.size wr (((wr.alloc X).alloc (Obj.cells #[.int .i64 (digit + k), .int .i64 site] 124)).alloc Y) := fun X Y => (((Below.refl _ _).alloc (Nat.le_refl _) _).alloc (by simp) _).alloc (by simp; omega) _
      have hS : ∀ X Y : Obj, StepsAt (((wr.alloc X).alloc (Obj.cells #[.int .i64 (digit + k), .int .i64 site] 124)).alloc Y) (some ⟨wr.heap.size + 1, 0, none⟩) [(digit + k, site)] := fun X Y => by
        have := (stepsAt_new (wr.alloc X) [(digit + k, site)]).below ((Below.refl _ _).alloc (Nat.le_refl _) Y) (Nat.le_refl _)
        simpa [flatS] using this
      have HV := hidE hV
      have HS := hidE hS
      clear hV hS
      go_wp2_with fail
      refine (concat_any _ P 0 (wr.heap.size + 1) 0 cp 1 pl [(digit + k, site)] _ hpl (by simp) (by simp) (by simp) (by go_simp) (by go_simp) (hsr.below (HV.out _ _) (Nat.le_refl _)) (HS.out _ _)).mono ?_
      rintro e w1 ⟨g, cap, rfl, hown, hb1⟩
      have hb2 : Below wr.heap.size wr w1 := (HV.out _ _).thru hb1 (HV.out _ _).size
      have hs1 := stepsAt_owns hown (by simp)
      have hR1 := hR.below hb2 (Nat.le_refl _)
      have hgO : w.heap.size + 1 ≠ g := by have := (hown.lt g rfl).1; simp at this; omega
      have hn1 : pl.length + [(digit + (k : Int), site)].length = pl.length + 1 := by simp
      have o0 := (hR1.has k hlt).1
      have o1 := (hR1.has k hlt).2
      obtain ⟨v0, o0⟩ := o0
      obtain ⟨v1, o1⟩ := o1
      have of := hR1.free
      have hcp : pl.length + 1 ≤ cap := by
        have := owns_cap hown
        simpa using this
      have hR2 := hR1.put (cap := cap) hlt (fun e => hgO e.symm) hs1 hcp
      clear hcp
      have hz1 : w.heap.size + 2 ≤ w1.heap.size := Nat.le_trans hz hb2.size
      have t0 := (hb2.cell (p := ⟨w.heap.size, 0, none⟩) (show w.heap.size < wr.heap.size by omega)).trans q0
      have t1 := (hb2.cell (p := ⟨w.heap.size, 1, none⟩) (show w.heap.size < wr.heap.size by omega)).trans q1
      have hb3 : Below w.heap.size w w1 := hb.thru hb2 hb.size
      rw [hn1]
      clear hown hb1 hb2 hb hR HV HS hsr q0 q1 hn1
      go_wp2
      go_roundw
      case rel =>
        exact ⟨k + 1, by omega, by go_num, hR2, (hb3.setCell (by simp) _).setCell (by simp) _, cell_other (by omega) (cell_other (by omega) t0), cell_other (by omega) (cell_other (by omega) t1), by simpa [World.setCell] using hz1⟩
      case measure => simp [intOf]; omega
    · have hkm : k = many := by omega
      subst hkm
      clear hlt
      go_wp2
      go_ret
      exact ⟨_, rfl, hR.marks (by omega), hR.caps, hb⟩
end Go.Proofs.YtnhjebdlcbhkcaeGreat
