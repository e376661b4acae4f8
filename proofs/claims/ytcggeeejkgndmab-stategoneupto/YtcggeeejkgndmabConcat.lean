/- Contracts of slices.Grow and slices.Concat at steps. -/
import Derived.Test.YtcggeeejkgndmabFindG
import Derived.Lib.AppendZeros
namespace Go.Proofs.Ytcggeeejkgndmab
open Go.RowKit

set_option maxRecDepth 100000 in
set_option maxHeartbeats 1000000 in
theorem growNil_any (n : Nat) (w : World) (h0 : 0 < n) (hn : n ≤ 1000) :
    Calls Try.prog 115 #[.slice none 0 0, .int .i64 n] w fun e w' => ∃ G, e = .returned (.slice (some ⟨w.heap.size, 0, none⟩) 0 G) ∧ w'.ownsRow w.heap.size 88 2 (.slice (some ⟨w.heap.size, 0, none⟩) 0 G) 0 [] ∧ Below w.heap.size w w' := by
  obtain ⟨i0, hi, hz0, hz1, hz2⟩ := Try.info88
  have hrz : ∀ ty, _ := fun ty => Lib.run_append_nil_zeros (P := Try.prog) w 22 3 ty 88 i0 _ .i64 .i64 Try.underlying22 Try.underlying3 hi hz0 n h0 (by rw [hz1]; decide) (by omega) (by rw [hz2]; omega)
  have hcap := grownCap_ge w n 0 88
  have hcapm := grownCap_le_maxLen w n 0 88 (by unfold maxLen; omega)
  generalize grownCap w n 0 88 = G at hrz hcap hcapm
  have hcapm' : G ≤ 9223372036854775807 := by unfold maxLen at hcapm; exact hcapm
  have hz : (Value.agg #[.int .i64 0, .int .i64 0]).cells.size = 2 := rfl
  go_enter Try.func115, Try.ntmps115
  go_wp2_with (at_builtin; refine Lib.wpList_append_run _ rfl _ _ _ _ rfl _ _ rfl rfl _ _ (hrz _) ?_)
  go_ret
  refine ⟨G, rfl, (World.ownsRow_made w _ G (Nat.le_refl _) hcapm ?_).drew, ((Below.refl _ _).alloc (Nat.le_refl _) _).drew⟩
  simp only [Array.size_append, size_zeroCells, List.size_toArray, List.length_cons, List.length_nil]
  omega

set_option maxRecDepth 100000 in
set_option maxHeartbeats 1000000 in
theorem concat_any (B b o b' o' c c' : Nat) (l m : List (Int × Int)) (w : World) (hl : l.length ≤ 10) (hm0 : 0 < m.length) (hm : m.length ≤ 10) (hB : B < w.heap.size)
   (h0 : w.cell? ⟨B, 0, none⟩ = some (.slice (some ⟨b, o, none⟩) l.length c)) (h1 : w.cell? ⟨B, 1, none⟩ = some (.slice (some ⟨b', o', none⟩) m.length c'))
   (hs : StepsAt w (some ⟨b, o, none⟩) l) (hs' : StepsAt w (some ⟨b', o', none⟩) m) :
    Calls Try.prog 101 #[.slice (some ⟨B, 0, none⟩) 2 2] w fun e w' => ∃ g cap, e = .returned (.slice (some ⟨g, 0, none⟩) (l.length + m.length) cap) ∧ w'.ownsRow w.heap.size 88 2 (.slice (some ⟨g, 0, none⟩) (l.length + m.length) cap) (l.length + m.length) (flatS (l ++ m)) ∧ Below w.heap.size w w' := by
  obtain ⟨i0, hi, hz0, hz1, hz2⟩ := Try.info88
  go_enter Try.func101, Try.ntmps101
  go_wp2
  go_loop [11, 3] (fun i t => ∃ k : Nat, k ≤ 2 ∧ i = .int .i64 k ∧ ∃ z : Int, t = .int .i64 z ∧ (k = 0 → z = 0) ∧ (k = 1 → z = l.length) ∧ (k = 2 → z = l.length + m.length)) (fun i _ => 2 - (intOf i).toNat)
  case atStart => exact ⟨0, by omega, rfl, 0, rfl, by omega, by omega, by omega⟩
  case round =>
    obtain ⟨k, hk, rfl, z, rfl, z0, z1, z2⟩ := hrel
    rcases (show k = 0 ∨ k = 1 ∨ k = 2 by omega) with rfl | rfl | rfl
    · have e0 := z0 rfl
      subst e0
      clear z0 z1 z2
      have e1 : ¬ ((l.length : Int) < 0) := by omega
      go_wp2
      go_round
      case rel => exact ⟨1, by omega, by go_num, _, rfl, by omega, by omega, by omega⟩
      case measure => simp [intOf]
    · have e0 := z1 rfl
      subst e0
      clear z0 z1 z2
      have e1 : ¬ ((l.length : Int) + m.length < 0) := by omega
      go_wp2
      go_round
      case rel => exact ⟨2, by omega, by go_num, _, rfl, by omega, by omega, by omega⟩
      case measure => simp [intOf]
    · have e0 := z2 rfl
      subst e0
      clear z0 z1 z2
      go_wp2_with fail
      rw [show ((l.length : Int) + m.length) = ((l.length + m.length : Nat) : Int) by omega]
      refine (growNil_any (l.length + m.length) _ (by omega) (by omega)).mono ?_
      rintro e w1 ⟨G, rfl, hown, hb1⟩
      go_wp2
      go_loopw [27, 6] (fun i v wr => ∃ k : Nat, k ≤ 2 ∧ i = .int .i64 k ∧ Below w.heap.size w wr ∧ v ≠ .slice none 0 0 ∧ ((k = 0 ∧ wr.ownsRow w.heap.size 88 2 v 0 []) ∨ (k = 1 ∧ wr.ownsRow w.heap.size 88 2 v l.length (flatS l)) ∨ (k = 2 ∧ wr.ownsRow w.heap.size 88 2 v (l.length + m.length) (flatS (l ++ m))))) (fun i _ _ => 2 - (intOf i).toNat)
      case atStart => exact ⟨0, by omega, rfl, hb1, by simp, Or.inl ⟨rfl, hown⟩⟩
      case round =>
        obtain ⟨k, hk2, rfl, hbr, hnn, hcase⟩ := hrel
        have c0 := (hbr.cell (p := ⟨B, 0, none⟩) hB).trans h0
        have c1 := (hbr.cell (p := ⟨B, 1, none⟩) hB).trans h1
        have s0 := (hs.below hbr (Nat.le_refl _)).cells
        have s1 := (hs'.below hbr (Nat.le_refl _)).cells
        rcases hcase with ⟨rfl, hown1⟩ | ⟨rfl, hown1⟩ | ⟨rfl, hown1⟩
        · have A : Hid (∀ j u, (flatS l)[j]? = some u → wr.cell? ⟨b, o + j, none⟩ = some u) := s0
          have HN : Hid (u6 ≠ .slice none 0 0) := hnn
          clear s0 s1 hnn
          go_wp2_with (at_builtin; refine wpList_append_own _ rfl _ _ 22 rfl w.heap.size 88 i0 (.agg #[.int .i64 0, .int .i64 0]) 2 16 Try.underlying22 hi hz0 hz1 hz2 rfl (by decide) _ _ _ rfl hown1 ⟨b, o, none⟩ l.length c (flatS l) rfl ?qc1 ?qc2 ?qc3 ?qc4 ?qc5 ?qc6 ?_)
          case qc1 => exact flatS_length l
          case qc2 =>
            intro j u hj
            rw [Addr.add_lit]
            exact A.out j u hj
          case qc3 => exact flatS_one l
          case qc4 => unfold maxLen; omega
          case qc5 => omega
          case qc6 => exact hbr.size
          intro v' w2 hown2 hgrow hnil
          go_wp2
          go_roundw
          case rel =>
            refine ⟨1, by omega, by go_num, hbr.grown hgrow hbr.size (fun k hk => (hown1.lt k hk).1), ?_, Or.inr (Or.inl ⟨rfl, by simpa using hown2⟩)⟩
            intro e; exact HN.out (hnil.1 e).1
          case measure => simp [intOf]
        · have A : Hid (∀ j u, (flatS m)[j]? = some u → wr.cell? ⟨b', o' + j, none⟩ = some u) := s1
          have HN : Hid (u6 ≠ .slice none 0 0) := hnn
          clear s0 s1 hnn
          go_wp2_with (at_builtin; refine wpList_append_own _ rfl _ _ 22 rfl w.heap.size 88 i0 (.agg #[.int .i64 0, .int .i64 0]) 2 16 Try.underlying22 hi hz0 hz1 hz2 rfl (by decide) _ _ _ rfl hown1 ⟨b', o', none⟩ m.length c' (flatS m) rfl ?qc1 ?qc2 ?qc3 ?qc4 ?qc5 ?qc6 ?_)
          case qc1 => exact flatS_length m
          case qc2 =>
            intro j u hj
            rw [Addr.add_lit]
            exact A.out j u hj
          case qc3 => exact flatS_one m
          case qc4 => unfold maxLen; omega
          case qc5 => omega
          case qc6 => exact hbr.size
          intro v' w2 hown2 hgrow hnil
          go_wp2
          go_roundw
          case rel =>
            refine ⟨2, by omega, by go_num, hbr.grown hgrow hbr.size (fun k hk => (hown1.lt k hk).1), ?_, Or.inr (Or.inr ⟨rfl, by rw [flatS_append]; exact hown2⟩)⟩
            intro e; exact HN.out (hnil.1 e).1
          case measure => simp [intOf]
        · have HN : Hid (u6 ≠ .slice none 0 0) := hnn
          clear s0 s1 hnn
          go_wp2
          go_ret
          have h2 := hown1.2
          rcases h2 with ⟨h2, _⟩ | ⟨g, cap, cur, hv, _⟩
          · exact absurd h2 HN.out
          · subst hv
            exact ⟨g, cap, rfl, hown1, hbr⟩
end Go.Proofs.Ytcggeeejkgndmab
