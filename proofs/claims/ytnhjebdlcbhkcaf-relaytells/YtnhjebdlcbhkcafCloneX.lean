/- Contracts of slices.Clone. -/
import Derived.Test.YtnhjebdlcbhkcafRowOwn
import Derived.Test.YtnhjebdlcbhkcafNextC
namespace Go.Proofs.Ytnhjebdlcbhkcaf
open Go.RowKit

theorem addPl (b o i : Nat) : (⟨b, o, none⟩ : Addr).add i = ⟨b, o + i, none⟩ := by unfold Addr.add; split <;> simp_all

theorem infoCI : ∃ i, Try.prog.info? 3 = some i ∧ i.zero = some (.int .i64 0) ∧ i.size = 1 ∧ i.bytes = 8 := by
  have h : (Try.prog.info? 3).map (fun i => (i.zero, i.size, i.bytes)) = some (some (.int .i64 0), 1, 8) := by kernel_rfl
  rw [Option.map_eq_some_iff] at h
  obtain ⟨i, hi, he⟩ := h
  simp only [Prod.mk.injEq] at he
  exact ⟨i, hi, he⟩

set_option maxRecDepth 100000 in
set_option maxHeartbeats 1000000 in
theorem cloneI_ok (a : Option Addr) (n c : Nat) (cells : List Value) (w : World) (hl : cells.length = n * 1) (hn : n ≤ 100000) (hc : ∀ j u, cells[j]? = some u → ∃ b off, a = some ⟨b, off, none⟩ ∧ w.cell? ⟨b, off + j, none⟩ = some u) (h1 : ∀ u ∈ cells, u.oneCell' = true) :
    Calls Try.prog 25 #[.slice a n c] w fun e w' => ∃ p cap, e = .returned (.slice p n cap) ∧ w'.ownsRow w.heap.size 3 1 (.slice p n cap) n cells ∧ Below w.heap.size w w' := by
  obtain ⟨i0, hi, hz0, hz1, hz2⟩ := infoCI
  have q22 : ∀ (w : World) (a : Option Addr) (n c n' c' : Nat), (binOp .eql 25 (.slice a n c) (.slice none n' c')).run Try.prog w = .ok (.bool a.isNone) w := fun w a n c n' c' => Lib.run_eql_slice_nil w _ _ a n c n' c' Try.underlying25
  cases a with
  | none =>
    have h0 : n = 0 := by
      rcases Nat.eq_zero_or_pos n with h | h
      · exact h
      · have hp : 0 < cells.length := by omega
        obtain ⟨b, off, e, _⟩ := hc 0 _ (List.getElem?_eq_getElem hp)
        cases e
    subst h0
    have he : cells = [] := List.length_eq_zero_iff.1 (by omega)
    subst he
    clear hc h1 hl hn
    go_enter Try.func25, Try.ntmps25
    go_wp2_with fail
    go_ret
    exact ⟨none, 0, rfl, World.ownsRow_nil _ _ _ _, Below.refl _ _⟩
  | some ad =>
    have A : Hid (∀ j u, cells[j]? = some u → w.cell? (ad.add j) = some u) := by
      show ∀ j u, cells[j]? = some u → w.cell? (ad.add j) = some u
      intro j u hj
      obtain ⟨b, off, e, h⟩ := hc j u hj
      cases e
      rw [addPl]
      exact h
    clear hc
    go_enter Try.func25, Try.ntmps25
    go_wp2_with (at_builtin; refine wpList_append_own _ rfl _ _ 25 rfl w.heap.size 3 i0 (.int .i64 0) 1 8 Try.underlying25 hi hz0 hz1 hz2 rfl (by decide) _ _ _ rfl (World.ownsRow_made w #[] 0 (Nat.le_refl _) (Nat.zero_le _) (by simp)) ad n c cells rfl ?qc1 ?qc2 ?qc3 ?qc4 ?qc5 ?qc6 ?_)
    case qc1 => exact hl
    case qc2 =>
      intro j u hj
      exact Lib.cell?_alloc_some _ (A.out j u hj)
    case qc3 => exact h1
    case qc4 => unfold maxLen; omega
    case qc5 => omega
    case qc6 => simp
    intro v' w1 hown hgrow hnil
    obtain ⟨p, cap, rfl⟩ := owns_sl hown
    have hb : Below w.heap.size w w1 := ((Below.refl _ w).alloc (Nat.le_refl _) _).grown hgrow (by simp) (by intro k hk; simp [Value.ownBlock] at hk; omega)
    have HO := hidE hown
    have HB := hidE hb
    clear hown hb hgrow hnil
    go_wp2_with fail
    go_ret
    exact ⟨p, cap, rfl, HO.out, HB.out⟩

theorem infoCS : ∃ i, Try.prog.info? 77 = some i ∧ i.zero = some (.agg #[.int .i64 0, .int .i64 0]) ∧ i.size = 2 ∧ i.bytes = 16 := by
  have h : (Try.prog.info? 77).map (fun i => (i.zero, i.size, i.bytes)) = some (some (.agg #[.int .i64 0, .int .i64 0]), 2, 16) := by kernel_rfl
  rw [Option.map_eq_some_iff] at h
  obtain ⟨i, hi, he⟩ := h
  simp only [Prod.mk.injEq] at he
  exact ⟨i, hi, he⟩

set_option maxRecDepth 100000 in
set_option maxHeartbeats 1000000 in
theorem cloneS_ok (a : Option Addr) (n c : Nat) (cells : List Value) (w : World) (hl : cells.length = n * 2) (hn : n ≤ 100000) (hc : ∀ j u, cells[j]? = some u → ∃ b off, a = some ⟨b, off, none⟩ ∧ w.cell? ⟨b, off + j, none⟩ = some u) (h1 : ∀ u ∈ cells, u.oneCell' = true) :
    Calls Try.prog 49 #[.slice a n c] w fun e w' => ∃ p cap, e = .returned (.slice p n cap) ∧ w'.ownsRow w.heap.size 77 2 (.slice p n cap) n cells ∧ Below w.heap.size w w' := by
  obtain ⟨i0, hi, hz0, hz1, hz2⟩ := infoCS
  have q22 : ∀ (w : World) (a : Option Addr) (n c n' c' : Nat), (binOp .eql 48 (.slice a n c) (.slice none n' c')).run Try.prog w = .ok (.bool a.isNone) w := fun w a n c n' c' => Lib.run_eql_slice_nil w _ _ a n c n' c' Try.underlying48
  cases a with
  | none =>
    have h0 : n = 0 := by
      rcases Nat.eq_zero_or_pos n with h | h
      · exact h
      · have hp : 0 < cells.length := by omega
        obtain ⟨b, off, e, _⟩ := hc 0 _ (List.getElem?_eq_getElem hp)
        cases e
    subst h0
    have he : cells = [] := List.length_eq_zero_iff.1 (by omega)
    subst he
    clear hc h1 hl hn
    go_enter Try.func49, Try.ntmps49
    go_wp2_with fail
    go_ret
    exact ⟨none, 0, rfl, World.ownsRow_nil _ _ _ _, Below.refl _ _⟩
  | some ad =>
    have A : Hid (∀ j u, cells[j]? = some u → w.cell? (ad.add j) = some u) := by
      show ∀ j u, cells[j]? = some u → w.cell? (ad.add j) = some u
      intro j u hj
      obtain ⟨b, off, e, h⟩ := hc j u hj
      cases e
      rw [addPl]
      exact h
    clear hc
    go_enter Try.func49, Try.ntmps49
    go_wp2_with (at_builtin; refine wpList_append_own _ rfl _ _ 48 rfl w.heap.size 77 i0 (.agg #[.int .i64 0, .int .i64 0]) 2 16 Try.underlying48 hi hz0 hz1 hz2 rfl (by decide) _ _ _ rfl (World.ownsRow_made w #[] 0 (Nat.le_refl _) (Nat.zero_le _) (by simp)) ad n c cells rfl ?qc1 ?qc2 ?qc3 ?qc4 ?qc5 ?qc6 ?_)
    case qc1 => exact hl
    case qc2 =>
      intro j u hj
      exact Lib.cell?_alloc_some _ (A.out j u hj)
    case qc3 => exact h1
    case qc4 => unfold maxLen; omega
    case qc5 => omega
    case qc6 => simp
    intro v' w1 hown hgrow hnil
    obtain ⟨p, cap, rfl⟩ := owns_sl hown
    have hb : Below w.heap.size w w1 := ((Below.refl _ w).alloc (Nat.le_refl _) _).grown hgrow (by simp) (by intro k hk; simp [Value.ownBlock] at hk; omega)
    have HO := hidE hown
    have HB := hidE hb
    clear hown hb hgrow hnil
    go_wp2_with fail
    go_ret
    exact ⟨p, cap, rfl, HO.out, HB.out⟩

theorem infoCD : ∃ i, Try.prog.info? 54 = some i ∧ i.zero = some (.agg #[.int .i64 0, .slice none 0 0, .int .i64 0, .string ⟨#[]⟩, .slice none 0 0, .int .i64 0, .int .i64 0]) ∧ i.size = 7 ∧ i.bytes = 96 := by
  have h : (Try.prog.info? 54).map (fun i => (i.zero, i.size, i.bytes)) = some (some (.agg #[.int .i64 0, .slice none 0 0, .int .i64 0, .string ⟨#[]⟩, .slice none 0 0, .int .i64 0, .int .i64 0]), 7, 96) := by kernel_rfl
  rw [Option.map_eq_some_iff] at h
  obtain ⟨i, hi, he⟩ := h
  simp only [Prod.mk.injEq] at he
  exact ⟨i, hi, he⟩

set_option maxRecDepth 100000 in
set_option maxHeartbeats 1000000 in
theorem cloneD_ok (a : Option Addr) (n c : Nat) (cells : List Value) (w : World) (hl : cells.length = n * 7) (hn : n ≤ 100000) (hc : ∀ j u, cells[j]? = some u → ∃ b off, a = some ⟨b, off, none⟩ ∧ w.cell? ⟨b, off + j, none⟩ = some u) (h1 : ∀ u ∈ cells, u.oneCell' = true) :
    Calls Try.prog 39 #[.slice a n c] w fun e w' => ∃ p cap, e = .returned (.slice p n cap) ∧ w'.ownsRow w.heap.size 54 7 (.slice p n cap) n cells ∧ Below w.heap.size w w' := by
  obtain ⟨i0, hi, hz0, hz1, hz2⟩ := infoCD
  have q22 : ∀ (w : World) (a : Option Addr) (n c n' c' : Nat), (binOp .eql 26 (.slice a n c) (.slice none n' c')).run Try.prog w = .ok (.bool a.isNone) w := fun w a n c n' c' => Lib.run_eql_slice_nil w _ _ a n c n' c' Try.underlying26
  cases a with
  | none =>
    have h0 : n = 0 := by
      rcases Nat.eq_zero_or_pos n with h | h
      · exact h
      · have hp : 0 < cells.length := by omega
        obtain ⟨b, off, e, _⟩ := hc 0 _ (List.getElem?_eq_getElem hp)
        cases e
    subst h0
    have he : cells = [] := List.length_eq_zero_iff.1 (by omega)
    subst he
    clear hc h1 hl hn
    go_enter Try.func39, Try.ntmps39
    go_wp2_with fail
    go_ret
    exact ⟨none, 0, rfl, World.ownsRow_nil _ _ _ _, Below.refl _ _⟩
  | some ad =>
    have A : Hid (∀ j u, cells[j]? = some u → w.cell? (ad.add j) = some u) := by
      show ∀ j u, cells[j]? = some u → w.cell? (ad.add j) = some u
      intro j u hj
      obtain ⟨b, off, e, h⟩ := hc j u hj
      cases e
      rw [addPl]
      exact h
    clear hc
    go_enter Try.func39, Try.ntmps39
    go_wp2_with (at_builtin; refine wpList_append_own _ rfl _ _ 26 rfl w.heap.size 54 i0 (.agg #[.int .i64 0, .slice none 0 0, .int .i64 0, .string ⟨#[]⟩, .slice none 0 0, .int .i64 0, .int .i64 0]) 7 96 Try.underlying26 hi hz0 hz1 hz2 rfl (by decide) _ _ _ rfl (World.ownsRow_made w #[] 0 (Nat.le_refl _) (Nat.zero_le _) (by simp)) ad n c cells rfl ?qc1 ?qc2 ?qc3 ?qc4 ?qc5 ?qc6 ?_)
    case qc1 => exact hl
    case qc2 =>
      intro j u hj
      exact Lib.cell?_alloc_some _ (A.out j u hj)
    case qc3 => exact h1
    case qc4 => unfold maxLen; omega
    case qc5 => omega
    case qc6 => simp
    intro v' w1 hown hgrow hnil
    obtain ⟨p, cap, rfl⟩ := owns_sl hown
    have hb : Below w.heap.size w w1 := ((Below.refl _ w).alloc (Nat.le_refl _) _).grown hgrow (by simp) (by intro k hk; simp [Value.ownBlock] at hk; omega)
    have HO := hidE hown
    have HB := hidE hb
    clear hown hb hgrow hnil
    go_wp2_with fail
    go_ret
    exact ⟨p, cap, rfl, HO.out, HB.out⟩

theorem infoCN : ∃ i, Try.prog.info? 28 = some i ∧ i.zero = some (.agg #[.int .i64 0, .int .i64 0, .slice none 0 0, .slice none 0 0]) ∧ i.size = 4 ∧ i.bytes = 64 := by
  have h : (Try.prog.info? 28).map (fun i => (i.zero, i.size, i.bytes)) = some (some (.agg #[.int .i64 0, .int .i64 0, .slice none 0 0, .slice none 0 0]), 4, 64) := by kernel_rfl
  rw [Option.map_eq_some_iff] at h
  obtain ⟨i, hi, he⟩ := h
  simp only [Prod.mk.injEq] at he
  exact ⟨i, hi, he⟩

set_option maxRecDepth 100000 in
set_option maxHeartbeats 1000000 in
theorem cloneN_ok (a : Option Addr) (n c : Nat) (cells : List Value) (w : World) (hl : cells.length = n * 4) (hn : n ≤ 100000) (hc : ∀ j u, cells[j]? = some u → ∃ b off, a = some ⟨b, off, none⟩ ∧ w.cell? ⟨b, off + j, none⟩ = some u) (h1 : ∀ u ∈ cells, u.oneCell' = true) :
    Calls Try.prog 38 #[.slice a n c] w fun e w' => ∃ p cap, e = .returned (.slice p n cap) ∧ w'.ownsRow w.heap.size 28 4 (.slice p n cap) n cells ∧ Below w.heap.size w w' := by
  obtain ⟨i0, hi, hz0, hz1, hz2⟩ := infoCN
  have q22 : ∀ (w : World) (a : Option Addr) (n c n' c' : Nat), (binOp .eql 22 (.slice a n c) (.slice none n' c')).run Try.prog w = .ok (.bool a.isNone) w := fun w a n c n' c' => Lib.run_eql_slice_nil w _ _ a n c n' c' Try.underlying22
  cases a with
  | none =>
    have h0 : n = 0 := by
      rcases Nat.eq_zero_or_pos n with h | h
      · exact h
      · have hp : 0 < cells.length := by omega
        obtain ⟨b, off, e, _⟩ := hc 0 _ (List.getElem?_eq_getElem hp)
        cases e
    subst h0
    have he : cells = [] := List.length_eq_zero_iff.1 (by omega)
    subst he
    clear hc h1 hl hn
    go_enter Try.func38, Try.ntmps38
    go_wp2_with fail
    go_ret
    exact ⟨none, 0, rfl, World.ownsRow_nil _ _ _ _, Below.refl _ _⟩
  | some ad =>
    have A : Hid (∀ j u, cells[j]? = some u → w.cell? (ad.add j) = some u) := by
      show ∀ j u, cells[j]? = some u → w.cell? (ad.add j) = some u
      intro j u hj
      obtain ⟨b, off, e, h⟩ := hc j u hj
      cases e
      rw [addPl]
      exact h
    clear hc
    go_enter Try.func38, Try.ntmps38
    go_wp2_with (at_builtin; refine wpList_append_own _ rfl _ _ 22 rfl w.heap.size 28 i0 (.agg #[.int .i64 0, .int .i64 0, .slice none 0 0, .slice none 0 0]) 4 64 Try.underlying22 hi hz0 hz1 hz2 rfl (by decide) _ _ _ rfl (World.ownsRow_made w #[] 0 (Nat.le_refl _) (Nat.zero_le _) (by simp)) ad n c cells rfl ?qc1 ?qc2 ?qc3 ?qc4 ?qc5 ?qc6 ?_)
    case qc1 => exact hl
    case qc2 =>
      intro j u hj
      exact Lib.cell?_alloc_some _ (A.out j u hj)
    case qc3 => exact h1
    case qc4 => unfold maxLen; omega
    case qc5 => omega
    case qc6 => simp
    intro v' w1 hown hgrow hnil
    obtain ⟨p, cap, rfl⟩ := owns_sl hown
    have hb : Below w.heap.size w w1 := ((Below.refl _ w).alloc (Nat.le_refl _) _).grown hgrow (by simp) (by intro k hk; simp [Value.ownBlock] at hk; omega)
    have HO := hidE hown
    have HB := hidE hb
    clear hown hb hgrow hnil
    go_wp2_with fail
    go_ret
    exact ⟨p, cap, rfl, HO.out, HB.out⟩
end Go.Proofs.Ytnhjebdlcbhkcaf
