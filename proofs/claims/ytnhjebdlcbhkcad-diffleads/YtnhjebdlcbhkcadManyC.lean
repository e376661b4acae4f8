/- Contract of the law's many; a row of edits that is the call's own, as a row that lies at a place. -/
import Derived.Test.YtnhjebdlcbhkcadPlayC
namespace Go.Proofs.Ytnhjebdlcbhkcad
open Go.RowKit

theorem flatE_cell {l : List Ed} {i c : Nat} (hi : i < l.length) (hc : c < 4) : (flatE l)[i * 4 + c]? = (edCells l[i])[c]? := by
  rw [flatE_at l (i * 4 + c) (by omega), show (i * 4 + c) / 4 = i by omega, show (i * 4 + c) % 4 = c by omega]
  have e : l.toArray[i]! = l[i] := by rw [getElem!_pos _ _ (by simpa using hi)]; simp
  rw [e]
  rcases (show c = 0 ∨ c = 1 ∨ c = 2 ∨ c = 3 by omega) with rfl | rfl | rfl | rfl <;> rfl

theorem EdsAt.row {w : World} {p : Option Addr} {c : Nat} {l : List Ed} (h : EdsAt w p c l) : RowEd w p l := by
  rcases h with ⟨_, h, _⟩ | ⟨g, e, hg, hc⟩
  · exact Or.inl h
  · refine Or.inr ⟨g, 0, e, hg, fun i hi => ?_⟩
    have h0 := hc (i * 4 + 0) _ (flatE_cell hi (by decide) (c := 0))
    have h1 := hc (i * 4 + 1) _ (flatE_cell hi (by decide) (c := 1))
    have h2 := hc (i * 4 + 2) _ (flatE_cell hi (by decide) (c := 2))
    have h3 := hc (i * 4 + 3) _ (flatE_cell hi (by decide) (c := 3))
    rw [Nat.zero_add]
    exact ⟨h0, h1, h2, h3⟩

/-- how many signs an edit puts or takes -/
def cntE (x : Ed) : Int := (if 0 < x.many ∧ x.many ≤ 300 then x.many else 0) + x.text.size
def manyL (l : List Ed) : Int := (l.map cntE).sum
theorem manyL_snoc (l : List Ed) (x : Ed) : manyL (l ++ [x]) = manyL l + cntE x := by simp [manyL]
theorem manyL_le : ∀ {l : List Ed}, (∀ x ∈ l, 0 ≤ cntE x ∧ cntE x ≤ 300) → 0 ≤ manyL l ∧ manyL l ≤ 300 * l.length
  | [], _ => by simp [manyL]
  | x :: l, h => by
    have ih := manyL_le (l := l) fun y hy => h y (List.mem_cons_of_mem _ hy)
    have hx := h x (List.mem_cons_self ..)
    have e : manyL (x :: l) = cntE x + manyL l := by simp [manyL]
    rw [e, List.length_cons]
    omega

set_option maxRecDepth 100000 in
set_option maxHeartbeats 1000000 in
theorem many_any (a : Option Addr) (cap : Nat) (l : List Ed) (w : World) (h : RowEd w a l) (hl : l.length ≤ 2000) (hs : ∀ x ∈ l, 0 ≤ cntE x ∧ cntE x ≤ 300) :
    Calls Try.prog 19 #[.slice a l.length cap] w fun e w' => e = .returned (.int .i64 (manyL l)) ∧ Below w.heap.size w w' := by
  go_enter Try.func19, Try.ntmps19
  go_wp2
  go_loopw [3, 4] (fun v i wr => ∃ k : Nat, k ≤ l.length ∧ i = .int .i64 k ∧ v = .int .i64 (manyL (l.take k)) ∧ Below w.heap.size w wr) (fun _ i _ => l.length - (intOf i).toNat)
  case atStart => exact ⟨0, Nat.zero_le _, rfl, rfl, Below.refl _ _⟩
  case round =>
    obtain ⟨k, hk, rfl, rfl, hb⟩ := hrel
    by_cases hlt : k < l.length
    · rcases h.below hb (Nat.le_refl _) with hz | ⟨ab, ao, rfl, hab, hc⟩
      · simp [hz] at hlt
      obtain ⟨c0, c1, c2, c3⟩ := hc k hlt
      have hi1 : (k : Int) < l.length := by omega
      have hbk : 0 ≤ manyL (l.take k) ∧ manyL (l.take k) ≤ 600000 := by
        have := manyL_le (l := l.take k) fun x hx => hs x (List.mem_of_mem_take hx)
        have : (l.take k).length ≤ 2000 := by rw [List.length_take]; omega
        omega
      have hx := hs l[k] (List.getElem_mem hlt)
      have HS : Hid (manyL (l.take (k + 1)) = manyL (l.take k) + cntE l[k]) := by
        show _ = _
        rw [List.take_succ_eq_append_getElem hlt, manyL_snoc]
      have HB := hidE hb
      clear hc h hs hb c0 c1
      generalize l[k] = x at *
      obtain ⟨kind, n, many, tx⟩ := x
      generalize manyL (l.take k) = sk at *
      unfold cntE at HS hx
      by_cases hm : 0 < many ∧ many ≤ 300
      · rw [if_pos hm] at HS hx
        replace HS : Hid (manyL (l.take (k + 1)) = sk + many + (tx.size : Int)) := hidE (HS.out.trans (Int.add_assoc ..).symm)
        replace hx : 0 ≤ many + (tx.size : Int) ∧ many + (tx.size : Int) ≤ 300 := hx
        obtain ⟨m1, m2⟩ := hm
        have hwr : IntKind.i64.wrap (sk + many) = sk + many := by rw [IntKind.wrap_i64] <;> omega
        have hwr2 : IntKind.i64.wrap (sk + many + (tx.size : Int)) = sk + many + (tx.size : Int) := by rw [IntKind.wrap_i64] <;> omega
        have m1' : decide (many > 0) = true := decide_eq_true m1
        have m2' : decide (many ≤ 300) = true := decide_eq_true m2
        go_wp2_with fail
        go_roundw
        case rel => exact ⟨k + 1, by omega, by go_num, by rw [HS.out], HB.out⟩
        case measure => simp [intOf]; omega
      · rw [if_neg hm] at HS hx
        replace HS : Hid (manyL (l.take (k + 1)) = sk + (tx.size : Int)) := hidE (HS.out.trans (by rw [Int.zero_add]))
        replace hx : 0 ≤ (tx.size : Int) ∧ (tx.size : Int) ≤ 300 := by rw [Int.zero_add] at hx; exact hx
        have hwr : IntKind.i64.wrap (sk + (tx.size : Int)) = sk + (tx.size : Int) := by rw [IntKind.wrap_i64] <;> omega
        by_cases m1 : many > 0
        · have m2 : ¬ many ≤ 300 := fun e => hm ⟨m1, e⟩
          clear hm
          have m1' : decide (many > 0) = true := decide_eq_true m1
          have m2' : decide (many ≤ 300) = false := decide_eq_false m2
          go_wp2_with fail
          go_roundw
          case rel => exact ⟨k + 1, by omega, by go_num, by rw [HS.out], HB.out⟩
          case measure => simp [intOf]; omega
        · clear hm
          have m1' : decide (many > 0) = false := decide_eq_false m1
          go_wp2_with fail
          go_roundw
          case rel => exact ⟨k + 1, by omega, by go_num, by rw [HS.out], HB.out⟩
          case measure => simp [intOf]; omega
    · have hkl : k = l.length := by omega
      subst hkl
      rw [List.take_length]
      go_wp2
      go_ret
      exact ⟨rfl, hb⟩
end Go.Proofs.Ytnhjebdlcbhkcad
