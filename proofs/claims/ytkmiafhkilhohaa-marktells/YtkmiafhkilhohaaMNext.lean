/- MarkNext answers true, whatever it is handed (the walk). -/
import Derived.Test.YtkmiafhkilhohaaBegun
namespace Go.Proofs.Ytkmiafhkilhohaa
open Go.RowKit

theorem bump_eq {l : List (Int × Int)} (h : 0 < l.length) (n : Int) : bump l n = l.take (l.length - 1) ++ [((lastS l).1 + n, (lastS l).2)] := by
  unfold bump setL
  rw [List.set_eq_take_append_cons_drop, if_pos (by omega), List.drop_eq_nil_of_le (by omega)]
theorem snoc_eq {l : List (Int × Int)} (h : 0 < l.length) : l = l.take (l.length - 1) ++ [lastS l] := by
  rw [lastS_eq h]
  have := List.take_append_drop (l.length - 1) l
  rw [List.drop_eq_getElem_cons (by omega), List.drop_eq_nil_of_le (by omega)] at this
  exact this.symm
theorem bump_length (l : List (Int × Int)) (n : Int) : (bump l n).length = l.length := by unfold bump setL; simp
theorem lastS_bump {l : List (Int × Int)} (h : 0 < l.length) (n : Int) : lastS (bump l n) = ((lastS l).1 + n, (lastS l).2) := by
  rw [bump_eq h, lastS_snoc]
theorem bump_bump {l : List (Int × Int)} (h : 0 < l.length) (n m : Int) : bump (bump l n) m = bump l (n + m) := by
  rw [bump_eq (l := bump l n) (by rw [bump_length]; exact h), lastS_bump h, bump_length, bump_eq h, bump_eq h]
  rw [List.take_append_of_le_length (by simp), List.take_of_length_le (by simp)]
  simp only [Int.add_assoc]
theorem ord_bump {l : List (Int × Int)} (h : 0 < l.length) (c n : Int) (hn : 0 < n) : ordM l c (bump l n) (c + n) = -1 := by
  refine ordM_of ?_
  have e := snoc_eq h
  have : ordP (l.take (l.length - 1) ++ [lastS l]) (l.take (l.length - 1) ++ [((lastS l).1 + n, (lastS l).2)]) = -1 := by
    rw [ordP_same]; exact ordP_one _ _ (ordS_of (Or.inl (by show (lastS l).1 < (lastS l).1 + n; omega)))
  rw [bump_eq h]
  rwa [← e] at this
theorem bump_zero {l : List (Int × Int)} (h : 0 < l.length) : bump l 0 = l := by
  rw [bump_eq h, Int.add_zero]; exact (snoc_eq h).symm
theorem ordM_self (l : List (Int × Int)) (c : Int) : ordM l c l c = 0 := cmpM.refl (l, c)

theorem nxt_cases (l : List (Int × Int)) (c n : Int) : (∃ e, e ≠ 0 ∧ nxt l c n = ([], 0, e)) ∨ (chk l c = 0 ∧ 0 ≤ n ∧ n ≤ 60 ∧ chk (bump l n) (c + n) = 0 ∧ nxt l c n = (bump l n, c + n, 0)) := by
  unfold nxt
  split
  · rename_i h; exact Or.inl ⟨_, h, rfl⟩
  · rename_i h1
    split
    · exact Or.inl ⟨3, by decide, rfl⟩
    · rename_i h2
      split
      · exact Or.inl ⟨3, by decide, rfl⟩
      · rename_i h3
        exact Or.inr ⟨by omega, by omega, by omega, by omega, rfl⟩

theorem next_err (a : Option Addr) (cap k : Nat) (l : List (Int × Int)) (c n e : Int) (w : World) (hk : k = l.length) (hl : l.length ≤ maxLen) (h : StepsAt w a l) (hx : nxt l c n = ([], 0, e)) :
    Calls Try.prog 9 #[.agg #[.slice a k cap, .int .i64 c], .int .i64 n] w fun en w' => ∃ a' cap', en = .returned (.tuple #[.agg #[.slice a' 0 cap', .int .i64 0], .int .i64 e]) ∧ Below w.heap.size w w' := by
  refine (next_n a cap k l c n w hk hl h).mono ?_
  rintro en w' ⟨a', cap', rfl, _, hb⟩
  rw [hx]
  exact ⟨a', cap', rfl, hb⟩
theorem next_ok (a : Option Addr) (cap k : Nat) (l : List (Int × Int)) (c n : Int) (w : World) (hk : k = l.length) (hl : l.length ≤ maxLen) (h : StepsAt w a l) (hx : nxt l c n = (bump l n, c + n, 0)) :
    Calls Try.prog 9 #[.agg #[.slice a k cap, .int .i64 c], .int .i64 n] w fun en w' => ∃ a' cap', en = .returned (.tuple #[.agg #[.slice a' l.length cap', .int .i64 (c + n)], .int .i64 0]) ∧ StepsAt w' a' (bump l n) ∧ Below w.heap.size w w' := by
  refine (next_n a cap k l c n w hk hl h).mono ?_
  rintro en w' ⟨a', cap', rfl, hs, hb⟩
  rw [hx] at hs ⊢
  exact ⟨a', cap', by rw [bump_length], hs, hb⟩

set_option maxRecDepth 100000 in
set_option maxHeartbeats 2000000 in
theorem markNext_true (a : Option Addr) (cap : Nat) (l : List (Int × Int)) (c n m : Int) (w : World) (hl : l.length ≤ maxLen) (h : StepsAt w a l) :
    Calls Try.prog 6 #[.agg #[.slice a l.length cap, .int .i64 c], .int .i64 n, .int .i64 m] w fun e w' => e = .returned (.bool true) ∧ Below w.heap.size w w' := by
  rcases nxt_cases l c n with ⟨er, hne, hx⟩ | ⟨hok, hn0, hn60, hok2, hx⟩
  · have hne' : (er != 0) = true := by rw [bne_iff_ne]; exact hne
    have HX := hidE hx
    clear hx hne
    go_enter Try.func6, Try.ntmps6
    go_wp2_with fail
    refine (markBegun_true _).mono ?_
    rintro e w1 ⟨rfl, hb1⟩
    have hb0 : Below w.heap.size w (w.alloc (Obj.cells #[.slice a l.length cap, .int .i64 c] 24)) := (Below.refl _ _).alloc (Nat.le_refl _) _
    have zz : w.heap.size < (w.alloc (Obj.cells #[.slice a l.length cap, .int .i64 c] 24)).heap.size := by simp
    have m0 : w1.cell? ⟨w.heap.size, 0, none⟩ = some (.slice a l.length cap) := (hb1.cell (p := ⟨w.heap.size, 0, none⟩) zz).trans (by go_simp)
    have m1 : w1.cell? ⟨w.heap.size, 1, none⟩ = some (.int .i64 c) := (hb1.cell (p := ⟨w.heap.size, 1, none⟩) zz).trans (by go_simp)
    have hb2 := hb0.thru hb1 hb0.size
    go_wp2_with fail
    refine (next_err _ _ _ l _ _ er _ rfl hl (h.below hb2 (Nat.le_refl _)) HX.out).mono ?_
    rintro e w2 ⟨a', cap', rfl, hb3⟩
    go_wp2
    go_ret
    exact ⟨rfl, (hb2.thru hb3 hb2.size).alloc (Nat.le_trans hb2.size hb3.size) _⟩
  · obtain ⟨hl0, hl10, _, _, hc1, hc2⟩ := chk_ok hok
    have HX := hidE hx
    have HK2 := hidE hok2
    have hlb : (bump l n).length ≤ maxLen := by rw [bump_length]; exact hl
    have HLB := hidE (bump_length l n)
    clear hx hok2
    go_enter Try.func6, Try.ntmps6
    go_wp2_with fail
    refine (markBegun_true _).mono ?_
    rintro e w1 ⟨rfl, hb1⟩
    have hb0 : Below w.heap.size w (w.alloc (Obj.cells #[.slice a l.length cap, .int .i64 c] 24)) := (Below.refl _ _).alloc (Nat.le_refl _) _
    have zz : w.heap.size < (w.alloc (Obj.cells #[.slice a l.length cap, .int .i64 c] 24)).heap.size := by simp
    have m0 : w1.cell? ⟨w.heap.size, 0, none⟩ = some (.slice a l.length cap) := (hb1.cell (p := ⟨w.heap.size, 0, none⟩) zz).trans (by go_simp)
    have m1 : w1.cell? ⟨w.heap.size, 1, none⟩ = some (.int .i64 c) := (hb1.cell (p := ⟨w.heap.size, 1, none⟩) zz).trans (by go_simp)
    have hb2 := hb0.thru hb1 hb0.size
    clear zz hb0 hb1
    go_wp2_with fail
    refine (next_ok _ _ _ l _ _ _ rfl hl (h.below hb2 (Nat.le_refl _)) HX.out).mono ?_
    rintro e w2 ⟨a', cap', rfl, hs2, hb3⟩
    have hb4 : Below w1.heap.size w1 (w2.alloc (Obj.cells #[.slice a' l.length cap', .int .i64 (c + n)] 24)) := hb3.alloc hb3.size _
    have HH : Holds (w2.alloc (Obj.cells #[.slice a' l.length cap', .int .i64 (c + n)] 24)) [(w.heap.size, 0, .slice a l.length cap), (w.heap.size, 1, .int .i64 c), (w2.heap.size, 0, .slice a' l.length cap'), (w2.heap.size, 1, .int .i64 (c + n))] := by
      simp only [holds_cons, holds_nil]
      exact ⟨holds_at ((hb4.cell (block_lt_of_cell m0)).trans m0), holds_at ((hb4.cell (block_lt_of_cell m1)).trans m1), holds_at (by go_simp), holds_at (by go_simp), trivial⟩
    have hsA := hs2.below ((Below.refl _ w2).alloc (Nat.le_refl _) (Obj.cells #[.slice a' l.length cap', .int .i64 (c + n)] 24)) (Nat.le_refl _)
    have hb5 := hb2.thru hb4 hb2.size
    have hsM := h.below hb5 (Nat.le_refl _)
    clear hb4 hb3 hs2 m0 m1 hb2 h
    go_upto_region 6 with fail
    generalize w2.alloc (Obj.cells #[.slice a' l.length cap', .int .i64 (c + n)] 24) = U at HH hsA hsM hb5 ⊢
    go_cut [53] (fun t we => t = .bool false ∧ Below U.heap.size U we)
    case first =>
      have X := HH
      simp only [holds_cons, holds_nil] at X
      obtain ⟨⟨_, p0⟩, ⟨_, p1⟩, ⟨_, p2⟩, ⟨_, p3⟩, _⟩ := X
      go_wp2_with fail
      refine (check_n _ _ _ (bump l n) _ _ HLB.out.symm hlb hsA).mono ?_
      rintro e w3 ⟨rfl, hb6⟩
      rw [HK2.out]
      have X := HH.below hb6 (Nat.le_refl _)
      simp only [holds_cons, holds_nil] at X
      obtain ⟨⟨_, p0⟩, ⟨_, p1⟩, ⟨_, p2⟩, ⟨_, p3⟩, _⟩ := X
      by_cases hn : n = 0
      · have HO : Hid (ordM l c (bump l n) (c + n) = 0) := by show _ = _; rw [hn, bump_zero hl0, Int.add_zero]; exact ordM_self l c
        have hn' : (n == 0) = true := by rw [hn]; rfl
        have hng : ¬ (n > 0) := by omega
        have hngd : decide (n > 0) = false := decide_eq_false hng
        clear hn
        go_wp2_with fail
        refine (order_n _ _ _ _ _ _ l (bump l n) _ _ _ rfl HLB.out.symm hl hlb (hsM.below hb6 (Nat.le_refl _)) (hsA.below hb6 (Nat.le_refl _))).mono ?_
        rintro e w4 ⟨rfl, hb7⟩
        rw [HO.out]
        have X := (HH.below hb6 (Nat.le_refl _)).below hb7 (Nat.le_refl _)
        simp only [holds_cons, holds_nil] at X
        obtain ⟨⟨_, p0⟩, ⟨_, p1⟩, ⟨_, p2⟩, ⟨_, p3⟩, _⟩ := X
        go_wp2_with fail
        refine (order_n _ _ _ _ _ _ l (bump l n) _ _ _ rfl HLB.out.symm hl hlb ((hsM.below hb6 (Nat.le_refl _)).below hb7 (Nat.le_refl _)) ((hsA.below hb6 (Nat.le_refl _)).below hb7 (Nat.le_refl _))).mono ?_
        rintro e w5 ⟨rfl, hb8⟩
        rw [HO.out]
        go_wp2_with fail
        go_meet
        exact ⟨rfl, (hb6.thru hb7 hb6.size).thru hb8 (Nat.le_trans hb6.size hb7.size)⟩
      · have hng : n > 0 := by omega
        have HO : Hid (ordM l c (bump l n) (c + n) = -1) := ord_bump hl0 c n hng
        have hn' : (n == 0) = false := beq_eq_false_iff_ne.2 hn
        clear hn
        go_wp2_with fail
        refine (order_n _ _ _ _ _ _ l (bump l n) _ _ _ rfl HLB.out.symm hl hlb (hsM.below hb6 (Nat.le_refl _)) (hsA.below hb6 (Nat.le_refl _))).mono ?_
        rintro e w4 ⟨rfl, hb7⟩
        rw [HO.out]
        go_wp2_with fail
        go_meet
        exact ⟨rfl, hb6.thru hb7 hb6.size⟩
    case rest =>
      obtain ⟨rfl, hb6⟩ := hcut
      replace HH := HH.below hb6 (Nat.le_refl _)
      replace hsA := hsA.below hb6 (Nat.le_refl _)
      replace hsM := hsM.below hb6 (Nat.le_refl _)
      replace hb5 := hb5.thru hb6 hb5.size
      clear hb6
      have X := HH
      simp only [holds_cons, holds_nil] at X
      obtain ⟨⟨_, p0⟩, ⟨_, p1⟩, ⟨_, p2⟩, ⟨_, p3⟩, _⟩ := X
      rcases nxt_cases (bump l n) (c + n) m with ⟨er, hne, hx⟩ | ⟨_, hm0, hm60, hok3, hx⟩
      · have hne' : (er != 0) = true := by rw [bne_iff_ne]; exact hne
        have HX2 := hidE hx
        clear hx hne
        go_wp2_with fail
        refine (next_err _ _ _ (bump l n) _ _ er _ HLB.out.symm hlb hsA HX2.out).mono ?_
        rintro e w3 ⟨a2, cap2, rfl, hb6⟩
        go_wp2
        go_ret
        exact ⟨rfl, (hb5.thru hb6 hb5.size).alloc (Nat.le_trans hb5.size hb6.size) _⟩
      · have HX2 := hidE hx
        have HB := hidE (bump_bump hl0 n m)
        have HK3 : Hid (chk (bump l (n + m)) (c + (n + m)) = 0) := by show _ = _; rw [← HB.out, ← Int.add_assoc]; exact hok3
        have hlb2 : (bump (bump l n) m).length ≤ maxLen := by rw [bump_length]; exact hlb
        have HLB2 : Hid ((bump (bump l n) m).length = l.length) := by show _ = _; rw [bump_length, bump_length]
        clear hx hok3
        by_cases h60 : n + m > 60
        · have h60d : decide (n + m > 60) = true := decide_eq_true h60
          go_wp2_with fail
          refine (next_ok _ _ _ (bump l n) _ _ _ HLB.out.symm hlb hsA HX2.out).mono ?_
          rintro e w3 ⟨a2, cap2, rfl, hs2, hb6⟩
          go_wp2
          go_ret
          exact ⟨rfl, (hb5.thru hb6 hb5.size).alloc (Nat.le_trans hb5.size hb6.size) _⟩
        · have h60' : n + m ≤ 60 := by omega
          have h60d : decide (n + m > 60) = false := decide_eq_false h60
          have HX3 : Hid (nxt l c (n + m) = (bump l (n + m), c + (n + m), 0)) := by
            show _ = _
            rcases nxt_cases l c (n + m) with ⟨er, hne, hx⟩ | ⟨_, _, _, _, hx⟩
            · unfold nxt
              rw [if_neg (by omega), if_neg (by omega), if_neg (by rw [HK3.out]; simp)]
            · exact hx
          have hlb3 : (bump l (n + m)).length ≤ maxLen := by rw [bump_length]; exact hl
          have HLB3 := hidE (bump_length l (n + m))
          clear h60
          go_wp2_with fail
          refine (next_ok _ _ _ (bump l n) _ _ _ HLB.out.symm hlb hsA HX2.out).mono ?_
          rintro e w3 ⟨a2, cap2, rfl, hs2, hb6⟩
          rw [HLB.out]
          have hb7 : Below wc.heap.size wc (w3.alloc (Obj.cells #[.slice a2 l.length cap2, .int .i64 (c + n + m)] 24)) := hb6.alloc hb6.size _
          have HH2 : Holds (w3.alloc (Obj.cells #[.slice a2 l.length cap2, .int .i64 (c + n + m)] 24)) [(w.heap.size, 0, .slice a l.length cap), (w.heap.size, 1, .int .i64 c), (w3.heap.size, 0, .slice a2 l.length cap2), (w3.heap.size, 1, .int .i64 (c + n + m))] := by
            simp only [holds_cons, holds_nil]
            exact ⟨holds_at ((hb7.cell (block_lt_of_cell p0)).trans p0), holds_at ((hb7.cell (block_lt_of_cell p1)).trans p1), holds_at (by go_simp), holds_at (by go_simp), trivial⟩
          have hsB := hs2.below ((Below.refl _ w3).alloc (Nat.le_refl _) (Obj.cells #[.slice a2 l.length cap2, .int .i64 (c + n + m)] 24)) (Nat.le_refl _)
          replace hb5 := hb5.thru hb7 hb5.size
          replace hsM := hsM.below hb7 (Nat.le_refl _)
          clear hb6 hb7 hs2 p0 p1 p2 p3 HH hsA
          go_upto_region 9 with fail
          generalize w3.alloc (Obj.cells #[.slice a2 l.length cap2, .int .i64 (c + n + m)] 24) = U2 at HH2 hsB hsM hb5 ⊢
          have X := HH2
          simp only [holds_cons, holds_nil] at X
          obtain ⟨⟨_, p0⟩, ⟨_, p1⟩, ⟨_, p2⟩, ⟨_, p3⟩, _⟩ := X
          go_wp2_with fail
          refine (next_ok _ _ _ l _ _ _ rfl hl hsM HX3.out).mono ?_
          rintro e w4 ⟨a3, cap3, rfl, hs3, hb6⟩
          have hb7 : Below U2.heap.size U2 (w4.alloc (Obj.cells #[.slice a3 l.length cap3, .int .i64 (c + (n + m))] 24)) := hb6.alloc hb6.size _
          have c2 : (w4.alloc (Obj.cells #[.slice a3 l.length cap3, .int .i64 (c + (n + m))] 24)).cell? ⟨w3.heap.size, 0, none⟩ = some (.slice a2 l.length cap2) := (hb7.cell (block_lt_of_cell p2)).trans p2
          have c3 : (w4.alloc (Obj.cells #[.slice a3 l.length cap3, .int .i64 (c + (n + m))] 24)).cell? ⟨w3.heap.size, 1, none⟩ = some (.int .i64 (c + n + m)) := (hb7.cell (block_lt_of_cell p3)).trans p3
          have hs3' := hs3.below ((Below.refl _ w4).alloc (Nat.le_refl _) (Obj.cells #[.slice a3 l.length cap3, .int .i64 (c + (n + m))] 24)) (Nat.le_refl _)
          replace hsB := hsB.below hb7 (Nat.le_refl _)
          replace hb5 := hb5.thru hb7 hb5.size
          clear hs3 hb6 hb7
          go_wp2_with fail
          refine (order_n _ _ _ _ _ _ (bump (bump l n) m) (bump l (n + m)) _ _ _ HLB2.out.symm HLB3.out.symm hlb2 hlb3 hsB hs3').mono ?_
          rintro e w5 ⟨rfl, hb8⟩
          rw [HB.out, Int.add_assoc, ordM_self]
          go_wp2
          go_ret
          exact ⟨rfl, hb5.thru hb8 hb5.size⟩
end Go.Proofs.Ytkmiafhkilhohaa
