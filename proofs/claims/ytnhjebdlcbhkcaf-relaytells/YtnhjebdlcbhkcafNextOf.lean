/- Contract of the reference's NextOf. -/
import Derived.Test.YtnhjebdlcbhkcafAfter
namespace Go.Proofs.Ytnhjebdlcbhkcaf
open Go.RowKit

set_option maxHeartbeats 1000000 in
theorem nextOf_bad (a : Option Addr) (cap : Nat) (l : List (Int × Int)) (c n : Int) (w : World) (hl : l.length ≤ maxLen) (h : StepsAt w a l) (hbad : chk l c ≠ 0) :
    Calls Try.prog 31 #[.agg #[.slice a l.length cap, .int .i64 c], .int .i64 n] w (NextGives w l c n) := by
  have hn : Hid (nxt l c n = ([], 0, chk l c)) := by show _ = _; unfold nxt; rw [if_pos hbad]
  have hx : (chk l c != 0) = true := by rw [bne_iff_ne]; exact hbad
  clear hbad
  go_enter Try.func31, Try.ntmps31
  go_wp2_with (go_at_call 30; refine (checkMark_any _ _ _ _ _ hl (by exact h.below (((Below.refl _ _).alloc (Nat.le_refl _) _).alloc (by simp) _) (Nat.le_refl _))).mono ?_; rintro e w' ⟨rfl, hb⟩; obtain ⟨hcc, hff⟩ := bcellN hb (w.heap.size + 2) (by simp))
  refine bodyPost_ret (v := .tuple #[.agg #[.slice none 0 0, .int .i64 0], .int .i64 (chk l c)]) (by simp [results, Try.results31, go_sem, hcc]) rfl ?_
  refine ⟨none, 0, by rw [hn.out]; rfl, Or.inl (by rw [hn.out]), ?_⟩
  exact ((((Below.refl _ _).alloc (Nat.le_refl _) _).alloc (by simp) _).thru hb (by simp; omega)).setCell (by simp) _ |>.setCell (by simp) _

set_option maxHeartbeats 1000000 in
theorem nextOf_range (a : Option Addr) (cap : Nat) (l : List (Int × Int)) (c n : Int) (w : World) (hl : l.length ≤ maxLen) (h : StepsAt w a l) (hok : chk l c = 0) (hr : n < 0 ∨ 60 < n) :
    Calls Try.prog 31 #[.agg #[.slice a l.length cap, .int .i64 c], .int .i64 n] w (NextGives w l c n) := by
  have hn : Hid (nxt l c n = ([], 0, 3)) := by show _ = _; unfold nxt; rw [if_neg (by omega), if_pos hr]
  have H0 : Hid (chk l c = 0) := hok
  have HI : Hid (inB n 0 60 = false) := by show _ = _; rw [Bool.eq_false_iff]; intro e; simp [inB] at e; omega
  clear hok hr
  go_enter Try.func31, Try.ntmps31
  go_wp2_with (first | (go_at_call 30; refine (checkMark_any _ _ _ _ _ hl (by exact h.below (((Below.refl _ _).alloc (Nat.le_refl _) _).alloc (by simp) _) (Nat.le_refl _))).mono ?_; rintro e w' ⟨rfl, hb⟩; rw [H0.out]; obtain ⟨hcc, hff⟩ := bcellN hb (w.heap.size + 2) (by simp)) | (go_at_call 17; refine (between_any _ _ _ _).mono ?_; rintro e w'' ⟨rfl, rfl⟩; rw [HI.out]))
  refine bodyPost_ret (v := .tuple #[.agg #[.slice none 0 0, .int .i64 0], .int .i64 3]) (by simp [results, Try.results31, go_sem, hcc]) rfl ?_
  refine ⟨none, 0, by rw [hn.out]; rfl, Or.inl (by rw [hn.out]), ?_⟩
  exact ((((Below.refl _ _).alloc (Nat.le_refl _) _).alloc (by simp) _).thru hb (by simp; omega)).setCell (by simp) _ |>.setCell (by simp) _

set_option maxRecDepth 100000 in
set_option maxHeartbeats 1000000 in
theorem nextOf_in (b off : Nat) (cap : Nat) (l : List (Int × Int)) (c n : Int) (w : World) (h : StepsAt w (some ⟨b, off, none⟩) l) (hok : chk l c = 0) (h0 : 0 ≤ n) (h60 : n ≤ 60) :
    Calls Try.prog 31 #[.agg #[.slice (some ⟨b, off, none⟩) l.length cap, .int .i64 c], .int .i64 n] w (NextGives w l c n) := by
  have hn : Hid (nxt l c n = if chk (bump l n) (c + n) ≠ 0 then ([], 0, 3) else (bump l n, c + n, 0)) := by show _ = _; unfold nxt; rw [if_neg (by omega), if_neg (by omega)]
  obtain ⟨hl0, hl10, _, _, hc1, hc2⟩ := chk_ok hok
  have H0 : Hid (chk l c = 0) := hok
  have HI : Hid (inB n 0 60 = true) := by show _ = _; simp [inB]; omega
  have hml : l.length ≤ maxLen := by unfold maxLen; omega
  have HLB : Hid ((bump l n).length = l.length) := by show _ = _; unfold bump setL; simp
  have hmlb : (bump l n).length ≤ maxLen := by rw [HLB.out]; exact hml
  clear hok
  obtain ⟨q0, q1, q3, q4, hz, hb1⟩ := boxes2 w (.slice (some ⟨b, off, none⟩) l.length cap) (.int .i64 c) (.slice none 0 0) (.int .i64 0) 50 50
  have q2 : ∀ o, ((w.alloc (Obj.cells #[.slice (some ⟨b, off, none⟩) l.length cap, .int .i64 c] 50)).alloc (Obj.cells #[.slice none 0 0, .int .i64 0] 50)).frozen? ⟨w.heap.size + 1, o, none⟩ = false := by intro o; go_simp
  go_enter Try.func31, Try.ntmps31
  go_upto_region 1 with fail
  generalize (w.alloc (Obj.cells #[.slice (some ⟨b, off, none⟩) l.length cap, .int .i64 c] 50)).alloc (Obj.cells #[.slice none 0 0, .int .i64 0] 50) = w1 at q0 q1 q2 q3 q4 hz hb1 ⊢
  have z1 : w.heap.size < w1.heap.size := by omega
  have z2 : w.heap.size + 1 < w1.heap.size := by omega
  clear hz
  go_wp2_with fail
  refine (checkMark_any _ _ l _ _ hml (h.below hb1 (Nat.le_refl _))).mono ?_
  rintro e w2 ⟨rfl, hb2⟩
  rw [H0.out]
  have p0 := (hb2.cell (p := ⟨w.heap.size, 0, none⟩) z1).trans q0
  have p1 := (hb2.cell (p := ⟨w.heap.size, 1, none⟩) z1).trans q1
  go_wp2_with fail
  refine (between_any _ _ _ _).mono ?_
  rintro e w2' ⟨rfl, rfl⟩
  rw [HI.out]
  go_wp2_with fail
  have hbb := hb1.thru hb2 hb1.size
  refine (afterOf_any b off _ l c n _ (h.below hbb (Nat.le_refl _)) H0.out h0 h60).mono ?_
  rintro e w3 ⟨g, cap2, rfl, hs3, hb3, _⟩
  have hb4 : Below w1.heap.size w1 (w3.alloc (Obj.cells #[.slice (some ⟨g, 0, none⟩) l.length cap2, .int .i64 (c + n)] 50)) := (hb2.thru hb3 hb2.size).alloc (Nat.le_trans hb2.size hb3.size) _
  have n0 : (w3.alloc (Obj.cells #[.slice (some ⟨g, 0, none⟩) l.length cap2, .int .i64 (c + n)] 50)).cell? ⟨w3.heap.size, 0, none⟩ = some (.slice (some ⟨g, 0, none⟩) l.length cap2) := by go_simp
  have n1 : (w3.alloc (Obj.cells #[.slice (some ⟨g, 0, none⟩) l.length cap2, .int .i64 (c + n)] 50)).cell? ⟨w3.heap.size, 1, none⟩ = some (.int .i64 (c + n)) := by go_simp
  have zN : w3.heap.size < (w3.alloc (Obj.cells #[.slice (some ⟨g, 0, none⟩) l.length cap2, .int .i64 (c + n)] 50)).heap.size := by simp
  have hs4 := hs3.below ((Below.refl _ w3).alloc (Nat.le_refl _) (Obj.cells #[.slice (some ⟨g, 0, none⟩) l.length cap2, .int .i64 (c + n)] 50)) (Nat.le_refl _)
  have gnz : g ≠ w.heap.size + 1 := by
    intro e
    rcases id hs3 with h1 | ⟨b1, o1, he, _, hc1⟩
    · have := HLB.out; rw [h1] at this; simp at this; omega
    · simp only [Option.some.injEq, Addr.mk.injEq] at he
      obtain ⟨rfl, rfl, _⟩ := he
      have hx := (hc1 0 (by rw [HLB.out]; exact hl0)).1
      rw [Nat.zero_mul, Nat.add_zero, e, (hb2.thru hb3 hb2.size).cell (p := ⟨w.heap.size + 1, 0, none⟩) z2, q3] at hx
      simp at hx
  clear hs3 hb3 hb2 p0 p1
  go_wp2_with fail
  generalize w3.alloc (Obj.cells #[.slice (some ⟨g, 0, none⟩) l.length cap2, .int .i64 (c + n)] 50) = V at hb4 n0 n1 zN hs4 ⊢
  refine (checkMark_n _ _ _ (bump l n) _ _ HLB.out.symm hmlb hs4).mono ?_
  rintro e w5 ⟨rfl, hb5⟩
  have hb6 := hb4.thru hb5 hb4.size
  have m0 := (hb5.cell (p := ⟨w3.heap.size, 0, none⟩) zN).trans n0
  have m1 := (hb5.cell (p := ⟨w3.heap.size, 1, none⟩) zN).trans n1
  have y2 := (hb6.cell (p := ⟨w.heap.size + 1, 0, none⟩) z2).trans q3
  have y3 := (hb6.cell (p := ⟨w.heap.size + 1, 1, none⟩) z2).trans q4
  have y4 : ∀ o, w5.frozen? ⟨w.heap.size + 1, o, none⟩ = false := fun o => (hb6.frozen (p := ⟨w.heap.size + 1, o, none⟩) z2).trans (q2 o)
  have hs5 := hs4.below hb5 (Nat.le_refl _)
  clear q0 q1 q2 q3 q4 n0 n1 hs4 hb5
  by_cases hk : chk (bump l n) (c + n) = 0
  · have hn' : Hid (nxt l c n = (bump l n, c + n, 0)) := by show _ = _; rw [hn.out, if_neg (by omega)]
    rw [hk]
    clear hk
    go_wp2_with fail
    refine bodyPost_ret (v := .tuple #[.agg #[.slice (some ⟨g, 0, none⟩) l.length cap2, .int .i64 (c + n)], .int .i64 0]) (by simp [results, Try.results31, go_sem, y2, y3]) rfl ?_
    refine ⟨some ⟨g, 0, none⟩, cap2, by rw [hn'.out]; show _ = Ending.returned (.tuple #[.agg #[.slice _ (bump l n).length _, _], _]); rw [HLB.out], ?_, ?_⟩
    · rw [hn'.out]
      exact (hs5.setOld gnz).setOld gnz
    · exact ((hb1.thru hb6 hb1.size).setCell (by simp) _).setCell (by simp) _
  · have hn' : Hid (nxt l c n = ([], 0, 3)) := by show _ = _; rw [hn.out, if_pos hk]
    have hk' : (chk (bump l n) (c + n) != 0) = true := by rw [bne_iff_ne]; exact hk
    clear hk
    go_wp2_with fail
    refine bodyPost_ret (v := .tuple #[.agg #[.slice none 0 0, .int .i64 0], .int .i64 3]) (by simp [results, Try.results31, go_sem, y2, y3]) rfl ?_
    refine ⟨none, 0, by rw [hn'.out]; rfl, Or.inl (by rw [hn'.out]), ?_⟩
    exact ((hb1.thru hb6 hb1.size).setCell (by simp) _).setCell (by simp) _

theorem nextOf_any (a : Option Addr) (cap : Nat) (l : List (Int × Int)) (c n : Int) (w : World) (hl : l.length ≤ maxLen) (h : StepsAt w a l) :
    Calls Try.prog 31 #[.agg #[.slice a l.length cap, .int .i64 c], .int .i64 n] w (NextGives w l c n) := by
  by_cases hok : chk l c = 0
  · by_cases hr : n < 0 ∨ 60 < n
    · exact nextOf_range a cap l c n w hl h hok hr
    · rcases id h with hs | ⟨b, off, rfl, _⟩
      · have := (chk_ok hok).1
        simp [hs] at this
      · exact nextOf_in b off cap l c n w h hok (by omega) (by omega)
  · exact nextOf_bad a cap l c n w hl h hok
end Go.Proofs.Ytnhjebdlcbhkcaf
