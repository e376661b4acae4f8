/- Contract of mark.checkEnds. -/
import Derived.Test.YtcggeeejkgndmadRowC
namespace Go.Proofs.Ytcggeeejkgndmad
open Go.RowKit

def chkEnd (l : List (Int × Int)) (c : Int) : Int := if l.length = 0 ∧ c = 0 then 0 else chk l c
def ends (l : List (Int × Int)) (c : Int) (m : List (Int × Int)) (d : Int) : Int := orI (chkEnd l c) (chkEnd m d)

theorem boxesE (w : World) (v0 v1 u0 u1 : Value) (T T' T2 : TypeId) : ∃ W, W = ((w.alloc (Obj.cells #[v0, v1] T)).alloc (Obj.cells #[u0, u1] T')).alloc (Obj.cells #[v0, v1, u0, u1] T2) ∧
    W.cell? ⟨w.heap.size + 1 + 1, 0, none⟩ = some v0 ∧ W.cell? ⟨w.heap.size + 1 + 1, 1, none⟩ = some v1 ∧ W.cell? ⟨w.heap.size + 1 + 1, 2, none⟩ = some u0 ∧ W.cell? ⟨w.heap.size + 1 + 1, 3, none⟩ = some u1 ∧ W.heap.size = w.heap.size + 3 ∧ Below w.heap.size w W :=
  ⟨_, rfl, by go_simp, by go_simp, by go_simp, by go_simp, by simp, (((Below.refl _ _).alloc (Nat.le_refl _) _).alloc (by simp) _).alloc (by simp; omega) _⟩

set_option maxHeartbeats 1000000 in
theorem checkEnds_any (a a' : Option Addr) (cap cap' : Nat) (l m : List (Int × Int)) (c d : Int) (w : World) (hl : l.length ≤ maxLen) (hm : m.length ≤ maxLen) (h : StepsAt w a l) (h' : StepsAt w a' m) :
    Calls Try.prog 25 #[.agg #[.slice a l.length cap, .int .i64 c], .agg #[.slice a' m.length cap', .int .i64 d]] w fun e w' => e = .returned (.int .i64 (ends l c m d)) ∧ Below w.heap.size w w' := by
  obtain ⟨W, hW, q0, q1, q2, q3, hz, hb0⟩ := boxesE w (.slice a l.length cap) (.int .i64 c) (.slice a' m.length cap') (.int .i64 d) 29 29 29
  have HW := hidE hW
  have HQ := hidE (And.intro q0 (And.intro q1 (And.intro q2 q3)))
  clear hW q0 q1 q2 q3
  go_enter Try.func25, Try.ntmps25
  go_wp2
  rw [← HW.out]
  obtain ⟨q0, q1, q2, q3⟩ := HQ.out
  clear HW HQ
  have zW : w.heap.size + 1 + 1 < W.heap.size := by omega
  clear hz
  go_loopw [12] (fun i wr => ∃ k : Nat, k ≤ 2 ∧ i = .int .i64 k ∧ (1 ≤ k → chkEnd l c = 0) ∧ (2 ≤ k → chkEnd m d = 0) ∧ Below W.heap.size W wr) (fun i _ => 2 - (intOf i).toNat)
  case atStart => exact ⟨0, by omega, rfl, by omega, by omega, Below.refl _ _⟩
  case round =>
    obtain ⟨k, hk, rfl, k1, k2, hb⟩ := hrel
    have hbw : Below w.heap.size w wr := hb0.thru hb hb0.size
    have p0 := (hb.cell (p := ⟨w.heap.size + 1 + 1, 0, none⟩) zW).trans q0
    have p1 := (hb.cell (p := ⟨w.heap.size + 1 + 1, 1, none⟩) zW).trans q1
    have p2 := (hb.cell (p := ⟨w.heap.size + 1 + 1, 2, none⟩) zW).trans q2
    have p3 := (hb.cell (p := ⟨w.heap.size + 1 + 1, 3, none⟩) zW).trans q3
    have hr := h.below hbw (Nat.le_refl _)
    have hr' := h'.below hbw (Nat.le_refl _)
    have K1 := hidE k1
    have K2 := hidE k2
    clear k1 k2 q0 q1 q2 q3
    rcases (show k = 0 ∨ k = 1 ∨ k = 2 by omega) with rfl | rfl | rfl
    · by_cases hn : l.length = 0 ∧ c = 0
      · have HN : Hid (chkEnd l c = 0) := by show _ = _; unfold chkEnd; rw [if_pos hn]
        obtain ⟨hn0, hc0⟩ := hn
        have hn0' : ((l.length : Int) == 0) = true := by rw [hn0]; rfl
        have hc0' : ((c : Int) == 0) = true := by rw [hc0]; rfl
        clear hn0 hc0
        go_wp2
        go_roundw
        case rel => exact ⟨1, by omega, by go_num, fun _ => HN.out, by omega, hb.alloc hb.size _⟩
        case measure => simp [intOf]
      · have HN : Hid (chkEnd l c = chk l c) := by show _ = _; unfold chkEnd; rw [if_neg hn]
        have hg : (((l.length : Int) == 0) = false ∧ l.length ≠ 0) ∨ ((l.length : Int) == 0) = true ∧ (c == 0) = false := by
          by_cases e : l.length = 0
          · right; exact ⟨by rw [e]; rfl, beq_eq_false_iff_ne.2 (fun e2 => hn ⟨e, e2⟩)⟩
          · left; exact ⟨beq_eq_false_iff_ne.2 (by omega), e⟩
        clear hn
        by_cases hk : chk l c = 0
        · have HK := hidE hk
          clear hk
          rcases hg with ⟨g0, _⟩ | ⟨g0, g1⟩
          all_goals
            go_wp2_with (go_at_call 14; refine (check_any _ _ l _ _ hl (by exact hr.below ((Below.refl _ _).alloc (Nat.le_refl _) _) (Nat.le_refl _))).mono ?_; rintro e w' ⟨rfl, hb1⟩; rw [HK.out])
            go_roundw
            case rel => exact ⟨1, by omega, by go_num, fun _ => HN.out.trans HK.out, by omega, (hb.alloc hb.size _).thru hb1 (by have := hb.size; simp; omega)⟩
            case measure => simp [intOf]
        · have hk' : (chk l c != 0) = true := by rw [bne_iff_ne]; exact hk
          have HK := hidE hk
          clear hk
          rcases hg with ⟨g0, _⟩ | ⟨g0, g1⟩
          all_goals
            go_wp2_with (go_at_call 14; refine (check_any _ _ l _ _ hl (by exact hr.below ((Below.refl _ _).alloc (Nat.le_refl _) _) (Nat.le_refl _))).mono ?_; rintro e w' ⟨rfl, hb1⟩)
            go_ret
            exact ⟨ret_int (by unfold ends orI; rw [HN.out, if_neg HK.out]), (hbw.alloc hbw.size _).thru hb1 (by have := hbw.size; simp; omega)⟩
    · by_cases hn : m.length = 0 ∧ d = 0
      · have HN : Hid (chkEnd m d = 0) := by show _ = _; unfold chkEnd; rw [if_pos hn]
        obtain ⟨hn0, hc0⟩ := hn
        have hn0' : ((m.length : Int) == 0) = true := by rw [hn0]; rfl
        have hc0' : ((d : Int) == 0) = true := by rw [hc0]; rfl
        clear hn0 hc0
        go_wp2
        go_roundw
        case rel => exact ⟨2, by omega, by go_num, fun _ => K1.out (Nat.le_refl _), fun _ => HN.out, hb.alloc hb.size _⟩
        case measure => simp [intOf]
      · have HN : Hid (chkEnd m d = chk m d) := by show _ = _; unfold chkEnd; rw [if_neg hn]
        have hg : (((m.length : Int) == 0) = false ∧ m.length ≠ 0) ∨ ((m.length : Int) == 0) = true ∧ (d == 0) = false := by
          by_cases e : m.length = 0
          · right; exact ⟨by rw [e]; rfl, beq_eq_false_iff_ne.2 (fun e2 => hn ⟨e, e2⟩)⟩
          · left; exact ⟨beq_eq_false_iff_ne.2 (by omega), e⟩
        clear hn
        by_cases hk : chk m d = 0
        · have HK := hidE hk
          clear hk
          rcases hg with ⟨g0, _⟩ | ⟨g0, g1⟩
          all_goals
            go_wp2_with (go_at_call 14; refine (check_any _ _ m _ _ hm (by exact hr'.below ((Below.refl _ _).alloc (Nat.le_refl _) _) (Nat.le_refl _))).mono ?_; rintro e w' ⟨rfl, hb1⟩; rw [HK.out])
            go_roundw
            case rel => exact ⟨2, by omega, by go_num, fun _ => K1.out (Nat.le_refl _), fun _ => HN.out.trans HK.out, (hb.alloc hb.size _).thru hb1 (by have := hb.size; simp; omega)⟩
            case measure => simp [intOf]
        · have hk' : (chk m d != 0) = true := by rw [bne_iff_ne]; exact hk
          have HK := hidE hk
          clear hk
          rcases hg with ⟨g0, _⟩ | ⟨g0, g1⟩
          all_goals
            go_wp2_with (go_at_call 14; refine (check_any _ _ m _ _ hm (by exact hr'.below ((Below.refl _ _).alloc (Nat.le_refl _) _) (Nat.le_refl _))).mono ?_; rintro e w' ⟨rfl, hb1⟩)
            go_ret
            exact ⟨ret_int (by unfold ends orI; rw [if_pos (K1.out (Nat.le_refl _)), HN.out]), (hbw.alloc hbw.size _).thru hb1 (by have := hbw.size; simp; omega)⟩
    · have e1 := K1.out (by omega)
      have e2 := K2.out (by omega)
      have HE : Hid (ends l c m d = 0) := by show _ = _; unfold ends orI; rw [if_pos e1, e2]
      clear e1 e2
      go_wp2
      go_ret
      exact ⟨ret_int HE.out.symm, hbw⟩
end Go.Proofs.Ytcggeeejkgndmad
