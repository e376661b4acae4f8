/- Contract of the reference's CaretAt. -/
import Derived.Test.YtcggeeejkgndmacCaretPu
namespace Go.Proofs.Ytcggeeejkgndmac
open Go.RowKit

/-- how many of the atoms from a place on stand up to a mark -/
theorem caretN_step {l : List At} {m : List (Int × Int)} {d : Int} {k : Nat} (h : k < l.length) : caretN (l.take (k + 1)) m d = caretN (l.take k) m d + if ordM l[k].path l[k].clock m d ≤ 0 then 1 else 0 := by
  unfold caretN
  rw [List.take_succ_eq_append_getElem h, List.countP_append]
  congr 1
  by_cases e : ordM l[k].path l[k].clock m d ≤ 0
  · rw [if_pos e]; simp [e]
  · rw [if_neg e]; simp [e]

theorem caretN_le (l : List At) (m : List (Int × Int)) (d : Int) : caretN l m d ≤ l.length := List.countP_le_length

/-- what the reference counts -/
def cntN (l : List At) (m : List (Int × Int)) (d : Int) : Nat := if (m.length == 0 && d == 0) = true then 0 else caretN l m d

theorem cntN_step {l : List At} {m : List (Int × Int)} {d : Int} {k : Nat} (h : k < l.length) : cntN (l.take (k + 1)) m d = cntN (l.take k) m d + if (m.length == 0 && d == 0) = true then 0 else if ordM l[k].path l[k].clock m d ≤ 0 then 1 else 0 := by
  unfold cntN
  by_cases e : (m.length == 0 && d == 0) = true
  · rw [if_pos e, if_pos e, if_pos e]
  · rw [if_neg e, if_neg e, if_neg e, caretN_step h]
theorem cntN_le (l : List At) (m : List (Int × Int)) (d : Int) : cntN l m d ≤ l.length := by
  unfold cntN
  split
  · exact Nat.zero_le _
  · exact caretN_le l m d

set_option maxRecDepth 100000 in
set_option maxHeartbeats 4000000 in
theorem caretAtR_ok (a b a' : Option Addr) (cap cap' cp : Nat) (l : List At) (G : Nat) (m : List (Int × Int)) (d : Int) (w : World) (hl : l.length ≤ 300) (hm : m.length ≤ maxLen) (h : AtomsAt w a l) (h' : StepsAt w a' m) :
    Calls Try.prog 18 #[.agg #[.slice a l.length cap, .slice b G cap'], .agg #[.slice a' m.length cp, .int .i64 d]] w fun e w' => e = .returned (.int .i64 (cntN l m d)) ∧ Below w.heap.size w w' := by
  have hB := ((Below.refl w.heap.size w).alloc (Nat.le_refl _) (Obj.cells #[.slice a l.length cap, .slice b G cap'] 32)).alloc (by simp) (Obj.cells #[.slice a' m.length cp, .int .i64 d] 41)
  have q0 : ((w.alloc (Obj.cells #[.slice a l.length cap, .slice b G cap'] 32)).alloc (Obj.cells #[.slice a' m.length cp, .int .i64 d] 41)).cell? ⟨w.heap.size, 0, none⟩ = some (.slice a l.length cap) := by simp
  have m0 : ((w.alloc (Obj.cells #[.slice a l.length cap, .slice b G cap'] 32)).alloc (Obj.cells #[.slice a' m.length cp, .int .i64 d] 41)).cell? ⟨w.heap.size + 1, 0, none⟩ = some (.slice a' m.length cp) := by simp
  have m1 : ((w.alloc (Obj.cells #[.slice a l.length cap, .slice b G cap'] 32)).alloc (Obj.cells #[.slice a' m.length cp, .int .i64 d] 41)).cell? ⟨w.heap.size + 1, 1, none⟩ = some (.int .i64 d) := by simp
  have z : w.heap.size + 1 < ((w.alloc (Obj.cells #[.slice a l.length cap, .slice b G cap'] 32)).alloc (Obj.cells #[.slice a' m.length cp, .int .i64 d] 41)).heap.size := by simp
  replace h := h.below hB (Nat.le_refl _)
  replace h' := h'.below hB (Nat.le_refl _)
  go_enter Try.func18, Try.ntmps18
  go_upto_region 1 with fail
  generalize (w.alloc (Obj.cells #[.slice a l.length cap, .slice b G cap'] 32)).alloc (Obj.cells #[.slice a' m.length cp, .int .i64 d] 41) = W at hB q0 m0 m1 z h h' ⊢
  generalize w.heap.size = Z at q0 m0 m1 z
  have z0 : Z < W.heap.size := by omega
  go_wp2_with fail
  have HN := hidE (fun (W : World) => isNone_any a' cp m.length d W)
  generalize hnn : (m.length == 0 && d == 0) = nn at HN
  have HNN := hidE hnn
  clear hnn
  go_loopw [5, 6] (fun n i wr => ∃ k : Nat, k ≤ l.length ∧ i = .int .i64 k ∧ n = .int .i64 (cntN (l.take k) m d) ∧ Below W.heap.size W wr) (fun _ i _ => l.length - (intOf i).toNat)
  case atStart => exact ⟨0, Nat.zero_le _, rfl, by unfold cntN caretN; split <;> rfl, Below.refl _ _⟩
  case round =>
    obtain ⟨k, hk, rfl, rfl, hb⟩ := hrel
    replace q0 := (hb.cell (p := ⟨Z, 0, none⟩) z0).trans q0
    replace m0 := (hb.cell (p := ⟨Z + 1, 0, none⟩) z).trans m0
    replace m1 := (hb.cell (p := ⟨Z + 1, 1, none⟩) z).trans m1
    replace h' := h'.below hb (Nat.le_refl _)
    replace hB := hB.thru hb hB.size
    by_cases hlt : k < l.length
    · rcases h.below hb (Nat.le_refl _) with hs | ⟨ab, ao, rfl, hab, hc⟩
      · simp [hs] at hlt
      obtain ⟨p, cq, c0, c1, c2, hst, hle, _⟩ := hc k hlt
      have hi1 : (k : Int) < l.length := by omega
      have HST := hidE (cntN_step (m := m) (d := d) hlt)
      have hle1 : cntN (l.take k) m d ≤ 300 := by have := cntN_le (l.take k) m d; simp at this; omega
      generalize cntN (l.take k) m d = cn at HST hle1 ⊢
      generalize l[k].path = pk at *
      generalize l[k].clock = ck at *
      generalize l[k].sign = sk at *
      clear hc h
      have k0 := cell_regrown c0
      have k1 := cell_regrown c1
      have k2 := cell_regrown c2
      have k3 := cell_regrown q0
      have k4 := cell_regrown m0
      have k5 := cell_regrown m1
      have S1 := hidE (fun d os => hst.below (below_regrown wr d os) (Nat.le_refl _))
      have S2 := hidE (fun d os => h'.below (below_regrown wr d os) (Nat.le_refl _))
      cases nn
      · have HS2 : Hid (cntN (l.take (k + 1)) m d = cn + if ordM pk ck m d ≤ 0 then 1 else 0) := by show _ = _; rw [HST.out, HNN.out]; rfl
        clear HST
        go_wp2_with fail
        refine wp_region_quiet_below (by kernel_rfl) (by kernel_rfl) ?_
        repeat (first | go_big_quiet_step (first | (go_at_call 16; exact Calls.regrown_of (HN.out _)) | (go_at_call 56; exact Calls.regrown_of (orderOf_any _ _ _ _ pk m _ _ _ hle hm (S1.out _ _) (S2.out _ _)))) | quiet_step (first | (go_at_call 16; exact Calls.regrown_of (HN.out _)) | (go_at_call 56; exact Calls.regrown_of (orderOf_any _ _ _ _ pk m _ _ _ hle hm (S1.out _ _) (S2.out _ _)))))
        refine wpQuiet_nil ?_
        intro _ hw'
        obtain ⟨⟨dq, osq⟩, hw''⟩ := hw'
        subst hw''
        clear k0 k1 k2 k3 k4 k5
        by_cases ho : ordM pk ck m d ≤ 0
        · have HS3 : Hid (cntN (l.take (k + 1)) m d = cn + 1) := by show _ = _; rw [HS2.out, if_pos ho]
          go_wp2
          go_roundw
          case rel => exact ⟨k + 1, by omega, by go_num, by rw [HS3.out]; go_num, hb.thru (below_regrown _ _ _) hb.size⟩
          case measure => simp [intOf]; omega
        · have HS3 : Hid (cntN (l.take (k + 1)) m d = cn) := by show _ = _; rw [HS2.out, if_neg ho]; rfl
          go_wp2
          go_roundw
          case rel => exact ⟨k + 1, by omega, by go_num, by rw [HS3.out], hb.thru (below_regrown _ _ _) hb.size⟩
          case measure => simp [intOf]; omega
      · have HS2 : Hid (cntN (l.take (k + 1)) m d = cn) := by show _ = _; rw [HST.out, HNN.out]; rfl
        clear HST
        go_wp2_with fail
        refine wp_region_quiet_below (by kernel_rfl) (by kernel_rfl) ?_
        repeat (first | go_big_quiet_step ((go_at_call 16; exact Calls.regrown_of (HN.out _))) | quiet_step ((go_at_call 16; exact Calls.regrown_of (HN.out _))))
        refine wpQuiet_nil ?_
        intro _ hw'
        obtain ⟨⟨dq, osq⟩, hw''⟩ := hw'
        subst hw''
        go_wp2
        go_roundw
        case rel => exact ⟨k + 1, by omega, by go_num, by rw [HS2.out], hb.thru (below_regrown _ _ _) hb.size⟩
        case measure => simp [intOf]; omega
    · have HF : Hid (cntN (l.take k) m d = cntN l m d) := by show _ = _; rw [List.take_of_length_le (by omega)]
      go_wp2
      go_ret
      exact ⟨ret_int (by rw [HF.out]), hB⟩
end Go.Proofs.Ytcggeeejkgndmac
