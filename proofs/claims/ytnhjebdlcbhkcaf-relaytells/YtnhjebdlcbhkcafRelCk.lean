/- Contracts of relay.Check and of the reference's HowMany. -/
import Derived.Test.YtnhjebdlcbhkcafCountC
namespace Go.Proofs.Ytnhjebdlcbhkcaf
open Go.RowKit

set_option maxRecDepth 100000 in
set_option maxHeartbeats 1000000 in
theorem relayCheck_any (a : Option Addr) (c : Nat) (ns : List Nt) (w : World) (h : NotesAt w a ns) (hl : ns.length ≤ maxLen) :
    Calls Try.prog 10 #[.agg #[.slice a ns.length c]] w fun e w' => e = .returned (.int .i64 (chkRel ns)) ∧ Below w.heap.size w w' := by
  have hA := alloc_below w (Obj.cells #[.slice a ns.length c] 24)
  have hN := Blk.new w #[.slice a ns.length c] 24
  have H1 := hidE (count_any a c ns _ (h.below hA) hl)
  go_enter Try.func10, Try.ntmps10
  go_upto_region 1 with fail
  generalize w.alloc (Obj.cells #[.slice a ns.length c] 24) = W at *
  have n0 := hN.is 0 rfl
  have HA := hidE hA
  clear hN h hl hA
  go_wp2_with (go_at_call 12; refine H1.out.mono ?_; rintro r w1 ⟨m, rfl, _, hb⟩)
  go_ret
  exact ⟨rfl, HA.out.thru hb HA.out.size⟩

theorem cntS_step {ns : List Nt} {k : Nat} (h : k < ns.length) (s : Int) : (cntS s (ns.take (k + 1)) : Int) = (cntS s (ns.take k) : Int) + (if ns[k].site = s then 1 else 0) := by
  rw [List.take_succ_eq_append_getElem h, cntS_snoc]
  split <;> simp

set_option maxRecDepth 100000 in
set_option maxHeartbeats 1000000 in
theorem howMany_any (a : Option Addr) (c : Nat) (ns : List Nt) (s : Int) (w : World) (h : NotesAt w a ns) (hl : ns.length ≤ 100000) :
    Calls Try.prog 8 #[.slice a ns.length c, .int .i64 s] w fun e w' => e = .returned (.int .i64 (cntS s ns)) ∧ Below w.heap.size w w' := by
  go_enter Try.func8, Try.ntmps8
  go_wp2
  go_loopw [5, 6] (fun v i wr => ∃ k : Nat, k ≤ ns.length ∧ i = .int .i64 k ∧ v = .int .i64 (cntS s (ns.take k)) ∧ wr = w) (fun _ i _ => ns.length - (intOf i).toNat)
  case atStart => exact ⟨0, Nat.zero_le _, rfl, rfl, rfl⟩
  case round =>
    obtain ⟨k, hk, rfl, rfl, rfl⟩ := hrel
    rcases Nat.lt_or_ge k ns.length with hlt | hge
    · have hi1 : (k : Int) < ns.length := by omega
      rcases h with e0 | ⟨b, o, rfl, hb, hc⟩
      · simp [e0] at hlt
      obtain ⟨p1, cp1, q1, cq1, c0, _⟩ := hc k hlt
      have HS := hidE (cntS_step hlt s)
      have hle := cntS_le s (ns.take k)
      rw [List.length_take] at hle
      have hq : (cntS s (ns.take k) : Int) ≤ 100000 := by omega
      have hq0 : 0 ≤ (cntS s (ns.take k) : Int) := by omega
      clear hc hle
      generalize ns[k].site = t at *
      generalize (cntS s (ns.take k) : Int) = ct at *
      by_cases hs : t = s
      · rw [if_pos hs] at HS
        have hd : (t == s) = true := by simpa using hs
        clear hs
        go_wp2_with fail
        go_roundw
        case rel => exact ⟨k + 1, hlt, by go_num, by rw [HS.out], trivial⟩
        case measure => simp [intOf]; omega
      · rw [if_neg hs, Int.add_zero] at HS
        have hd : (t == s) = false := by simpa using hs
        clear hs
        go_wp2_with fail
        go_roundw
        case rel => exact ⟨k + 1, hlt, by go_num, by rw [HS.out], trivial⟩
        case measure => simp [intOf]; omega
    · have hki : k = ns.length := by omega
      subst hki
      have hi1 : ¬ ((ns.length : Int) < (ns.length : Int)) := by omega
      clear h hk hge
      rw [List.take_length]
      go_wp2_with fail
      go_ret
      exact ⟨rfl, Below.refl _ _⟩

end Go.Proofs.Ytnhjebdlcbhkcaf
