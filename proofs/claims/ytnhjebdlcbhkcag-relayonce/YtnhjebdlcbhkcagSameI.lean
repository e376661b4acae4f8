/- Contract of the reference's SameInts. -/
import Derived.Test.YtnhjebdlcbhkcagIntsC
import Derived.Test.YtnhjebdlcbhkcagAtomCkR
namespace Go.Proofs.Ytnhjebdlcbhkcag
open Go.RowKit

set_option maxRecDepth 100000 in
set_option maxHeartbeats 1000000 in
theorem sameInts_any (a a' : Option Addr) (cap cap' : Nat) (l m : List Int) (w : World) (hl : l.length ≤ maxLen) (hl' : m.length ≤ maxLen) (h : IntsAt w a l) (h' : IntsAt w a' m) :
    Calls Try.prog 25 #[.slice a l.length cap, .slice a' m.length cap'] w fun e w' => e = .returned (.bool (decide (l = m))) ∧ Below w.heap.size w w' := by
  unfold maxLen at hl hl'
  by_cases hlm : l.length = m.length
  case neg =>
    have HF : Hid (decide (l = m) = false) := decide_eq_false (fun e => hlm (by rw [e]))
    have hd : ((l.length : Int) != m.length) = true := by rw [bne_iff_ne]; omega
    go_enter Try.func25, Try.ntmps25
    go_wp2_with fail
    go_ret
    exact ⟨ret_bool HF.out.symm, Below.refl _ _⟩
  have HL := hidE hlm
  go_enter Try.func25, Try.ntmps25
  generalize hmn : m.length = mn at hlm hl'
  have HM := hidE hmn
  clear hmn
  subst hlm
  go_wp2_with fail
  go_loopw [5] (fun i wr => ∃ k : Nat, k ≤ l.length ∧ i = .int .i64 k ∧ l.take k = m.take k ∧ Below w.heap.size w wr) (fun i _ => l.length - (intOf i).toNat)
  case atStart => exact ⟨0, Nat.zero_le _, rfl, by simp, Below.refl _ _⟩
  case round =>
    obtain ⟨k, hk, rfl, hck, hb⟩ := hrel
    have HK := hidE hck
    clear hck
    by_cases hlt : k < l.length
    · have hlt' : k < m.length := by have := HM.out; omega
      rcases h.below hb with e | ⟨b, o, rfl, hbl, hc⟩
      · rw [e] at hlt; simp at hlt
      rcases h'.below hb with e | ⟨b', o', rfl, hbl', hc'⟩
      · rw [e] at hlt'; simp at hlt'
      have c0 := hc k hlt
      have c1 := hc' k hlt'
      have HN : Hid (l[k] = m[k] → l.take (k + 1) = m.take (k + 1)) := fun e => by
        rw [List.take_succ_eq_append_getElem hlt, List.take_succ_eq_append_getElem hlt', HK.out, e]
      have HX : Hid (l[k] ≠ m[k] → decide (l = m) = false) := fun e => decide_eq_false (fun e1 => e (by simp [e1]))
      have hi1 : (k : Int) < l.length := by omega
      clear hc hc' h h'
      generalize l[k] = x at c0 HN HX
      generalize m[k] = y at c1 HN HX
      have k0 := cell_regrown c0
      have k1 := cell_regrown c1
      go_upto_region 6 with fail
      refine wp_region_quiet_below (by kernel_rfl) (by kernel_rfl) ?_
      repeat (first | go_big_quiet_step (fail) | quiet_step (fail))
      refine wpQuiet_nil ?_
      intro _ hw'
      obtain ⟨⟨dq, osq⟩, hw''⟩ := hw'
      subst hw''
      replace hb := hb.thru (below_regrown wr dq osq) hb.size
      by_cases hxy : x = y
      · subst hxy
        go_wp2_with fail
        go_roundw
        case rel => exact ⟨k + 1, by omega, by go_num, HN.out rfl, hb⟩
        case measure => simp [intOf]; omega
      · have hd : (x != y) = true := by rw [bne_iff_ne]; exact hxy
        have HF := hidE (HX.out hxy)
        clear hxy HX HN
        go_wp2_with fail
        go_ret
        exact ⟨ret_bool HF.out.symm, hb⟩
    · have HF : Hid (decide (l = m) = true) := decide_eq_true (by
        have := HK.out
        rw [List.take_of_length_le (by omega), List.take_of_length_le (by have := HM.out; omega)] at this
        exact this)
      go_wp2_with fail
      go_ret
      exact ⟨ret_bool HF.out.symm, hb⟩
end Go.Proofs.Ytnhjebdlcbhkcag
