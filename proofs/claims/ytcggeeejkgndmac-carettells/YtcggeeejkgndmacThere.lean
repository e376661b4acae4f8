/- Contract of state.isThere. -/
import Derived.Test.YtcggeeejkgndmacSearchT
namespace Go.Proofs.Ytcggeeejkgndmac
open Go.RowKit

theorem found_has {l : List At} (hok : OkL l) {m : List (Int × Int)} {d : Int} {i : Nat} {f : Bool} (hc : Cut l m d i i) (hf : f = true ↔ ∃ h : i < l.length, ordM l[i].path l[i].clock m d = 0) : f = hasMk l m d := by
  cases f with
  | true =>
    obtain ⟨h, h0⟩ := hf.1 rfl
    symm
    unfold hasMk
    rw [List.any_eq_true]
    exact ⟨l[i], List.getElem_mem h, by simpa using h0⟩
  | false =>
    have hn : ¬ ∃ h : i < l.length, ordM l[i].path l[i].clock m d = 0 := fun h => by simpa using hf.2 h
    symm
    unfold hasMk
    rw [List.any_eq_false]
    intro x hx
    obtain ⟨j, hj, rfl⟩ := List.getElem_of_mem hx
    rw [gone_none hok hc hn hj]
    decide

set_option maxRecDepth 100000 in
set_option maxHeartbeats 2000000 in
theorem isThere_ok (a a' : Option Addr) (cap cap' : Nat) (l : List At) (m : List (Int × Int)) (d : Int) (w : World) (hok : OkL l) (hm : m.length ≤ maxLen) (h : AtomsAt w a l) (h' : StepsAt w a' m) :
    Calls Try.prog 90 #[.slice a l.length cap, .agg #[.slice a' m.length cap', .int .i64 d]] w fun e w' => e = .returned (.bool (hasMk l m d)) ∧ Below w.heap.size w w' := by
  have hb1 : Below w.heap.size w (w.alloc (Obj.cells #[.slice a' m.length cap', .int .i64 d] 41)) := (Below.refl _ _).alloc (Nat.le_refl _) _
  have HP := hidE (parts_of hok m d)
  have HOK := hidE hok
  have hl : l.length ≤ 1000 := by have := hok.len; omega
  clear hok
  go_enter Try.func90, Try.ntmps90
  go_wp2_with fail
  refine (searchT_any _ _ _ _ l m _ _ hl hm (h.below hb1 (Nat.le_refl _)) (h'.below hb1 (Nat.le_refl _)) HP.out).mono ?_
  rintro e w2 ⟨i, hi, hc, f, rfl, hf, hb⟩
  have HFH := hidE (found_has HOK.out hc hf)
  clear hc hf
  go_wp2_with fail
  go_ret
  exact ⟨by rw [← HFH.out]; rfl, hb1.thru hb hb1.size⟩
end Go.Proofs.Ytcggeeejkgndmac
