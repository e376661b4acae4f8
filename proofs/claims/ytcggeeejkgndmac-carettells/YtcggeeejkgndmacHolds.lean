/- at; Next and Order at lengths that are named. -/
import Derived.Test.YtcggeeejkgndmacBase
namespace Go.Proofs.Ytcggeeejkgndmac
open Go.RowKit

set_option maxHeartbeats 1000000 in
theorem at_any (d s c : Int) (w : World) :
    Calls Try.prog 57 #[.int .i64 d, .int .i64 s, .int .i64 c] w fun e w' => e = .returned (.agg #[.slice (some ⟨w.heap.size + 1, 0, none⟩) 1 1, .int .i64 c]) ∧ StepsAt w' (some ⟨w.heap.size + 1, 0, none⟩) [(d, s)] ∧ Below w.heap.size w w' := by
  go_enter Try.func57, Try.ntmps57
  go_wp2
  refine bodyPost_ret (v := .agg #[.slice (some ⟨w.heap.size + 1, 0, none⟩) 1 1, .int .i64 c]) (by simp [results, Try.results57, go_sem]) rfl ⟨rfl, ?_, ?_⟩
  · have := stepsAt_new (w.alloc (Obj.cells #[.slice (some ⟨w.heap.size + 1, 0, none⟩) 1 1, .int .i64 c] 41)) [(d, s)]
    simpa [flatS] using this
  · exact ((Below.refl _ _).alloc (Nat.le_refl _) _).alloc (by simp) _

theorem next_n (a : Option Addr) (cap k : Nat) (l : List (Int × Int)) (c n : Int) (w : World) (hk : k = l.length) (hl : l.length ≤ maxLen) (h : StepsAt w a l) :
    Calls Try.prog 120 #[.agg #[.slice a k cap, .int .i64 c], .int .i64 n] w (NextGives w l c n) := by
  subst hk; exact next_any a cap l c n w hl h
theorem order_n (a a' : Option Addr) (cap cap' n n' : Nat) (l m : List (Int × Int)) (c d : Int) (w : World) (hn : n = l.length) (hn' : n' = m.length) (hl : l.length ≤ maxLen) (hm : m.length ≤ maxLen) (h : StepsAt w a l) (h' : StepsAt w a' m) :
    Calls Try.prog 54 #[.agg #[.slice a n cap, .int .i64 c], .agg #[.slice a' n' cap', .int .i64 d]] w fun e w' => e = .returned (.int .i64 (ordM l c m d)) ∧ Below w.heap.size w w' := by
  subst hn hn'; exact order_any a a' cap cap' l m c d w hl hm h h'
end Go.Proofs.Ytcggeeejkgndmac
