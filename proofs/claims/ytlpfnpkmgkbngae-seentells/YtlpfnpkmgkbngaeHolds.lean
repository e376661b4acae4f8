/- at; Next and Order at lengths that are named. -/
import Derived.Test.YtlpfnpkmgkbngaeBase
namespace Go.Proofs.Ytlpfnpkmgkbngae
open Go.RowKit

set_option maxHeartbeats 1000000 in
theorem at_any (d s c : Int) (w : World) :
    Calls Try.prog 40 #[.int .i64 d, .int .i64 s, .int .i64 c] w fun e w' => e = .returned (.agg #[.slice (some ⟨w.heap.size + 1, 0, none⟩) 1 1, .int .i64 c]) ∧ StepsAt w' (some ⟨w.heap.size + 1, 0, none⟩) [(d, s)] ∧ Below w.heap.size w w' := by
  go_enter Try.func40, Try.ntmps40
  go_wp2
  refine bodyPost_ret (v := .agg #[.slice (some ⟨w.heap.size + 1, 0, none⟩) 1 1, .int .i64 c]) (by simp [results, Try.results40, go_sem]) rfl ⟨rfl, ?_, ?_⟩
  · have := stepsAt_new (w.alloc (Obj.cells #[.slice (some ⟨w.heap.size + 1, 0, none⟩) 1 1, .int .i64 c] 47)) [(d, s)]
    simpa [flatS] using this
  · exact ((Below.refl _ _).alloc (Nat.le_refl _) _).alloc (by simp) _

theorem next_n (a : Option Addr) (cap k : Nat) (l : List (Int × Int)) (c n : Int) (w : World) (hk : k = l.length) (hl : l.length ≤ maxLen) (h : StepsAt w a l) :
    Calls Try.prog 44 #[.agg #[.slice a k cap, .int .i64 c], .int .i64 n] w (NextGives w l c n) := by
  subst hk; exact next_any a cap l c n w hl h
end Go.Proofs.Ytlpfnpkmgkbngae
