/- at; Next and Order at lengths that are named. -/
import Derived.Test.YtnhjebdlcbhkcadBase
namespace Go.Proofs.Ytnhjebdlcbhkcad
open Go.RowKit

set_option maxHeartbeats 1000000 in
theorem at_any (d s c : Int) (w : World) :
    Calls Try.prog 31 #[.int .i64 d, .int .i64 s, .int .i64 c] w fun e w' => e = .returned (.agg #[.slice (some ⟨w.heap.size + 1, 0, none⟩) 1 1, .int .i64 c]) ∧ StepsAt w' (some ⟨w.heap.size + 1, 0, none⟩) [(d, s)] ∧ Below w.heap.size w w' := by
  go_enter Try.func31, Try.ntmps31
  go_wp2
  refine bodyPost_ret (v := .agg #[.slice (some ⟨w.heap.size + 1, 0, none⟩) 1 1, .int .i64 c]) (by simp [results, Try.results31, go_sem]) rfl ⟨rfl, ?_, ?_⟩
  · have := stepsAt_new (w.alloc (Obj.cells #[.slice (some ⟨w.heap.size + 1, 0, none⟩) 1 1, .int .i64 c] 29)) [(d, s)]
    simpa [flatS] using this
  · exact ((Below.refl _ _).alloc (Nat.le_refl _) _).alloc (by simp) _

theorem next_n (a : Option Addr) (cap k : Nat) (l : List (Int × Int)) (c n : Int) (w : World) (hk : k = l.length) (hl : l.length ≤ maxLen) (h : StepsAt w a l) :
    Calls Try.prog 32 #[.agg #[.slice a k cap, .int .i64 c], .int .i64 n] w (NextGives w l c n) := by
  subst hk; exact next_any a cap l c n w hl h
theorem order_n (a a' : Option Addr) (cap cap' n n' : Nat) (l m : List (Int × Int)) (c d : Int) (w : World) (hn : n = l.length) (hn' : n' = m.length) (hl : l.length ≤ maxLen) (hm : m.length ≤ maxLen) (h : StepsAt w a l) (h' : StepsAt w a' m) :
    Calls Try.prog 13 #[.agg #[.slice a n cap, .int .i64 c], .agg #[.slice a' n' cap', .int .i64 d]] w fun e w' => e = .returned (.int .i64 (ordM l c m d)) ∧ Below w.heap.size w w' := by
  subst hn hn'; exact order_any a a' cap cap' l m c d w hl hm h h'
end Go.Proofs.Ytnhjebdlcbhkcad

namespace Go.Proofs.Ytnhjebdlcbhkcad
open Go.RowKit

theorem owns_form {w : World} {base : Nat} {e : TypeId} {size : Nat} {v : Value} {n : Nat} {xs : List Value} (h : w.ownsRow base e size v n xs) (hn : 0 < n) : ∃ g cap, v = .slice (some ⟨g, 0, none⟩) n cap := by
  rcases h.2 with ⟨_, h0⟩ | ⟨g, cap, cur, rfl, _⟩
  · omega
  · exact ⟨g, cap, rfl⟩

theorem keepB {w1 w' : World} {z : Nat} {v0 v1 : Value} (hb : Below w1.heap.size w1 w') (q0 : w1.cell? ⟨z, 0, none⟩ = some v0) (q1 : w1.cell? ⟨z, 1, none⟩ = some v1) (hz : z < w1.heap.size) :
    Below w1.heap.size w1 w' ∧ w'.cell? ⟨z, 0, none⟩ = some v0 ∧ w'.cell? ⟨z, 1, none⟩ = some v1 :=
  ⟨hb, (hb.cell (p := ⟨z, 0, none⟩) hz).trans q0, (hb.cell (p := ⟨z, 1, none⟩) hz).trans q1⟩

end Go.Proofs.Ytnhjebdlcbhkcad
