/- Contracts of the reference's lastSite, CheckPut. -/
import Derived.Test.YtnhjebdlcbhkcaeGreatCaretPu
import Derived.Test.YtnhjebdlcbhkcaeGreatChkBtw
import Derived.Test.YtnhjebdlcbhkcaeGreatStateCkR
namespace Go.Proofs.YtnhjebdlcbhkcaeGreat
open Go.RowKit

set_option maxHeartbeats 1000000 in
theorem lastSite_any (a : Option Addr) (cap : Nat) (l : List (Int × Int)) (c : Int) (w : World) (h0 : 0 < l.length) (hl : l.length ≤ maxLen) (h : StepsAt w a l) :
    Calls Tryz.prog 108 #[.agg #[.slice a l.length cap, .int .i64 c]] w fun e w' => e = .returned (.int .i64 (lastS l).2) ∧ Below w.heap.size w w' := by
  unfold maxLen at hl
  rcases h with hs | ⟨b, off, rfl, hbl, hc⟩
  · simp [hs] at h0
  obtain ⟨-, q⟩ := hc (l.length - 1) (by omega)
  have hg : l[l.length - 1]'(by omega) = lastS l := by unfold lastS; rw [List.getD_eq_getElem?_getD, List.getElem?_eq_getElem (by omega)]; rfl
  rw [hg] at q
  clear hc hg
  generalize (lastS l).2 = ls at *
  obtain ⟨n, hn⟩ : ∃ n, l.length = n + 1 := ⟨l.length - 1, by omega⟩
  rw [hn] at hl q ⊢
  rw [Nat.add_sub_cancel] at q
  clear hn h0
  have hbA := (Below.refl w.heap.size w).alloc (Nat.le_refl _) (Obj.cells #[.slice (some ⟨b, off, none⟩) (n + 1) cap, .int .i64 c] 42)
  have q' := (hbA.cell (p := ⟨b, off + n * 2 + 1, none⟩) hbl).trans q
  have y0 : (w.alloc (Obj.cells #[.slice (some ⟨b, off, none⟩) (n + 1) cap, .int .i64 c] 42)).cell? ⟨w.heap.size, 0, none⟩ = some (.slice (some ⟨b, off, none⟩) (n + 1) cap) := by simp
  have HB := hidE hbA
  have hw1 : IntKind.i64.wrap (((n + 1 : Nat) : Int) - 1) = (n : Int) := by rw [IntKind.wrap_i64] <;> omega
  have hj1 : (n : Int) < ((n + 1 : Nat) : Int) := by omega
  clear q hbl
  go_enter Tryz.func108, Tryz.ntmps108
  go_upto_region 1 with fail
  generalize w.alloc (Obj.cells #[.slice (some ⟨b, off, none⟩) (n + 1) cap, .int .i64 c] 42) = W at *
  go_wp2_with fail
  go_ret
  exact ⟨rfl, HB.out⟩

end Go.Proofs.YtnhjebdlcbhkcaeGreat
