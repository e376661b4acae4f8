import Derived.Test.YtfekbfjfjohofaaAtomCk
import Derived.Deep.OwnRows
import Derived.Laws.BytesArg
import Derived.Laws.Concat
namespace Go.Proofs.Ytfekbfjfjohofaa
open Go.RowKit

theorem strOfNums_snoc (xs : List Int) (n : Int) : strOfNums (xs ++ [n]) = strOfNums xs ++ strOfNums [n] := by
  apply ByteArray.ext
  simp [strOfNums, ByteArray.data_append]

set_option maxRecDepth 100000 in
set_option maxHeartbeats 2000000 in
theorem textOf_ok (a : Option Addr) (cap : Nat) (l : List At) (w : World) (h : AtomsAt w a l) (h300 : l.length ≤ 300) :
    Calls Try.prog 24 #[.slice a l.length cap] w fun e w' => e = .returned (.string (strOfNums (l.map At.sign))) ∧ Below w.heap.size w w' := by
  have hcv : ∀ (w : World) (x : Int), (convert 80 9 (.slice (some ⟨w.heap.size, 0, none⟩) 1 1)).run Try.prog (w.alloc (.cells #[.int .u8 x] 5)) = .ok (.string (strOfNums [x])) (w.alloc (.cells #[.int .u8 x] 5)) := by
    intro w x
    refine run_convert_bytes_arg (P := Try.prog) _ 80 5 Try.underlying80 Try.underlying5 w.heap.size 0 1 1 [x] rfl (fun i hi => ?_) 9 Try.underlying9
    have : i = 0 := by omega
    subst this
    simp
  go_enter Try.func24, Try.ntmps24
  go_wp2
  go_loopw [3, 4] (fun s i wr => ∃ k : Nat, k ≤ l.length ∧ i = .int .i64 k ∧ s = .string (strOfNums ((l.take k).map At.sign)) ∧ Below w.heap.size w wr) (fun _ i _ => l.length - (intOf i).toNat)
  case atStart => exact ⟨0, Nat.zero_le _, rfl, rfl, Below.refl _ _⟩
  case round =>
    obtain ⟨k, hk, rfl, rfl, hb⟩ := hrel
    by_cases hlt : k < l.length
    · rcases h.below hb (Nat.le_refl _) with hs | ⟨ab, ao, rfl, hab, hc⟩
      · simp [hs] at hlt
      obtain ⟨p, cp, c0, c1, c2, hst, hle, _⟩ := hc k hlt
      have hi1 : (k : Int) < l.length := by omega
      have HS : Hid (strOfNums ((l.take (k + 1)).map At.sign) = strOfNums ((l.take k).map At.sign) ++ strOfNums [l[k].sign]) := by
        show _ = _
        rw [List.take_succ_eq_append_getElem hlt, List.map_append, ← strOfNums_snoc]; rfl
      have hsz : (strOfNums ((l.take k).map At.sign)).size = k := by rw [strOfNums_size]; simp; omega
      have hsz1 : (strOfNums [l[k].sign]).size = 1 := by rw [strOfNums_size]; rfl
      generalize strOfNums ((l.take k).map At.sign) = sk at *
      have hcvk := hcv wr l[k].sign
      clear hc h hcv
      generalize l[k].sign = xk at *
      generalize strOfNums [xk] = sx at *
      go_wp2_with fail

      go_roundw
      case rel => exact ⟨k + 1, by omega, by go_num, by rw [HS.out], hb.alloc hb.size _⟩
      case measure => simp [intOf]; omega
    · have hkl : k = l.length := by omega
      subst hkl
      rw [List.take_length]
      go_wp2
      go_ret
      exact ⟨rfl, hb⟩
end Go.Proofs.Ytfekbfjfjohofaa
