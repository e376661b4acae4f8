/- The reference's Put, as a plain function. -/
import Derived.Test.YtcggeeejkgndmabPutA
namespace Go.Proofs.Ytcggeeejkgndmab

def putL (l m : List At) : List At := m.foldl (fun acc a => putA a acc false) l

theorem stepPut_len (a x : At) (put : Bool) : (stepPut a x put).1.length + (if put then 1 else 0) ≤ 1 + (if (stepPut a x put).2 then 1 else 0) := by
  unfold stepPut
  by_cases h1 : 0 < ordA x a
  · rw [if_pos h1]; cases put <;> simp
  · rw [if_neg h1]
    by_cases h2 : ordA x a = 0
    · rw [if_pos h2]; cases put <;> simp
    · rw [if_neg h2]; cases put <;> simp
theorem putA_len (a : At) : ∀ (l : List At) (put : Bool), (putA a l put).length + (if put then 1 else 0) ≤ l.length + 1
  | [], put => by cases put <;> simp [putA]
  | x :: l, put => by
    have h1 := stepPut_len a x put
    have h2 := putA_len a l (stepPut a x put).2
    show ((stepPut a x put).1 ++ putA a l (stepPut a x put).2).length + _ ≤ _
    rw [List.length_append, List.length_cons]
    omega

end Go.Proofs.Ytcggeeejkgndmab
