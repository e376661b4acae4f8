import Derived.Test.YtfekbfjfjohofaaPutA
namespace Go.Proofs.Ytfekbfjfjohofaa
open Go.RowKit

def putL (l m : List At) : List At := m.foldl (fun acc a => putA a acc false) l

theorem stepPut_len (a x : At) (put : Bool) : (stepPut a x put).1.length + (if put then 1 else 0) ≤ 1 + (if (stepPut a x put).2 then 1 else 0) := by
  unfold stepPut
  by_cases h1 : 0 < ordA x a
  · rw [if_pos h1]; cases put <;> simp
  · rw [if_neg h1]
    by_cases h2 : ordA x a = 0
    · rw [if_pos h2]; cases put <;> simp
    · rw [if_neg h2]; cases put <;> simp
theorem putA_len (a : At) : ∀ (l : List At) (put : Bool), (putA a l put).length + (if put then 1 else 0) ≤ l.length + 1
  | [], put => by cases put <;> simp [putA]
  | x :: l, put => by
    have h1 := stepPut_len a x put
    have h2 := putA_len a l (stepPut a x put).2
    show ((stepPut a x put).1 ++ putA a l (stepPut a x put).2).length + _ ≤ _
    rw [List.length_append, List.length_cons]
    omega

set_option maxRecDepth 100000 in
set_option maxHeartbeats 2000000 in
theorem putOf_ok (a a' : Option Addr) (cap cap' : Nat) (l m : List At) (w : World) (h : AtomsAt w a l) (hl : l.length ≤ 300) (h' : AtomsAt w a' m) (hm : m.length ≤ 300) :
    Calls Try.prog 26 #[.slice a l.length cap, .slice a' m.length cap'] w fun e w' => ∃ p c, e = .returned (.slice p (putL l m).length c) ∧ AtomsAt w' p (putL l m) ∧ Below w.heap.size w w' := by
  go_enter Try.func26, Try.ntmps26
  go_wp2
  go_loopw [5, 0] (fun i v wr => ∃ k : Nat, k ≤ m.length ∧ i = .int .i64 k ∧ ∃ p c, v = .slice p (putL l (m.take k)).length c ∧ AtomsAt wr p (putL l (m.take k)) ∧ (putL l (m.take k)).length ≤ 300 + k ∧ Below w.heap.size w wr) (fun i _ _ => m.length - (intOf i).toNat)
  case atStart => exact ⟨0, Nat.zero_le _, rfl, a, cap, rfl, h, hl, Below.refl _ _⟩
  case round =>
    obtain ⟨k, hk, rfl, p, c, rfl, hat, hlen, hb⟩ := hrel
    by_cases hlt : k < m.length
    · obtain ⟨ab, ao, rfl, hab, hc⟩ := (h'.below hb (Nat.le_refl _)).raw (by omega)
      obtain ⟨r, hr, c0, c1, c2⟩ := hc k hlt
      have hi1 : (k : Int) < m.length := by omega
      have HN : Hid (putL l (m.take (k + 1)) = putA m[k] (putL l (m.take k)) false) := by
        show _ = _
        unfold putL
        rw [List.take_succ_eq_append_getElem hlt, List.foldl_append]; rfl
      have HL : Hid ((putL l (m.take (k + 1))).length ≤ 300 + (k + 1)) := by
        show _ ≤ _
        rw [HN.out]
        have := putA_len m[k] (putL l (m.take k)) false
        simp at this
        omega
      generalize m[k] = x at *
      generalize putL l (m.take k) = L at *
      clear hc h h'
      go_wp2_with fail
      refine (putAtom_ok _ _ L _ hat (by omega) r x hr).mono ?_
      rintro e w2 ⟨p2, cc2, rfl, hat2, hb2⟩
      rw [← HN.out] at hat2 ⊢

      go_wp2_with fail
      go_roundw
      case rel => exact ⟨k + 1, by omega, by go_num, p2, cc2, rfl, hat2, HL.out, hb.thru hb2 hb.size⟩
      case measure => simp [intOf]; omega
    · have hkl : k = m.length := by omega
      subst hkl
      rw [List.take_length] at hat ⊢
      go_wp2
      go_ret
      exact ⟨p, c, rfl, hat, hb⟩
end Go.Proofs.Ytfekbfjfjohofaa
