import Derived.Test.YtcggeeejkgndmabAtomCk
namespace Go.Proofs.Ytcggeeejkgndmab
open Go.RowKit

/-- are two atoms the same: sign and mark -/
def sameAt (x y : At) : Bool := x.sign == y.sign && (ordM x.path x.clock y.path y.clock == 0)
/-- SameAtoms -/
def sameL : List At → List At → Bool
  | [], [] => true
  | x :: l, y :: m => sameAt x y && sameL l m
  | _, _ => false

theorem sameL_drop {l m : List At} {k : Nat} (h : k < l.length) (h' : k < m.length) : sameL (l.drop k) (m.drop k) = (sameAt l[k] m[k] && sameL (l.drop (k + 1)) (m.drop (k + 1))) := by
  rw [List.drop_eq_getElem_cons h, List.drop_eq_getElem_cons h']; rfl
theorem sameL_len : ∀ {l m : List At}, l.length ≠ m.length → sameL l m = false
  | [], [], h => absurd rfl h
  | [], _ :: _, _ => rfl
  | _ :: _, [], _ => rfl
  | x :: l, y :: m, h => by show (sameAt x y && sameL l m) = false; rw [sameL_len (l := l) (m := m) (by simpa using h), Bool.and_false]

set_option maxRecDepth 100000 in
set_option maxHeartbeats 2000000 in
theorem sameAtoms_any (a a' : Option Addr) (cap cap' : Nat) (l m : List At) (w : World) (hl : l.length ≤ maxLen) (_hm : m.length ≤ maxLen) (h : AtomsAt w a l) (h' : AtomsAt w a' m) :
    Calls Try.prog 21 #[.slice a l.length cap, .slice a' m.length cap'] w fun e w' => e = .returned (.bool (sameL l m)) ∧ Below w.heap.size w w' := by
  unfold maxLen at hl
  by_cases hlen : l.length = m.length
  rotate_left
  · have hd : (l.length : Int) ≠ m.length := by omega
    have hd' : ((l.length : Int) != m.length) = true := bne_iff_ne.2 hd
    go_enter Try.func21, Try.ntmps21
    go_wp2
    go_ret
    exact ⟨ret_bool (sameL_len hlen).symm, Below.refl _ _⟩
  have hd : (l.length : Int) = m.length := by omega
  have hd' : ((l.length : Int) != m.length) = false := by rw [hd]; exact bne_self_eq_false _
  go_enter Try.func21, Try.ntmps21
  go_wp2
  go_loopw [5] (fun i wr => ∃ k : Nat, k ≤ l.length ∧ i = .int .i64 k ∧ sameL (l.drop k) (m.drop k) = sameL l m ∧ Below w.heap.size w wr) (fun i _ => l.length - (intOf i).toNat)
  case atStart => exact ⟨0, Nat.zero_le _, rfl, rfl, Below.refl _ _⟩
  case round =>
    obtain ⟨k, hk, rfl, hck, hb⟩ := hrel
    have HK := hidE hck
    clear hck
    by_cases hlt : k < l.length
    · rcases h.below hb (Nat.le_refl _) with hs | ⟨ab, ao, rfl, hab, hc⟩
      · simp [hs] at hlt
      have hltm : k < m.length := by omega
      rcases h'.below hb (Nat.le_refl _) with hs | ⟨bb, bo, rfl, hbb, hc'⟩
      · simp [hs] at hltm
      obtain ⟨p, cp, c0, c1, c2, hst, hle, _⟩ := hc k hlt
      obtain ⟨p', cp', c0', c1', c2', hst', hle', _⟩ := hc' k hltm
      have HN : Hid (sameL l m = (((l[k].sign == m[k].sign) && (ordM l[k].path l[k].clock m[k].path m[k].clock == 0)) && sameL (l.drop (k + 1)) (m.drop (k + 1)))) := by
        show _ = _
        rw [← HK.out, sameL_drop hlt hltm]; rfl
      have hi1 : (k : Int) < l.length := by omega
      have hi2 : (k : Int) < m.length := by omega
      generalize l[k].path = pk at *
      generalize l[k].clock = ck at *
      generalize l[k].sign = sk at *
      generalize m[k].path = pk' at *
      generalize m[k].clock = ck' at *
      generalize m[k].sign = sk' at *
      have k0 := cell_regrown c0
      have k1 := cell_regrown c1
      have k2 := cell_regrown c2
      have k3 := cell_regrown c0'
      have k4 := cell_regrown c1'
      have k5 := cell_regrown c2'
      have S1 := hidE (fun d os => hst.below (below_regrown wr d os) (Nat.le_refl _))
      have S2 := hidE (fun d os => hst'.below (below_regrown wr d os) (Nat.le_refl _))
      clear hc hc' h hst h' hst' HK
      by_cases hsg : sk = sk'
      · subst hsg
        have hne : (sk != sk) = false := bne_self_eq_false _
        go_wp2_with fail
        refine wp_region_quiet_below (by kernel_rfl) (by kernel_rfl) ?_
        repeat (first | go_big_quiet_step ((go_at_call 47; exact Calls.regrown_of (sameMark_n _ _ _ _ _ _ pk pk' _ _ _ rfl rfl hle hle' (S1.out _ _) (S2.out _ _)))) | quiet_step ((go_at_call 47; exact Calls.regrown_of (sameMark_n _ _ _ _ _ _ pk pk' _ _ _ rfl rfl hle hle' (S1.out _ _) (S2.out _ _)))))
        refine wpQuiet_nil ?_
        intro _ hw'
        obtain ⟨⟨dq, osq⟩, hw''⟩ := hw'
        subst hw''
        cases ho : (ordM pk ck pk' ck' == 0)
        · have HF : Hid (sameL l m = false) := by show _ = _; rw [HN.out, ho, Bool.and_false, Bool.false_and]
          clear ho
          go_wp2
          go_ret
          exact ⟨ret_bool HF.out.symm, hb.thru (below_regrown _ _ _) hb.size⟩
        · have HF : Hid (sameL l m = sameL (l.drop (k + 1)) (m.drop (k + 1))) := by show _ = _; rw [HN.out, ho, beq_self_eq_true, Bool.true_and, Bool.true_and]
          clear ho
          go_wp2
          go_roundw
          case rel => exact ⟨k + 1, by omega, by go_num, HF.out.symm, hb.thru (below_regrown _ _ _) hb.size⟩
          case measure => simp [intOf]; omega
      · have hne : (sk != sk') = true := bne_iff_ne.2 hsg
        have HF : Hid (sameL l m = false) := by show _ = _; rw [HN.out, beq_eq_false_iff_ne.2 hsg, Bool.false_and, Bool.false_and]
        clear hsg
        go_wp2_with fail
        refine wp_region_quiet_below (by kernel_rfl) (by kernel_rfl) ?_
        repeat (first | go_big_quiet_step (fail) | quiet_step (fail))
        refine wpQuiet_nil ?_
        intro _ hw'
        obtain ⟨⟨dq, osq⟩, hw''⟩ := hw'
        subst hw''
        go_wp2
        go_ret
        exact ⟨ret_bool HF.out.symm, hb.thru (below_regrown _ _ _) hb.size⟩
    · go_wp2
      go_ret
      refine ⟨ret_bool ?_, hb⟩
      rw [← HK.out, List.drop_eq_nil_of_le (by omega), List.drop_eq_nil_of_le (by omega)]; rfl

set_option maxHeartbeats 1000000 in
theorem atomsAre_any (a a' : Option Addr) (cap cap' : Nat) (l m : List At) (e v : Int) (w : World) (hl : l.length ≤ maxLen) (hm : m.length ≤ maxLen) (h : AtomsAt w a l) (h' : AtomsAt w a' m) (he : e = v) (hs : sameL l (if v = 0 then m else []) = true) :
    Calls Try.prog 17 #[.slice a l.length cap, .int .i64 e, .int .i64 v, .slice a' m.length cap'] w fun e w' => e = .returned (.bool true) ∧ Below w.heap.size w w' := by
  subst he
  by_cases hv : e = 0
  · subst hv
    rw [if_pos rfl] at hs
    have HS := hidE hs
    clear hs
    go_enter Try.func17, Try.ntmps17
    go_wp2_with (go_at_call 21; refine (sameAtoms_any _ _ _ _ l m _ hl hm h h').mono ?_; rintro e w' ⟨rfl, hb⟩; rw [HS.out])
    go_ret
    exact ⟨rfl, hb⟩
  · rw [if_neg hv] at hs
    have HS := hidE hs
    have hv' : (e != 0) = true := bne_iff_ne.2 hv
    clear hs
    go_enter Try.func17, Try.ntmps17
    go_wp2_with (go_at_call 21; refine (sameAtoms_any _ _ _ _ l [] _ hl (Nat.zero_le _) h (Or.inl rfl)).mono ?_; rintro e w' ⟨rfl, hb⟩; rw [HS.out])
    go_ret
    exact ⟨rfl, hb⟩
end Go.Proofs.Ytcggeeejkgndmab
