/- The reference's CheckSeen, JoinOf, CoversOf. -/
import Derived.Test.YtlpfnpkmgkbngaeSeenJ
import Derived.Test.YtlpfnpkmgkbngaeBase
namespace Go.Proofs.Ytlpfnpkmgkbngae
open Go.RowKit

theorem okNums_drop {l : List Int} {k : Nat} (h : k < l.length) : okNums (l.drop k) = (okNum l[k] && okNums (l.drop (k + 1))) := by
  unfold okNums
  rw [List.drop_eq_getElem_cons h]; rfl

set_option maxRecDepth 100000 in
set_option maxHeartbeats 1000000 in
theorem checkSeen_any (a : Option Addr) (cap : Nat) (l : List Int) (w : World) (h : IntsAt w a l) :
    Calls Try.prog 9 #[.slice a l.length cap] w fun e w' => e = .returned (.int .i64 (chkSeen l)) ∧ Below w.heap.size w w' := by
  by_cases h5 : l.length = 5
  case neg =>
    have HF : Hid (chkSeen l = 1) := by show _ = _; unfold chkSeen; rw [if_pos h5]
    have hd : ((l.length : Int) != 5) = true := by rw [bne_iff_ne]; omega
    go_enter Try.func9, Try.ntmps9
    go_wp2_with fail
    go_ret
    exact ⟨ret_int HF.out.symm, Below.refl _ _⟩
  rcases h with e | ⟨b, o, rfl, hbl, hc⟩
  · rw [e] at h5; simp at h5
  have HS : Hid (chkSeen l = if okNums l = false then 3 else 0) := by show _ = _; unfold chkSeen; rw [if_neg (by simpa using h5)]
  have HL := hidE h5
  rw [h5]
  clear h5
  go_enter Try.func9, Try.ntmps9
  go_wp2_with fail
  go_loopw [3] (fun i wr => ∃ k : Nat, k ≤ 5 ∧ i = .int .i64 k ∧ okNums l = okNums (l.drop k) ∧ Below w.heap.size w wr) (fun i _ => 5 - (intOf i).toNat)
  case atStart => exact ⟨0, Nat.zero_le _, rfl, by simp, Below.refl _ _⟩
  case round =>
    obtain ⟨k, hk, rfl, hck, hb⟩ := hrel
    have HK := hidE hck
    clear hck
    by_cases hlt : k < 5
    · have hlt' : k < l.length := by have := HL.out; omega
      have c0 := (hb.cell (p := ⟨b, o + k, none⟩) hbl).trans (hc k hlt')
      have HD := hidE (okNums_drop hlt')
      have hi1 : (k : Int) < 5 := by omega
      have HE : Hid (okNum l[k] = inB l[k] 0 500) := rfl
      generalize l[k] = x at c0 HD HE
      cases hx : inB x 0 500
      · have HF : Hid (chkSeen l = 3) := by show _ = _; rw [HS.out, HK.out, HD.out, HE.out, hx]; rfl
        have HX := hidE hx
        clear hx HD HE
        go_wp2_with (go_at_call 22; refine (between_any _ _ _ _).mono ?_; rintro e w' ⟨rfl, rfl⟩; rw [HX.out])
        go_ret
        exact ⟨ret_int HF.out.symm, hb⟩
      · have HN : Hid (okNums l = okNums (l.drop (k + 1))) := by show _ = _; rw [HK.out, HD.out, HE.out, hx]; rfl
        have HX := hidE hx
        clear hx HD HE
        go_wp2_with (go_at_call 22; refine (between_any _ _ _ _).mono ?_; rintro e w' ⟨rfl, rfl⟩; rw [HX.out])
        go_roundw
        case rel => exact ⟨k + 1, by omega, by go_num, HN.out, hb⟩
        case measure => simp [intOf]; omega
    · have HF : Hid (chkSeen l = 0) := by show _ = _; rw [HS.out, HK.out, List.drop_eq_nil_of_le (by have := HL.out; omega)]; rfl
      go_wp2_with fail
      go_ret
      exact ⟨ret_int HF.out.symm, hb⟩

theorem covL_drop {l m : List Int} {k : Nat} (h : k < l.length) (h' : k < m.length) : covL (l.drop k) (m.drop k) = (decide (m[k] ≤ l[k]) && covL (l.drop (k + 1)) (m.drop (k + 1))) := by
  unfold covL
  rw [List.drop_eq_getElem_cons h, List.drop_eq_getElem_cons h', List.zipWith_cons_cons, List.all_cons]
  rfl

set_option maxRecDepth 100000 in
set_option maxHeartbeats 1000000 in
theorem coversOf_any (a a' : Option Addr) (cap cap' : Nat) (l m : List Int) (w : World) (h5 : l.length = 5) (h5' : m.length = 5) (h : IntsAt w a l) (h' : IntsAt w a' m) :
    Calls Try.prog 15 #[.slice a 5 cap, .slice a' 5 cap'] w fun e w' => e = .returned (.bool (covL l m)) ∧ Below w.heap.size w w' := by
  rcases h with e | ⟨b, o, rfl, hbl, hc⟩
  · rw [e] at h5; simp at h5
  rcases h' with e | ⟨b', o', rfl, hbl', hc'⟩
  · rw [e] at h5'; simp at h5'
  go_enter Try.func15, Try.ntmps15
  go_wp2_with fail
  go_loopw [5] (fun i wr => ∃ k : Nat, k ≤ 5 ∧ i = .int .i64 k ∧ covL l m = covL (l.drop k) (m.drop k) ∧ Below w.heap.size w wr) (fun i _ => 5 - (intOf i).toNat)
  case atStart => exact ⟨0, Nat.zero_le _, rfl, by simp, Below.refl _ _⟩
  case round =>
    obtain ⟨k, hk, rfl, hck, hb⟩ := hrel
    have HK := hidE hck
    clear hck
    by_cases hlt : k < 5
    · have hlt1 : k < l.length := by omega
      have hlt2 : k < m.length := by omega
      have c0 := (hb.cell (p := ⟨b, o + k, none⟩) hbl).trans (hc k hlt1)
      have c1 := (hb.cell (p := ⟨b', o' + k, none⟩) hbl').trans (hc' k hlt2)
      have HD := hidE (covL_drop hlt1 hlt2)
      have hi1 : (k : Int) < 5 := by omega
      generalize l[k] = x at c0 HD
      generalize m[k] = y at c1 HD
      have k0 := cell_regrown c0
      have k1 := cell_regrown c1
      go_upto_region 4 with fail
      refine wp_region_quiet_below (by kernel_rfl) (by kernel_rfl) ?_
      repeat (first | go_big_quiet_step (fail) | quiet_step (fail))
      refine wpQuiet_nil ?_
      intro _ hw'
      obtain ⟨⟨dq, osq⟩, hw''⟩ := hw'
      subst hw''
      replace hb := hb.thru (below_regrown wr dq osq) hb.size
      by_cases hxy : x < y
      · have HF : Hid (covL l m = false) := by show _ = _; rw [HK.out, HD.out, decide_eq_false (by omega)]; rfl
        go_wp2_with fail
        go_ret
        exact ⟨ret_bool HF.out.symm, hb⟩
      · have HN : Hid (covL l m = covL (l.drop (k + 1)) (m.drop (k + 1))) := by show _ = _; rw [HK.out, HD.out, decide_eq_true (by omega)]; rfl
        go_wp2_with fail
        go_roundw
        case rel => exact ⟨k + 1, by omega, by go_num, HN.out, hb⟩
        case measure => simp [intOf]; omega
    · have HF : Hid (covL l m = true) := by show _ = _; rw [HK.out, List.drop_eq_nil_of_le (by omega)]; simp [covL]
      go_wp2_with fail
      go_ret
      exact ⟨ret_bool HF.out.symm, hb⟩
end Go.Proofs.Ytlpfnpkmgkbngae
