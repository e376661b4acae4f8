import Derived.Test.YtcggeeejkgndmacAtomCk
import Derived.Test.YtcggeeejkgndmacSortP
namespace Go.Proofs.Ytcggeeejkgndmac
open Go.RowKit

/-- is the mark in the list? -/
def hasGone (l : List (List (Int × Int) × Int)) (p : List (Int × Int)) (c : Int) : Bool := l.any fun x => ordM x.1 x.2 p c == 0

theorem any_split {α : Type} {l : List α} {f : α → Bool} {k : Nat} (h : k < l.length) : (l.drop k).any f = (f l[k] || (l.drop (k + 1)).any f) := by
  rw [List.drop_eq_getElem_cons h, List.any_cons]

set_option maxRecDepth 100000 in
set_option maxHeartbeats 2000000 in
theorem hasMark_any (a a' : Option Addr) (cap cap' : Nat) (l : List At) (m : List (Int × Int)) (d : Int) (w : World) (hl : l.length ≤ maxLen) (hm : m.length ≤ maxLen) (h : AtomsAt w a l) (h' : StepsAt w a' m) :
    Calls Try.prog 46 #[.slice a l.length cap, .agg #[.slice a' m.length cap', .int .i64 d]] w fun e w' => e = .returned (.bool (hasMk l m d)) ∧ Below w.heap.size w w' := by
  unfold maxLen at hl
  have HH : Hid (hasMk l m d = (l.drop 0).any fun x => ordM x.path x.clock m d == 0) := rfl
  go_enter Try.func46, Try.ntmps46
  go_upto_region 1 with fail
  have hbA : Below w.heap.size w (w.alloc (Obj.cells #[.slice a' m.length cap', .int .i64 d] 41)) := (Below.refl _ _).alloc (Nat.le_refl _) _
  have q0 : (w.alloc (Obj.cells #[.slice a' m.length cap', .int .i64 d] 41)).cell? ⟨w.heap.size, 0, none⟩ = some (.slice a' m.length cap') := by simp
  have q1 : (w.alloc (Obj.cells #[.slice a' m.length cap', .int .i64 d] 41)).cell? ⟨w.heap.size, 1, none⟩ = some (.int .i64 d) := by simp
  have z1 : w.heap.size < (w.alloc (Obj.cells #[.slice a' m.length cap', .int .i64 d] 41)).heap.size := by simp
  generalize w.alloc (Obj.cells #[.slice a' m.length cap', .int .i64 d] 41) = w1 at hbA q0 q1 z1 ⊢
  go_wp2_with fail
  go_loopw [5] (fun i wr => ∃ k : Nat, k ≤ l.length ∧ i = .int .i64 k ∧ ((l.drop k).any fun x => ordM x.path x.clock m d == 0) = hasMk l m d ∧ Below w1.heap.size w1 wr) (fun i _ => l.length - (intOf i).toNat)
  case atStart => exact ⟨0, Nat.zero_le _, rfl, rfl, Below.refl _ _⟩
  case round =>
    obtain ⟨k, hk, rfl, hck, hb⟩ := hrel
    have HK := hidE hck
    clear hck
    have hbW := hbA.thru hb hbA.size
    by_cases hlt : k < l.length
    · rcases h.below hbW (Nat.le_refl _) with hs | ⟨ab, ao, rfl, hab, hc⟩
      · simp [hs] at hlt
      obtain ⟨p, cp, c0, c1, c2, hst, hle, _⟩ := hc k hlt
      have HN : Hid (hasMk l m d = ((ordM l[k].path l[k].clock m d == 0) || (l.drop (k + 1)).any fun x => ordM x.path x.clock m d == 0)) := by
        show _ = _
        rw [← HK.out, any_split hlt]
      have hi1 : (k : Int) < l.length := by omega
      generalize l[k].path = pk at *
      generalize l[k].clock = ck at *
      have k0 := cell_regrown c0
      have k1 := cell_regrown c1
      have k2 := cell_regrown ((hb.cell (p := ⟨w.heap.size, 0, none⟩) z1).trans q0)
      have k3 := cell_regrown ((hb.cell (p := ⟨w.heap.size, 1, none⟩) z1).trans q1)
      have S1 := hidE (fun d os => hst.below (below_regrown wr d os) (Nat.le_refl _))
      have S2 := hidE (fun d os => (h'.below hbW (Nat.le_refl _)).below (below_regrown wr d os) (Nat.le_refl _))
      clear hc h hst h' HK
      go_wp2_with fail
      refine wp_region_quiet_below (by kernel_rfl) (by kernel_rfl) ?_
      repeat (first | go_big_quiet_step ((go_at_call 20; exact Calls.regrown_of (sameMark_n _ _ _ _ _ _ pk m _ _ _ rfl rfl hle hm (S1.out _ _) (S2.out _ _)))) | quiet_step ((go_at_call 20; exact Calls.regrown_of (sameMark_n _ _ _ _ _ _ pk m _ _ _ rfl rfl hle hm (S1.out _ _) (S2.out _ _)))))
      refine wpQuiet_nil ?_
      intro _ hw'
      obtain ⟨⟨dq, osq⟩, hw''⟩ := hw'
      subst hw''
      by_cases ho : (ordM pk ck m d == 0) = true
      · have HF : Hid (hasMk l m d = true) := by show _ = _; rw [HN.out, ho, Bool.true_or]
        go_wp2
        go_ret
        exact ⟨ret_bool HF.out.symm, hbW.thru (below_regrown _ _ _) hbW.size⟩
      · have ho' : (ordM pk ck m d == 0) = false := by simpa using ho
        have HF : Hid (hasMk l m d = (l.drop (k + 1)).any fun x => ordM x.path x.clock m d == 0) := by show _ = _; rw [HN.out, ho', Bool.false_or]
        clear ho
        go_wp2
        go_roundw
        case rel => exact ⟨k + 1, by omega, by go_num, HF.out.symm, hb.thru (below_regrown _ _ _) hb.size⟩
        case measure => simp [intOf]; omega
    · go_wp2
      go_ret
      refine ⟨ret_bool ?_, hbW⟩
      rw [← HK.out, List.drop_eq_nil_of_le (by omega)]; rfl

set_option maxRecDepth 100000 in
set_option maxHeartbeats 2000000 in
theorem hasGone_any (a a' : Option Addr) (cap cap' : Nat) (l : List (List (Int × Int) × Int)) (m : List (Int × Int)) (d : Int) (w : World) (hl : l.length ≤ maxLen) (hm : m.length ≤ maxLen) (h : MarksAt w a l) (h' : StepsAt w a' m) :
    Calls Try.prog 23 #[.slice a l.length cap, .agg #[.slice a' m.length cap', .int .i64 d]] w fun e w' => e = .returned (.bool (hasGone l m d)) ∧ Below w.heap.size w w' := by
  unfold maxLen at hl
  go_enter Try.func23, Try.ntmps23
  go_upto_region 1 with fail
  have hbA : Below w.heap.size w (w.alloc (Obj.cells #[.slice a' m.length cap', .int .i64 d] 41)) := (Below.refl _ _).alloc (Nat.le_refl _) _
  have q0 : (w.alloc (Obj.cells #[.slice a' m.length cap', .int .i64 d] 41)).cell? ⟨w.heap.size, 0, none⟩ = some (.slice a' m.length cap') := by simp
  have q1 : (w.alloc (Obj.cells #[.slice a' m.length cap', .int .i64 d] 41)).cell? ⟨w.heap.size, 1, none⟩ = some (.int .i64 d) := by simp
  have z1 : w.heap.size < (w.alloc (Obj.cells #[.slice a' m.length cap', .int .i64 d] 41)).heap.size := by simp
  generalize w.alloc (Obj.cells #[.slice a' m.length cap', .int .i64 d] 41) = w1 at hbA q0 q1 z1 ⊢
  go_wp2_with fail
  go_loopw [5] (fun i wr => ∃ k : Nat, k ≤ l.length ∧ i = .int .i64 k ∧ ((l.drop k).any fun x => ordM x.1 x.2 m d == 0) = hasGone l m d ∧ Below w1.heap.size w1 wr) (fun i _ => l.length - (intOf i).toNat)
  case atStart => exact ⟨0, Nat.zero_le _, rfl, rfl, Below.refl _ _⟩
  case round =>
    obtain ⟨k, hk, rfl, hck, hb⟩ := hrel
    have HK := hidE hck
    clear hck
    have hbW := hbA.thru hb hbA.size
    by_cases hlt : k < l.length
    · rcases h.below hbW (Nat.le_refl _) with hs | ⟨ab, ao, rfl, hab, hc⟩
      · simp [hs] at hlt
      obtain ⟨p, cp, c0, c1, hst, hle⟩ := hc k hlt
      have HN : Hid (hasGone l m d = ((ordM l[k].1 l[k].2 m d == 0) || (l.drop (k + 1)).any fun x => ordM x.1 x.2 m d == 0)) := by
        show _ = _
        rw [← HK.out, any_split hlt]
      have hi1 : (k : Int) < l.length := by omega
      generalize l[k].1 = pk at *
      generalize l[k].2 = ck at *
      have k0 := cell_regrown c0
      have k1 := cell_regrown c1
      have k2 := cell_regrown ((hb.cell (p := ⟨w.heap.size, 0, none⟩) z1).trans q0)
      have k3 := cell_regrown ((hb.cell (p := ⟨w.heap.size, 1, none⟩) z1).trans q1)
      have S1 := hidE (fun d os => hst.below (below_regrown wr d os) (Nat.le_refl _))
      have S2 := hidE (fun d os => (h'.below hbW (Nat.le_refl _)).below (below_regrown wr d os) (Nat.le_refl _))
      clear hc h hst h' HK
      go_wp2_with fail
      refine wp_region_quiet_below (by kernel_rfl) (by kernel_rfl) ?_
      repeat (first | go_big_quiet_step ((go_at_call 20; exact Calls.regrown_of (sameMark_n _ _ _ _ _ _ pk m _ _ _ rfl rfl hle hm (S1.out _ _) (S2.out _ _)))) | quiet_step ((go_at_call 20; exact Calls.regrown_of (sameMark_n _ _ _ _ _ _ pk m _ _ _ rfl rfl hle hm (S1.out _ _) (S2.out _ _)))))
      refine wpQuiet_nil ?_
      intro _ hw'
      obtain ⟨⟨dq, osq⟩, hw''⟩ := hw'
      subst hw''
      by_cases ho : (ordM pk ck m d == 0) = true
      · have HF : Hid (hasGone l m d = true) := by show _ = _; rw [HN.out, ho, Bool.true_or]
        go_wp2
        go_ret
        exact ⟨ret_bool HF.out.symm, hbW.thru (below_regrown _ _ _) hbW.size⟩
      · have ho' : (ordM pk ck m d == 0) = false := by simpa using ho
        have HF : Hid (hasGone l m d = (l.drop (k + 1)).any fun x => ordM x.1 x.2 m d == 0) := by show _ = _; rw [HN.out, ho', Bool.false_or]
        clear ho
        go_wp2
        go_roundw
        case rel => exact ⟨k + 1, by omega, by go_num, HF.out.symm, hb.thru (below_regrown _ _ _) hb.size⟩
        case measure => simp [intOf]; omega
    · go_wp2
      go_ret
      refine ⟨ret_bool ?_, hbW⟩
      rw [← HK.out, List.drop_eq_nil_of_le (by omega)]; rfl
end Go.Proofs.Ytcggeeejkgndmac
