/- Contract of atom.find. -/
import Derived.Test.YtnhjebdlcbhkcacGreatSearch
import Derived.Test.YtnhjebdlcbhkcacGreatNextOf
import Derived.Test.YtnhjebdlcbhkcacGreatAtomCk
import Derived.Deep.OwnRows
import Derived.Laws.BytesArg
import Derived.Test.YtnhjebdlcbhkcacGreatThere
namespace Go.Proofs.YtnhjebdlcbhkcacGreat
open Go.RowKit

set_option maxRecDepth 100000 in
set_option maxHeartbeats 2000000 in
theorem find_any (a a' : Option Addr) (cap cap' : Nat) (l : List At) (m : List (Int × Int)) (d : Int) (w : World) (hl : l.length ≤ 1000) (hm : m.length ≤ maxLen) (h : AtomsAt w a l) (h' : StepsAt w a' m) (hp : Parts l m d) :
    Calls Tryz.prog 111 #[.slice a l.length cap, .agg #[.slice a' m.length cap', .int .i64 d]] w fun e w' => ∃ i : Nat, i ≤ l.length ∧ Cut l m d i i ∧ ∃ f : Bool, e = .returned (.tuple #[.int .i64 i, .bool f]) ∧ (f = true ↔ ∃ h : i < l.length, ordM l[i].path l[i].clock m d = 0) ∧ Below w.heap.size w w' := by
  have hb1 : Below w.heap.size w (w.alloc (Obj.cells #[.slice a' m.length cap', .int .i64 d] 46)) := (Below.refl _ _).alloc (Nat.le_refl _) _
  have HP := hidE hp
  clear hp
  go_enter Tryz.func111, Tryz.ntmps111
  go_wp2_with fail
  refine (search_any _ _ _ _ l m _ _ hl hm (h.below hb1 (Nat.le_refl _)) (h'.below hb1 (Nat.le_refl _)) HP.out).mono ?_
  rintro e w2 ⟨i, hi, hc, f, rfl, hf, hb⟩
  go_wp2_with fail
  go_ret2
  exact ⟨i, hi, hc, f, rfl, hf, hb1.thru hb hb1.size⟩
end Go.Proofs.YtnhjebdlcbhkcacGreat

namespace Go.Proofs.YtnhjebdlcbhkcacGreat
open Go.RowKit

theorem Tryz.info5 : ∃ i, Tryz.prog.info? 5 = some i ∧ i.zero = some (.int .u8 0) ∧ i.size = 1 ∧ i.bytes = 1 := by
  have h : (Tryz.prog.info? 5).map (fun i => (i.zero, i.size, i.bytes)) = some (some (.int .u8 0), 1, 1) := by kernel_rfl
  rw [Option.map_eq_some_iff] at h
  obtain ⟨i, hi, he⟩ := h
  simp only [Prod.mk.injEq] at he
  exact ⟨i, hi, he⟩

theorem chkL_len {l : List At} (h : chkL l = 0) : l.length ≤ 300 := by
  unfold chkL at h; split at h <;> omega

def txtS (l : List At) : ByteArray := strOfNums (l.map At.sign)

set_option maxRecDepth 100000 in
set_option maxHeartbeats 2000000 in
theorem text_bad (a : Option Addr) (cap : Nat) (l : List At) (w : World) (hl : l.length ≤ maxLen) (h : AtomsAt w a l) (h0 : chkL l ≠ 0) :
    Calls Tryz.prog 124 #[.slice a l.length cap] w fun e w' => e = .returned (.tuple #[.string ⟨#[]⟩, .int .i64 (chkL l)]) ∧ Below w.heap.size w w' := by
  have hx : (chkL l != 0) = true := bne_iff_ne.2 h0
  clear h0
  go_enter Tryz.func124, Tryz.ntmps124
  go_wp2_with (go_at_call 44; refine (atomCheck_any _ _ l _ hl h).mono ?_; rintro e w' ⟨rfl, hb⟩)
  refine bodyPost_ret (v := .tuple #[.string ⟨#[]⟩, .int .i64 (chkL l)]) (by simp [results, Tryz.results124, go_sem]) rfl ?_
  exact ⟨rfl, hb⟩

set_option maxRecDepth 100000 in
set_option maxHeartbeats 2000000 in
theorem text_ok (a : Option Addr) (cap : Nat) (l : List At) (w : World) (h : AtomsAt w a l) (h0 : chkL l = 0) :
    Calls Tryz.prog 124 #[.slice a l.length cap] w fun e w' => e = .returned (.tuple #[.string (txtS l), .int .i64 0]) ∧ Below w.heap.size w w' := by
  have h300 := chkL_len h0
  have hl : l.length ≤ maxLen := by unfold maxLen; omega
  obtain ⟨i0, hi, hz0, hz1, hz2⟩ := Tryz.info5
  have hmk : ∀ w : World, (Instr.makeSlice 68 (.int .i64 l.length) (.int .i64 l.length)).run Tryz.prog w = .ok (.slice (some ⟨w.heap.size, 0, none⟩) l.length l.length) (w.alloc (.cells (madeCells #[.int .u8 0] l.length) 5)) := by
    intro w
    have := run_make (P := Tryz.prog) w 68 5 i0 _ Tryz.underlying68 hi hz0 .i64 .i64 l.length l.length (by omega) (Int.le_refl _) (by rw [hz2]; omega) (by omega)
    rw [hz1] at this
    simp only [Int.toNat_natCast, Nat.mul_one] at this
    exact this
  have H0 := hidE h0
  clear h0
  go_enter Tryz.func124, Tryz.ntmps124
  go_wp2_with fail
  refine (atomCheck_any _ _ l _ hl h).mono ?_
  rintro e w1 ⟨rfl, hb1⟩
  rw [H0.out]
  go_wp2_with fail
  have hR := World.rowIs_made w1 (.int .u8 0) l.length 5
  have hb2 : Below w1.heap.size w1 (w1.alloc (.cells (madeCells #[.int .u8 0] l.length) 5)) := (Below.refl _ _).alloc (Nat.le_refl _) _
  have hO : w.heap.size ≤ w1.heap.size := hb1.size
  have hb3 := hb1.thru hb2 hb1.size
  generalize w1.alloc (.cells (madeCells #[.int .u8 0] l.length) 5) = W at hR hb3 ⊢
  generalize w1.heap.size = O at hR hO ⊢
  clear hb1 hb2 hmk
  go_loopw [18] (fun i wr => ∃ k : Nat, k ≤ l.length ∧ i = .int .i64 k ∧ (∃ f, wr.rowIs O 5 l.length f ∧ ∀ j, (hj : j < l.length) → j < k → f j = .int .u8 l[j].sign) ∧ Below w.heap.size w wr) (fun i _ => l.length - (intOf i).toNat)
  case atStart => exact ⟨0, Nat.zero_le _, rfl, ⟨_, hR, fun j _ h => by omega⟩, hb3⟩
  case round =>
    obtain ⟨k, hk, rfl, ⟨f, hf, hfk⟩, hb⟩ := hrel
    have HF := hidE hfk
    clear hfk
    by_cases hlt : k < l.length
    · rcases h.below hb (Nat.le_refl _) with hs | ⟨ab, ao, rfl, hab, hc⟩
      · simp [hs] at hlt
      obtain ⟨p, cp, c0, c1, c2, hst, hle, _⟩ := hc k hlt
      have hi1 : (k : Int) < l.length := by omega
      have HS : Hid (∃ sk, sk = l[k].sign) := ⟨_, rfl⟩
      have fc := hf.alloc (.cells #[.slice p l[k].path.length cp, .int .i64 l[k].clock, .int .u8 l[k].sign] 66)
      have ff := fc.frozen k
      have fcc := fc.cell hlt
      have hset := fc.set k (.int .u8 l[k].sign)
      have hON : O ≠ wr.heap.size := by have := hf.lt; omega
      clear hc h
      go_wp2_with fail
      go_roundw
      case rel => exact ⟨k + 1, by omega, by go_num, ⟨_, hset, fun j hj hjk => by
        show (if j = k then _ else f j) = _
        by_cases e : j = k
        · subst e; rw [if_pos rfl]
        · rw [if_neg e]; exact HF.out j hj (by omega)⟩, (hb.alloc hb.size _).setCell hO _⟩
      case measure => simp [intOf]; omega
    · have hkl : k = l.length := by omega
      subst hkl
      have hcv := run_convert_bytes_arg (P := Tryz.prog) wr 68 5 Tryz.underlying68 Tryz.underlying5 O 0 l.length l.length (l.map At.sign) (by simp) (fun i hi => by
        rw [Nat.zero_add, hf.cell hi, HF.out i hi hi]; simp [List.getD, hi])
      have hcv2 := hcv 9 Tryz.underlying9
      clear hcv
      go_wp2
      refine bodyPost_ret (v := .tuple #[.string (txtS l), .int .i64 0]) (by simp [results, Tryz.results124, go_sem, txtS]) rfl ?_
      exact ⟨rfl, hb⟩
end Go.Proofs.YtnhjebdlcbhkcacGreat

namespace Go.Proofs.YtnhjebdlcbhkcacGreat
open Go.RowKit

/-- is the mark in the list? -/
def hasGone (l : List (List (Int × Int) × Int)) (p : List (Int × Int)) (c : Int) : Bool := l.any fun x => ordM x.1 x.2 p c == 0

theorem any_split {α : Type} {l : List α} {f : α → Bool} {k : Nat} (h : k < l.length) : (l.drop k).any f = (f l[k] || (l.drop (k + 1)).any f) := by
  rw [List.drop_eq_getElem_cons h, List.any_cons]

set_option maxRecDepth 100000 in
set_option maxHeartbeats 2000000 in
theorem hasMark_any (a a' : Option Addr) (cap cap' : Nat) (l : List At) (m : List (Int × Int)) (d : Int) (w : World) (hl : l.length ≤ maxLen) (hm : m.length ≤ maxLen) (h : AtomsAt w a l) (h' : StepsAt w a' m) :
    Calls Tryz.prog 52 #[.slice a l.length cap, .agg #[.slice a' m.length cap', .int .i64 d]] w fun e w' => e = .returned (.bool (hasMk l m d)) ∧ Below w.heap.size w w' := by
  unfold maxLen at hl
  have HH : Hid (hasMk l m d = (l.drop 0).any fun x => ordM x.path x.clock m d == 0) := rfl
  go_enter Tryz.func52, Tryz.ntmps52
  go_upto_region 1 with fail
  have hbA : Below w.heap.size w (w.alloc (Obj.cells #[.slice a' m.length cap', .int .i64 d] 46)) := (Below.refl _ _).alloc (Nat.le_refl _) _
  have q0 : (w.alloc (Obj.cells #[.slice a' m.length cap', .int .i64 d] 46)).cell? ⟨w.heap.size, 0, none⟩ = some (.slice a' m.length cap') := by simp
  have q1 : (w.alloc (Obj.cells #[.slice a' m.length cap', .int .i64 d] 46)).cell? ⟨w.heap.size, 1, none⟩ = some (.int .i64 d) := by simp
  have z1 : w.heap.size < (w.alloc (Obj.cells #[.slice a' m.length cap', .int .i64 d] 46)).heap.size := by simp
  generalize w.alloc (Obj.cells #[.slice a' m.length cap', .int .i64 d] 46) = w1 at hbA q0 q1 z1 ⊢
  go_wp2_with fail
  go_loopw [5] (fun i wr => ∃ k : Nat, k ≤ l.length ∧ i = .int .i64 k ∧ ((l.drop k).any fun x => ordM x.path x.clock m d == 0) = hasMk l m d ∧ Below w1.heap.size w1 wr) (fun i _ => l.length - (intOf i).toNat)
  case atStart => exact ⟨0, Nat.zero_le _, rfl, rfl, Below.refl _ _⟩
  case round =>
    obtain ⟨k, hk, rfl, hck, hb⟩ := hrel
    have HK := hidE hck
    clear hck
    have hbW := hbA.thru hb hbA.size
    by_cases hlt : k < l.length
    · rcases h.below hbW (Nat.le_refl _) with hs | ⟨ab, ao, rfl, hab, hc⟩
      · simp [hs] at hlt
      obtain ⟨p, cp, c0, c1, c2, hst, hle, _⟩ := hc k hlt
      have HN : Hid (hasMk l m d = ((ordM l[k].path l[k].clock m d == 0) || (l.drop (k + 1)).any fun x => ordM x.path x.clock m d == 0)) := by
        show _ = _
        rw [← HK.out, any_split hlt]
      have hi1 : (k : Int) < l.length := by omega
      generalize l[k].path = pk at *
      generalize l[k].clock = ck at *
      have k0 := cell_regrown c0
      have k1 := cell_regrown c1
      have k2 := cell_regrown ((hb.cell (p := ⟨w.heap.size, 0, none⟩) z1).trans q0)
      have k3 := cell_regrown ((hb.cell (p := ⟨w.heap.size, 1, none⟩) z1).trans q1)
      have S1 := hidE (fun d os => hst.below (below_regrown wr d os) (Nat.le_refl _))
      have S2 := hidE (fun d os => (h'.below hbW (Nat.le_refl _)).below (below_regrown wr d os) (Nat.le_refl _))
      clear hc h hst h' HK
      go_wp2_with fail
      refine wp_region_quiet_below (by kernel_rfl) (by kernel_rfl) ?_
      repeat (first | go_big_quiet_step ((go_at_call 43; exact Calls.regrown_of (sameMark_n _ _ _ _ _ _ pk m _ _ _ rfl rfl hle hm (S1.out _ _) (S2.out _ _)))) | quiet_step ((go_at_call 43; exact Calls.regrown_of (sameMark_n _ _ _ _ _ _ pk m _ _ _ rfl rfl hle hm (S1.out _ _) (S2.out _ _)))))
      refine wpQuiet_nil ?_
      intro _ hw'
      obtain ⟨⟨dq, osq⟩, hw''⟩ := hw'
      subst hw''
      by_cases ho : (ordM pk ck m d == 0) = true
      · have HF : Hid (hasMk l m d = true) := by show _ = _; rw [HN.out, ho, Bool.true_or]
        go_wp2
        go_ret
        exact ⟨ret_bool HF.out.symm, hbW.thru (below_regrown _ _ _) hbW.size⟩
      · have ho' : (ordM pk ck m d == 0) = false := by simpa using ho
        have HF : Hid (hasMk l m d = (l.drop (k + 1)).any fun x => ordM x.path x.clock m d == 0) := by show _ = _; rw [HN.out, ho', Bool.false_or]
        clear ho
        go_wp2
        go_roundw
        case rel => exact ⟨k + 1, by omega, by go_num, HF.out.symm, hb.thru (below_regrown _ _ _) hb.size⟩
        case measure => simp [intOf]; omega
    · go_wp2
      go_ret
      refine ⟨ret_bool ?_, hbW⟩
      rw [← HK.out, List.drop_eq_nil_of_le (by omega)]; rfl

set_option maxRecDepth 100000 in
set_option maxHeartbeats 2000000 in
theorem hasGone_any (a a' : Option Addr) (cap cap' : Nat) (l : List (List (Int × Int) × Int)) (m : List (Int × Int)) (d : Int) (w : World) (hl : l.length ≤ maxLen) (hm : m.length ≤ maxLen) (h : MarksAt w a l) (h' : StepsAt w a' m) :
    Calls Tryz.prog 28 #[.slice a l.length cap, .agg #[.slice a' m.length cap', .int .i64 d]] w fun e w' => e = .returned (.bool (hasGone l m d)) ∧ Below w.heap.size w w' := by
  unfold maxLen at hl
  go_enter Tryz.func28, Tryz.ntmps28
  go_upto_region 1 with fail
  have hbA : Below w.heap.size w (w.alloc (Obj.cells #[.slice a' m.length cap', .int .i64 d] 46)) := (Below.refl _ _).alloc (Nat.le_refl _) _
  have q0 : (w.alloc (Obj.cells #[.slice a' m.length cap', .int .i64 d] 46)).cell? ⟨w.heap.size, 0, none⟩ = some (.slice a' m.length cap') := by simp
  have q1 : (w.alloc (Obj.cells #[.slice a' m.length cap', .int .i64 d] 46)).cell? ⟨w.heap.size, 1, none⟩ = some (.int .i64 d) := by simp
  have z1 : w.heap.size < (w.alloc (Obj.cells #[.slice a' m.length cap', .int .i64 d] 46)).heap.size := by simp
  generalize w.alloc (Obj.cells #[.slice a' m.length cap', .int .i64 d] 46) = w1 at hbA q0 q1 z1 ⊢
  go_wp2_with fail
  go_loopw [5] (fun i wr => ∃ k : Nat, k ≤ l.length ∧ i = .int .i64 k ∧ ((l.drop k).any fun x => ordM x.1 x.2 m d == 0) = hasGone l m d ∧ Below w1.heap.size w1 wr) (fun i _ => l.length - (intOf i).toNat)
  case atStart => exact ⟨0, Nat.zero_le _, rfl, rfl, Below.refl _ _⟩
  case round =>
    obtain ⟨k, hk, rfl, hck, hb⟩ := hrel
    have HK := hidE hck
    clear hck
    have hbW := hbA.thru hb hbA.size
    by_cases hlt : k < l.length
    · rcases h.below hbW (Nat.le_refl _) with hs | ⟨ab, ao, rfl, hab, hc⟩
      · simp [hs] at hlt
      obtain ⟨p, cp, c0, c1, hst, hle⟩ := hc k hlt
      have HN : Hid (hasGone l m d = ((ordM l[k].1 l[k].2 m d == 0) || (l.drop (k + 1)).any fun x => ordM x.1 x.2 m d == 0)) := by
        show _ = _
        rw [← HK.out, any_split hlt]
      have hi1 : (k : Int) < l.length := by omega
      generalize l[k].1 = pk at *
      generalize l[k].2 = ck at *
      have k0 := cell_regrown c0
      have k1 := cell_regrown c1
      have k2 := cell_regrown ((hb.cell (p := ⟨w.heap.size, 0, none⟩) z1).trans q0)
      have k3 := cell_regrown ((hb.cell (p := ⟨w.heap.size, 1, none⟩) z1).trans q1)
      have S1 := hidE (fun d os => hst.below (below_regrown wr d os) (Nat.le_refl _))
      have S2 := hidE (fun d os => (h'.below hbW (Nat.le_refl _)).below (below_regrown wr d os) (Nat.le_refl _))
      clear hc h hst h' HK
      go_wp2_with fail
      refine wp_region_quiet_below (by kernel_rfl) (by kernel_rfl) ?_
      repeat (first | go_big_quiet_step ((go_at_call 43; exact Calls.regrown_of (sameMark_n _ _ _ _ _ _ pk m _ _ _ rfl rfl hle hm (S1.out _ _) (S2.out _ _)))) | quiet_step ((go_at_call 43; exact Calls.regrown_of (sameMark_n _ _ _ _ _ _ pk m _ _ _ rfl rfl hle hm (S1.out _ _) (S2.out _ _)))))
      refine wpQuiet_nil ?_
      intro _ hw'
      obtain ⟨⟨dq, osq⟩, hw''⟩ := hw'
      subst hw''
      by_cases ho : (ordM pk ck m d == 0) = true
      · have HF : Hid (hasGone l m d = true) := by show _ = _; rw [HN.out, ho, Bool.true_or]
        go_wp2
        go_ret
        exact ⟨ret_bool HF.out.symm, hbW.thru (below_regrown _ _ _) hbW.size⟩
      · have ho' : (ordM pk ck m d == 0) = false := by simpa using ho
        have HF : Hid (hasGone l m d = (l.drop (k + 1)).any fun x => ordM x.1 x.2 m d == 0) := by show _ = _; rw [HN.out, ho', Bool.false_or]
        clear ho
        go_wp2
        go_roundw
        case rel => exact ⟨k + 1, by omega, by go_num, HF.out.symm, hb.thru (below_regrown _ _ _) hb.size⟩
        case measure => simp [intOf]; omega
    · go_wp2
      go_ret
      refine ⟨ret_bool ?_, hbW⟩
      rw [← HK.out, List.drop_eq_nil_of_le (by omega)]; rfl
end Go.Proofs.YtnhjebdlcbhkcacGreat
