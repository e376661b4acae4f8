/- Contract of atom.find. -/
import Derived.Test.YtnhjebdlcbhkcaeGreatSearch
import Derived.Test.YtnhjebdlcbhkcaeGreatPutA
import Derived.Test.YtnhjebdlcbhkcaeGreatAtomCk
import Derived.Deep.OwnRows
import Derived.Laws.BytesArg
import Derived.Test.YtnhjebdlcbhkcaeGreatGapA
namespace Go.Proofs.YtnhjebdlcbhkcaeGreat
open Go.RowKit

set_option maxRecDepth 100000 in
set_option maxHeartbeats 2000000 in
theorem find_any (a a' : Option Addr) (cap cap' : Nat) (l : List At) (m : List (Int × Int)) (d : Int) (w : World) (hl : l.length ≤ 1000) (hm : m.length ≤ maxLen) (h : AtomsAt w a l) (h' : StepsAt w a' m) (hp : Parts l m d) :
    Calls Tryz.prog 74 #[.slice a l.length cap, .agg #[.slice a' m.length cap', .int .i64 d]] w fun e w' => ∃ i : Nat, i ≤ l.length ∧ Cut l m d i i ∧ ∃ f : Bool, e = .returned (.tuple #[.int .i64 i, .bool f]) ∧ (f = true ↔ ∃ h : i < l.length, ordM l[i].path l[i].clock m d = 0) ∧ Below w.heap.size w w' := by
  have hb1 : Below w.heap.size w (w.alloc (Obj.cells #[.slice a' m.length cap', .int .i64 d] 42)) := (Below.refl _ _).alloc (Nat.le_refl _) _
  have HP := hidE hp
  clear hp
  go_enter Tryz.func74, Tryz.ntmps74
  go_wp2_with fail
  refine (search_any _ _ _ _ l m _ _ hl hm (h.below hb1 (Nat.le_refl _)) (h'.below hb1 (Nat.le_refl _)) HP.out).mono ?_
  rintro e w2 ⟨i, hi, hc, f, rfl, hf, hb⟩
  go_wp2_with fail
  go_ret2
  exact ⟨i, hi, hc, f, rfl, hf, hb1.thru hb hb1.size⟩
end Go.Proofs.YtnhjebdlcbhkcaeGreat

namespace Go.Proofs.YtnhjebdlcbhkcaeGreat
open Go.RowKit

theorem Tryz.info5 : ∃ i, Tryz.prog.info? 5 = some i ∧ i.zero = some (.int .u8 0) ∧ i.size = 1 ∧ i.bytes = 1 := by
  have h : (Tryz.prog.info? 5).map (fun i => (i.zero, i.size, i.bytes)) = some (some (.int .u8 0), 1, 1) := by kernel_rfl
  rw [Option.map_eq_some_iff] at h
  obtain ⟨i, hi, he⟩ := h
  simp only [Prod.mk.injEq] at he
  exact ⟨i, hi, he⟩

theorem chkL_len {l : List At} (h : chkL l = 0) : l.length ≤ 300 := by
  unfold chkL at h; split at h <;> omega

def txtS (l : List At) : ByteArray := strOfNums (l.map At.sign)

set_option maxRecDepth 100000 in
set_option maxHeartbeats 2000000 in
theorem text_ok (a : Option Addr) (cap : Nat) (l : List At) (w : World) (h : AtomsAt w a l) (h0 : chkL l = 0) :
    Calls Tryz.prog 52 #[.slice a l.length cap] w fun e w' => e = .returned (.tuple #[.string (txtS l), .int .i64 0]) ∧ Below w.heap.size w w' := by
  have h300 := chkL_len h0
  have hl : l.length ≤ maxLen := by unfold maxLen; omega
  obtain ⟨i0, hi, hz0, hz1, hz2⟩ := Tryz.info5
  have hmk : ∀ w : World, (Instr.makeSlice 179 (.int .i64 l.length) (.int .i64 l.length)).run Tryz.prog w = .ok (.slice (some ⟨w.heap.size, 0, none⟩) l.length l.length) (w.alloc (.cells (madeCells #[.int .u8 0] l.length) 5)) := by
    intro w
    have := run_make (P := Tryz.prog) w 179 5 i0 _ Tryz.underlying179 hi hz0 .i64 .i64 l.length l.length (by omega) (Int.le_refl _) (by rw [hz2]; omega) (by omega)
    rw [hz1] at this
    simp only [Int.toNat_natCast, Nat.mul_one] at this
    exact this
  have H0 := hidE h0
  clear h0
  go_enter Tryz.func52, Tryz.ntmps52
  go_wp2_with fail
  refine (atomCheck_any _ _ l _ hl h).mono ?_
  rintro e w1 ⟨rfl, hb1⟩
  rw [H0.out]
  go_wp2_with fail
  have hR := World.rowIs_made w1 (.int .u8 0) l.length 5
  have hb2 : Below w1.heap.size w1 (w1.alloc (.cells (madeCells #[.int .u8 0] l.length) 5)) := (Below.refl _ _).alloc (Nat.le_refl _) _
  have hO : w.heap.size ≤ w1.heap.size := hb1.size
  have hb3 := hb1.thru hb2 hb1.size
  generalize w1.alloc (.cells (madeCells #[.int .u8 0] l.length) 5) = W at hR hb3 ⊢
  generalize w1.heap.size = O at hR hO ⊢
  clear hb1 hb2 hmk
  go_loopw [18] (fun i wr => ∃ k : Nat, k ≤ l.length ∧ i = .int .i64 k ∧ (∃ f, wr.rowIs O 5 l.length f ∧ ∀ j, (hj : j < l.length) → j < k → f j = .int .u8 l[j].sign) ∧ Below w.heap.size w wr) (fun i _ => l.length - (intOf i).toNat)
  case atStart => exact ⟨0, Nat.zero_le _, rfl, ⟨_, hR, fun j _ h => by omega⟩, hb3⟩
  case round =>
    obtain ⟨k, hk, rfl, ⟨f, hf, hfk⟩, hb⟩ := hrel
    have HF := hidE hfk
    clear hfk
    by_cases hlt : k < l.length
    · rcases h.below hb (Nat.le_refl _) with hs | ⟨ab, ao, rfl, hab, hc⟩
      · simp [hs] at hlt
      obtain ⟨p, cp, c0, c1, c2, hst, hle, _⟩ := hc k hlt
      have hi1 : (k : Int) < l.length := by omega
      have HS : Hid (∃ sk, sk = l[k].sign) := ⟨_, rfl⟩
      have fc := hf.alloc (.cells #[.slice p l[k].path.length cp, .int .i64 l[k].clock, .int .u8 l[k].sign] 108)
      have ff := fc.frozen k
      have fcc := fc.cell hlt
      have hset := fc.set k (.int .u8 l[k].sign)
      have hON : O ≠ wr.heap.size := by have := hf.lt; omega
      clear hc h
      go_wp2_with fail
      go_roundw
      case rel => exact ⟨k + 1, by omega, by go_num, ⟨_, hset, fun j hj hjk => by
        show (if j = k then _ else f j) = _
        by_cases e : j = k
        · subst e; rw [if_pos rfl]
        · rw [if_neg e]; exact HF.out j hj (by omega)⟩, (hb.alloc hb.size _).setCell hO _⟩
      case measure => simp [intOf]; omega
    · have hkl : k = l.length := by omega
      subst hkl
      have hcv := run_convert_bytes_arg (P := Tryz.prog) wr 179 5 Tryz.underlying179 Tryz.underlying5 O 0 l.length l.length (l.map At.sign) (by simp) (fun i hi => by
        rw [Nat.zero_add, hf.cell hi, HF.out i hi hi]; simp [List.getD, hi])
      have hcv2 := hcv 9 Tryz.underlying9
      clear hcv
      go_wp2
      refine bodyPost_ret (v := .tuple #[.string (txtS l), .int .i64 0]) (by simp [results, Tryz.results52, go_sem, txtS]) rfl ?_
      exact ⟨rfl, hb⟩
end Go.Proofs.YtnhjebdlcbhkcaeGreat

namespace Go.Proofs.YtnhjebdlcbhkcaeGreat
open Go.RowKit

def hasGone (l : List (List (Int × Int) × Int)) (p : List (Int × Int)) (c : Int) : Bool := l.any fun x => ordM x.1 x.2 p c == 0

theorem any_split {α : Type} {l : List α} {f : α → Bool} {k : Nat} (h : k < l.length) : (l.drop k).any f = (f l[k] || (l.drop (k + 1)).any f) := by
  rw [List.drop_eq_getElem_cons h, List.any_cons]

set_option maxRecDepth 100000 in
set_option maxHeartbeats 2000000 in
theorem hasMark_any (a a' : Option Addr) (cap cap' : Nat) (l : List At) (m : List (Int × Int)) (d : Int) (w : World) (hl : l.length ≤ maxLen) (hm : m.length ≤ maxLen) (h : AtomsAt w a l) (h' : StepsAt w a' m) :
    Calls Tryz.prog 121 #[.slice a l.length cap, .agg #[.slice a' m.length cap', .int .i64 d]] w fun e w' => e = .returned (.bool (hasMk l m d)) ∧ Below w.heap.size w w' := by
  unfold maxLen at hl
  have HH : Hid (hasMk l m d = (l.drop 0).any fun x => ordM x.path x.clock m d == 0) := rfl
  go_enter Tryz.func121, Tryz.ntmps121
  go_upto_region 1 with fail
  have hbA : Below w.heap.size w (w.alloc (Obj.cells #[.slice a' m.length cap', .int .i64 d] 42)) := (Below.refl _ _).alloc (Nat.le_refl _) _
  have q0 : (w.alloc (Obj.cells #[.slice a' m.length cap', .int .i64 d] 42)).cell? ⟨w.heap.size, 0, none⟩ = some (.slice a' m.length cap') := by simp
  have q1 : (w.alloc (Obj.cells #[.slice a' m.length cap', .int .i64 d] 42)).cell? ⟨w.heap.size, 1, none⟩ = some (.int .i64 d) := by simp
  have z1 : w.heap.size < (w.alloc (Obj.cells #[.slice a' m.length cap', .int .i64 d] 42)).heap.size := by simp
  generalize w.alloc (Obj.cells #[.slice a' m.length cap', .int .i64 d] 42) = w1 at hbA q0 q1 z1 ⊢
  go_wp2_with fail
  go_loopw [5] (fun i wr => ∃ k : Nat, k ≤ l.length ∧ i = .int .i64 k ∧ ((l.drop k).any fun x => ordM x.path x.clock m d == 0) = hasMk l m d ∧ Below w1.heap.size w1 wr) (fun i _ => l.length - (intOf i).toNat)
  case atStart => exact ⟨0, Nat.zero_le _, rfl, rfl, Below.refl _ _⟩
  case round =>
    obtain ⟨k, hk, rfl, hck, hb⟩ := hrel
    have HK := hidE hck
    clear hck
    have hbW := hbA.thru hb hbA.size
    by_cases hlt : k < l.length
    · rcases h.below hbW (Nat.le_refl _) with hs | ⟨ab, ao, rfl, hab, hc⟩
      · simp [hs] at hlt
      obtain ⟨p, cp, c0, c1, c2, hst, hle, _⟩ := hc k hlt
      have HN : Hid (hasMk l m d = ((ordM l[k].path l[k].clock m d == 0) || (l.drop (k + 1)).any fun x => ordM x.path x.clock m d == 0)) := by
        show _ = _
        rw [← HK.out, any_split hlt]
      have hi1 : (k : Int) < l.length := by omega
      generalize l[k].path = pk at *
      generalize l[k].clock = ck at *
      have k0 := cell_regrown c0
      have k1 := cell_regrown c1
      have k2 := cell_regrown ((hb.cell (p := ⟨w.heap.size, 0, none⟩) z1).trans q0)
      have k3 := cell_regrown ((hb.cell (p := ⟨w.heap.size, 1, none⟩) z1).trans q1)
      have S1 := hidE (fun d os => hst.below (below_regrown wr d os) (Nat.le_refl _))
      have S2 := hidE (fun d os => (h'.below hbW (Nat.le_refl _)).below (below_regrown wr d os) (Nat.le_refl _))
      clear hc h hst h' HK
      go_wp2_with fail
      refine wp_region_quiet_below (by kernel_rfl) (by kernel_rfl) ?_
      repeat (first | go_big_quiet_step ((go_at_call 58; exact Calls.regrown_of (sameMark_n _ _ _ _ _ _ pk m _ _ _ rfl rfl hle hm (S1.out _ _) (S2.out _ _)))) | quiet_step ((go_at_call 58; exact Calls.regrown_of (sameMark_n _ _ _ _ _ _ pk m _ _ _ rfl rfl hle hm (S1.out _ _) (S2.out _ _)))))
      refine wpQuiet_nil ?_
      intro _ hw'
      obtain ⟨⟨dq, osq⟩, hw''⟩ := hw'
      subst hw''
      by_cases ho : (ordM pk ck m d == 0) = true
      · have HF : Hid (hasMk l m d = true) := by show _ = _; rw [HN.out, ho, Bool.true_or]
        go_wp2
        go_ret
        exact ⟨ret_bool HF.out.symm, hbW.thru (below_regrown _ _ _) hbW.size⟩
      · have ho' : (ordM pk ck m d == 0) = false := by simpa using ho
        have HF : Hid (hasMk l m d = (l.drop (k + 1)).any fun x => ordM x.path x.clock m d == 0) := by show _ = _; rw [HN.out, ho', Bool.false_or]
        clear ho
        go_wp2
        go_roundw
        case rel => exact ⟨k + 1, by omega, by go_num, HF.out.symm, hb.thru (below_regrown _ _ _) hb.size⟩
        case measure => simp [intOf]; omega
    · go_wp2
      go_ret
      refine ⟨ret_bool ?_, hbW⟩
      rw [← HK.out, List.drop_eq_nil_of_le (by omega)]; rfl

set_option maxRecDepth 100000 in
set_option maxHeartbeats 2000000 in
theorem hasGone_any (a a' : Option Addr) (cap cap' : Nat) (l : List (List (Int × Int) × Int)) (m : List (Int × Int)) (d : Int) (w : World) (hl : l.length ≤ maxLen) (hm : m.length ≤ maxLen) (h : MarksAt w a l) (h' : StepsAt w a' m) :
    Calls Tryz.prog 122 #[.slice a l.length cap, .agg #[.slice a' m.length cap', .int .i64 d]] w fun e w' => e = .returned (.bool (hasGone l m d)) ∧ Below w.heap.size w w' := by
  unfold maxLen at hl
  go_enter Tryz.func122, Tryz.ntmps122
  go_upto_region 1 with fail
  have hbA : Below w.heap.size w (w.alloc (Obj.cells #[.slice a' m.length cap', .int .i64 d] 42)) := (Below.refl _ _).alloc (Nat.le_refl _) _
  have q0 : (w.alloc (Obj.cells #[.slice a' m.length cap', .int .i64 d] 42)).cell? ⟨w.heap.size, 0, none⟩ = some (.slice a' m.length cap') := by simp
  have q1 : (w.alloc (Obj.cells #[.slice a' m.length cap', .int .i64 d] 42)).cell? ⟨w.heap.size, 1, none⟩ = some (.int .i64 d) := by simp
  have z1 : w.heap.size < (w.alloc (Obj.cells #[.slice a' m.length cap', .int .i64 d] 42)).heap.size := by simp
  generalize w.alloc (Obj.cells #[.slice a' m.length cap', .int .i64 d] 42) = w1 at hbA q0 q1 z1 ⊢
  go_wp2_with fail
  go_loopw [5] (fun i wr => ∃ k : Nat, k ≤ l.length ∧ i = .int .i64 k ∧ ((l.drop k).any fun x => ordM x.1 x.2 m d == 0) = hasGone l m d ∧ Below w1.heap.size w1 wr) (fun i _ => l.length - (intOf i).toNat)
  case atStart => exact ⟨0, Nat.zero_le _, rfl, rfl, Below.refl _ _⟩
  case round =>
    obtain ⟨k, hk, rfl, hck, hb⟩ := hrel
    have HK := hidE hck
    clear hck
    have hbW := hbA.thru hb hbA.size
    by_cases hlt : k < l.length
    · rcases h.below hbW (Nat.le_refl _) with hs | ⟨ab, ao, rfl, hab, hc⟩
      · simp [hs] at hlt
      obtain ⟨p, cp, c0, c1, hst, hle⟩ := hc k hlt
      have HN : Hid (hasGone l m d = ((ordM l[k].1 l[k].2 m d == 0) || (l.drop (k + 1)).any fun x => ordM x.1 x.2 m d == 0)) := by
        show _ = _
        rw [← HK.out, any_split hlt]
      have hi1 : (k : Int) < l.length := by omega
      generalize l[k].1 = pk at *
      generalize l[k].2 = ck at *
      have k0 := cell_regrown c0
      have k1 := cell_regrown c1
      have k2 := cell_regrown ((hb.cell (p := ⟨w.heap.size, 0, none⟩) z1).trans q0)
      have k3 := cell_regrown ((hb.cell (p := ⟨w.heap.size, 1, none⟩) z1).trans q1)
      have S1 := hidE (fun d os => hst.below (below_regrown wr d os) (Nat.le_refl _))
      have S2 := hidE (fun d os => (h'.below hbW (Nat.le_refl _)).below (below_regrown wr d os) (Nat.le_refl _))
      clear hc h hst h' HK
      go_wp2_with fail
      refine wp_region_quiet_below (by kernel_rfl) (by kernel_rfl) ?_
      repeat (first | go_big_quiet_step ((go_at_call 58; exact Calls.regrown_of (sameMark_n _ _ _ _ _ _ pk m _ _ _ rfl rfl hle hm (S1.out _ _) (S2.out _ _)))) | quiet_step ((go_at_call 58; exact Calls.regrown_of (sameMark_n _ _ _ _ _ _ pk m _ _ _ rfl rfl hle hm (S1.out _ _) (S2.out _ _)))))
      refine wpQuiet_nil ?_
      intro _ hw'
      obtain ⟨⟨dq, osq⟩, hw''⟩ := hw'
      subst hw''
      by_cases ho : (ordM pk ck m d == 0) = true
      · have HF : Hid (hasGone l m d = true) := by show _ = _; rw [HN.out, ho, Bool.true_or]
        go_wp2
        go_ret
        exact ⟨ret_bool HF.out.symm, hbW.thru (below_regrown _ _ _) hbW.size⟩
      · have ho' : (ordM pk ck m d == 0) = false := by simpa using ho
        have HF : Hid (hasGone l m d = (l.drop (k + 1)).any fun x => ordM x.1 x.2 m d == 0) := by show _ = _; rw [HN.out, ho', Bool.false_or]
        clear ho
        go_wp2
        go_roundw
        case rel => exact ⟨k + 1, by omega, by go_num, HF.out.symm, hb.thru (below_regrown _ _ _) hb.size⟩
        case measure => simp [intOf]; omega
    · go_wp2
      go_ret
      refine ⟨ret_bool ?_, hbW⟩
      rw [← HK.out, List.drop_eq_nil_of_le (by omega)]; rfl
end Go.Proofs.YtnhjebdlcbhkcaeGreat

namespace Go.Proofs.YtnhjebdlcbhkcaeGreat
open Go.RowKit

def takeL (l : List At) (ms : List (List (Int × Int) × Int)) : List At := l.filter fun x => !hasGone ms x.path x.clock

set_option maxRecDepth 100000 in
set_option maxHeartbeats 2000000 in
theorem takeOf_ok (a a' : Option Addr) (cap cap' : Nat) (l : List At) (ms : List (List (Int × Int) × Int)) (w : World) (h : AtomsAt w a l) (h300 : l.length ≤ 300) (hm : ms.length ≤ maxLen) (h' : MarksAt w a' ms) :
    Calls Tryz.prog 129 #[.slice a l.length cap, .slice a' ms.length cap'] w fun e w' => ∃ p c, e = .returned (.slice p (takeL l ms).length c) ∧ AtomsAt w' p (takeL l ms) ∧ Below w.heap.size w w' := by
  obtain ⟨i0, hi, hz0, hz1, hz2⟩ := Tryz.info108
  go_enter Tryz.func129, Tryz.ntmps129
  go_wp2
  go_loopw [6, 5] (fun i v wr => ∃ k : Nat, k ≤ l.length ∧ i = .int .i64 k ∧ OwnsA w wr w.heap.size v (takeL (l.take k) ms) ∧ Below w.heap.size w wr) (fun i _ _ => l.length - (intOf i).toNat)
  case atStart => exact ⟨0, Nat.zero_le _, rfl, OwnsA.nil _ _ _, Below.refl _ _⟩
  case round =>
    obtain ⟨k, hk, rfl, ⟨rs, hrl, hown, hrr⟩, hb⟩ := hrel
    by_cases hlt : k < l.length
    · obtain ⟨ab, ao, rfl, hab, hc⟩ := h.raw (by omega)
      obtain ⟨⟨p, n, cp, ck, sk⟩, hr, c0, c1, c2⟩ := hc k hlt
      have hi1 : (k : Int) < l.length := by omega
      have HT : Hid (takeL (l.take (k + 1)) ms = takeL (l.take k) ms ++ if hasGone ms l[k].path l[k].clock then [] else [l[k]]) := by
        show _ = _
        unfold takeL
        rw [List.take_succ_eq_append_getElem hlt, List.filter_append]
        congr 1
        by_cases e : hasGone ms l[k].path l[k].clock = true
        · rw [if_pos e]; simp [e]
        · rw [if_neg e]; simp [e]
      have HLen : Hid ((takeL (l.take k) ms).length ≤ 300) := by
        show _ ≤ _
        unfold takeL
        exact Nat.le_trans (List.length_filter_le _ _) (by simp; omega)
      have HR := hidE hr
      have hn : n = l[k].path.length := hr.n
      have hck : ck = l[k].clock := hr.clock
      subst hn hck
      have d0 := (hb.cell (p := ⟨ab, ao + k * 3, none⟩) hab).trans c0
      have d1 := (hb.cell (p := ⟨ab, ao + k * 3 + 1, none⟩) hab).trans c1
      have d2 := (hb.cell (p := ⟨ab, ao + k * 3 + 2, none⟩) hab).trans c2
      have hln := hr.len
      have HS := hidE (hr.steps.below hb (Nat.le_refl _))
      clear hc h c0 c1 c2 hr
      go_wp2_with fail
      refine (hasGone_any _ _ _ _ ms l[k].path l[k].clock _ hm hln (h'.below hb (Nat.le_refl _)) HS.out).mono ?_
      rintro e w2 ⟨rfl, hb2⟩
      have e0 := (hb2.cell (p := ⟨ab, ao + k * 3, none⟩) (Nat.lt_of_lt_of_le hab hb.size)).trans d0
      have e1 := (hb2.cell (p := ⟨ab, ao + k * 3 + 1, none⟩) (Nat.lt_of_lt_of_le hab hb.size)).trans d1
      have e2 := (hb2.cell (p := ⟨ab, ao + k * 3 + 2, none⟩) (Nat.lt_of_lt_of_le hab hb.size)).trans d2
      have hown2 := owns_below hown hb2
      have hbb := hb.thru hb2 hb.size
      cases hg : hasGone ms l[k].path l[k].clock
      · have HT2 : Hid (takeL (l.take (k + 1)) ms = takeL (l.take k) ms ++ [l[k]]) := by show _ = _; rw [HT.out, hg]; rfl
        clear hg HT d0 d1 d2 hown
        have HC : Hid (∀ j u, ((⟨p, l[k].path.length, cp, l[k].clock, sk⟩ : Raw).cells)[j]? = some u → (w2.alloc (.cells #[.slice p l[k].path.length cp, .int .i64 l[k].clock, .int .u8 sk] 108)).cell? ⟨w2.heap.size, j, none⟩ = some u) := by
          exact raw_new w2 ⟨p, l[k].path.length, cp, l[k].clock, sk⟩
        have hown3 := hown2.alloc (.cells #[.slice p l[k].path.length cp, .int .i64 l[k].clock, .int .u8 sk] 108)
        have hB3 := hbb.alloc hbb.size (.cells #[.slice p l[k].path.length cp, .int .i64 l[k].clock, .int .u8 sk] 108)
        go_wp2_with (at_builtin; refine wpList_append_own _ rfl _ _ 22 rfl w.heap.size 108 i0 (.agg #[.slice none 0 0, .int .i64 0, .int .u8 0]) 3 40 Tryz.underlying22 hi hz0 hz1 hz2 rfl (by decide) _ _ _ rfl hown3 ⟨w2.heap.size, 0, none⟩ 1 1 ((⟨p, l[k].path.length, cp, l[k].clock, sk⟩ : Raw).cells) rfl ?qc1 ?qc2 ?qc3 ?qc4 ?qc5 ?qc6 ?_)
        case qc1 => rfl
        case qc2 =>
          intro j u hj
          rw [Addr.add_lit, Nat.zero_add]
          exact HC.out j u hj
        case qc3 => intro u hu; exact flatR_one [⟨p, l[k].path.length, cp, l[k].clock, sk⟩] u (by simpa [flatR] using hu)
        case qc4 => have := HLen.out; unfold maxLen; omega
        case qc5 => have := HLen.out; omega
        case qc6 => exact hB3.size
        intro v' w3 hown4 hgrow hnil
        go_wp2
        go_roundw
        case rel => exact ⟨k + 1, by omega, by go_num, by rw [HT2.out]; exact ownsA_snoc hrl hrr HR.out hown4, hB3.grown hgrow hB3.size (fun k hk => (hown3.lt k hk).1)⟩
        case measure => simp [intOf]; omega
      · have HT2 : Hid (takeL (l.take (k + 1)) ms = takeL (l.take k) ms) := by show _ = _; rw [HT.out, hg]; simp
        clear hg HT
        go_wp2
        go_roundw
        case rel => exact ⟨k + 1, by omega, by go_num, by rw [HT2.out]; exact ⟨rs, hrl, hown2, hrr⟩, hbb⟩
        case measure => simp [intOf]; omega
    · have hkl : k = l.length := by omega
      subst hkl
      rw [List.take_length] at hrl hown hrr
      obtain ⟨p, c, rfl, ha, _⟩ := OwnsA.atoms ⟨rs, hrl, hown, hrr⟩ hb
      go_wp2
      go_ret
      exact ⟨p, c, rfl, ha, hb⟩
end Go.Proofs.YtnhjebdlcbhkcaeGreat

namespace Go.Proofs.YtnhjebdlcbhkcaeGreat
open Go.RowKit

def goneAt (l : List At) (ms : List (List (Int × Int) × Int)) (j : Nat) : Bool := match l[j]? with
  | some x => hasGone ms x.path x.clock
  | none => false

theorem goneAt_nil (l : List At) (j : Nat) : goneAt l [] j = false := by unfold goneAt; split <;> rfl

theorem goneAt_snoc (l : List At) (ms : List (List (Int × Int) × Int)) (x : List (Int × Int) × Int) (j : Nat) (h : j < l.length) : goneAt l (ms ++ [x]) j = (goneAt l ms j || (ordM l[j].path l[j].clock x.1 x.2 == 0)) := by
  unfold goneAt
  rw [List.getElem?_eq_getElem h]
  show hasGone _ _ _ = (hasGone _ _ _ || _)
  unfold hasGone
  rw [List.any_append]
  congr 1
  simp only [List.any_cons, List.any_nil, Bool.or_false]
  have := cmpM.anti (l[j].path, l[j].clock) x
  simp only at this
  rw [this]
  by_cases e : ordM x.1 x.2 l[j].path l[j].clock = 0
  · rw [e]; rfl
  · rw [beq_eq_false_iff_ne.2 e, beq_eq_false_iff_ne.2 (by omega)]

theorem pickTo_take (l : List At) (ms : List (List (Int × Int) × Int)) : ∀ k, k ≤ l.length → pickTo (fun j => !goneAt l ms j) l k = takeL (l.take k) ms
  | 0, _ => rfl
  | k + 1, hk => by
    have hlt : k < l.length := by omega
    have ih := pickTo_take l ms k (by omega)
    show (pickTo (fun j => !goneAt l ms j) l k ++ if (!goneAt l ms k) = true then l[k]?.toList else []) = _
    rw [ih, List.take_succ_eq_append_getElem hlt]
    unfold takeL
    rw [List.filter_append]
    congr 1
    unfold goneAt
    rw [List.getElem?_eq_getElem hlt]
    simp only [List.filter_cons, List.filter_nil]
    split <;> simp_all
end Go.Proofs.YtnhjebdlcbhkcaeGreat

namespace Go.Proofs.YtnhjebdlcbhkcaeGreat

def putL (l m : List At) : List At := m.foldl (fun acc a => putA a acc false) l

theorem stepPut_len (a x : At) (put : Bool) : (stepPut a x put).1.length + (if put then 1 else 0) ≤ 1 + (if (stepPut a x put).2 then 1 else 0) := by
  unfold stepPut
  by_cases h1 : 0 < ordA x a
  · rw [if_pos h1]; cases put <;> simp
  · rw [if_neg h1]
    by_cases h2 : ordA x a = 0
    · rw [if_pos h2]; cases put <;> simp
    · rw [if_neg h2]; cases put <;> simp
theorem putA_len (a : At) : ∀ (l : List At) (put : Bool), (putA a l put).length + (if put then 1 else 0) ≤ l.length + 1
  | [], put => by cases put <;> simp [putA]
  | x :: l, put => by
    have h1 := stepPut_len a x put
    have h2 := putA_len a l (stepPut a x put).2
    show ((stepPut a x put).1 ++ putA a l (stepPut a x put).2).length + _ ≤ _
    rw [List.length_append, List.length_cons]
    omega

end Go.Proofs.YtnhjebdlcbhkcaeGreat

namespace Go.Proofs.YtnhjebdlcbhkcaeGreat
open Go.RowKit

def sameAt (x y : At) : Bool := x.sign == y.sign && (ordM x.path x.clock y.path y.clock == 0)
def sameL : List At → List At → Bool
  | [], [] => true
  | x :: l, y :: m => sameAt x y && sameL l m
  | _, _ => false

theorem sameL_drop {l m : List At} {k : Nat} (h : k < l.length) (h' : k < m.length) : sameL (l.drop k) (m.drop k) = (sameAt l[k] m[k] && sameL (l.drop (k + 1)) (m.drop (k + 1))) := by
  rw [List.drop_eq_getElem_cons h, List.drop_eq_getElem_cons h']; rfl
theorem sameL_len : ∀ {l m : List At}, l.length ≠ m.length → sameL l m = false
  | [], [], h => absurd rfl h
  | [], _ :: _, _ => rfl
  | _ :: _, [], _ => rfl
  | x :: l, y :: m, h => by show (sameAt x y && sameL l m) = false; rw [sameL_len (l := l) (m := m) (by simpa using h), Bool.and_false]

set_option maxRecDepth 100000 in
set_option maxHeartbeats 2000000 in
theorem sameAtoms_any (a a' : Option Addr) (cap cap' : Nat) (l m : List At) (w : World) (hl : l.length ≤ maxLen) (_hm : m.length ≤ maxLen) (h : AtomsAt w a l) (h' : AtomsAt w a' m) :
    Calls Tryz.prog 51 #[.slice a l.length cap, .slice a' m.length cap'] w fun e w' => e = .returned (.bool (sameL l m)) ∧ Below w.heap.size w w' := by
  unfold maxLen at hl
  by_cases hlen : l.length = m.length
  rotate_left
  · have hd : (l.length : Int) ≠ m.length := by omega
    have hd' : ((l.length : Int) != m.length) = true := bne_iff_ne.2 hd
    go_enter Tryz.func51, Tryz.ntmps51
    go_wp2
    go_ret
    exact ⟨ret_bool (sameL_len hlen).symm, Below.refl _ _⟩
  have hd : (l.length : Int) = m.length := by omega
  have hd' : ((l.length : Int) != m.length) = false := by rw [hd]; exact bne_self_eq_false _
  go_enter Tryz.func51, Tryz.ntmps51
  go_wp2
  go_loopw [5] (fun i wr => ∃ k : Nat, k ≤ l.length ∧ i = .int .i64 k ∧ sameL (l.drop k) (m.drop k) = sameL l m ∧ Below w.heap.size w wr) (fun i _ => l.length - (intOf i).toNat)
  case atStart => exact ⟨0, Nat.zero_le _, rfl, rfl, Below.refl _ _⟩
  case round =>
    obtain ⟨k, hk, rfl, hck, hb⟩ := hrel
    have HK := hidE hck
    clear hck
    by_cases hlt : k < l.length
    · rcases h.below hb (Nat.le_refl _) with hs | ⟨ab, ao, rfl, hab, hc⟩
      · simp [hs] at hlt
      have hltm : k < m.length := by omega
      rcases h'.below hb (Nat.le_refl _) with hs | ⟨bb, bo, rfl, hbb, hc'⟩
      · simp [hs] at hltm
      obtain ⟨p, cp, c0, c1, c2, hst, hle, _⟩ := hc k hlt
      obtain ⟨p', cp', c0', c1', c2', hst', hle', _⟩ := hc' k hltm
      have HN : Hid (sameL l m = (((l[k].sign == m[k].sign) && (ordM l[k].path l[k].clock m[k].path m[k].clock == 0)) && sameL (l.drop (k + 1)) (m.drop (k + 1)))) := by
        show _ = _
        rw [← HK.out, sameL_drop hlt hltm]; rfl
      have hi1 : (k : Int) < l.length := by omega
      have hi2 : (k : Int) < m.length := by omega
      generalize l[k].path = pk at *
      generalize l[k].clock = ck at *
      generalize l[k].sign = sk at *
      generalize m[k].path = pk' at *
      generalize m[k].clock = ck' at *
      generalize m[k].sign = sk' at *
      have k0 := cell_regrown c0
      have k1 := cell_regrown c1
      have k2 := cell_regrown c2
      have k3 := cell_regrown c0'
      have k4 := cell_regrown c1'
      have k5 := cell_regrown c2'
      have S1 := hidE (fun d os => hst.below (below_regrown wr d os) (Nat.le_refl _))
      have S2 := hidE (fun d os => hst'.below (below_regrown wr d os) (Nat.le_refl _))
      clear hc hc' h hst h' hst' HK
      by_cases hsg : sk = sk'
      · subst hsg
        have hne : (sk != sk) = false := bne_self_eq_false _
        go_wp2_with fail
        refine wp_region_quiet_below (by kernel_rfl) (by kernel_rfl) ?_
        repeat (first | go_big_quiet_step ((go_at_call 58; exact Calls.regrown_of (sameMark_n _ _ _ _ _ _ pk pk' _ _ _ rfl rfl hle hle' (S1.out _ _) (S2.out _ _)))) | quiet_step ((go_at_call 58; exact Calls.regrown_of (sameMark_n _ _ _ _ _ _ pk pk' _ _ _ rfl rfl hle hle' (S1.out _ _) (S2.out _ _)))))
        refine wpQuiet_nil ?_
        intro _ hw'
        obtain ⟨⟨dq, osq⟩, hw''⟩ := hw'
        subst hw''
        cases ho : (ordM pk ck pk' ck' == 0)
        · have HF : Hid (sameL l m = false) := by show _ = _; rw [HN.out, ho, Bool.and_false, Bool.false_and]
          clear ho
          go_wp2
          go_ret
          exact ⟨ret_bool HF.out.symm, hb.thru (below_regrown _ _ _) hb.size⟩
        · have HF : Hid (sameL l m = sameL (l.drop (k + 1)) (m.drop (k + 1))) := by show _ = _; rw [HN.out, ho, beq_self_eq_true, Bool.true_and, Bool.true_and]
          clear ho
          go_wp2
          go_roundw
          case rel => exact ⟨k + 1, by omega, by go_num, HF.out.symm, hb.thru (below_regrown _ _ _) hb.size⟩
          case measure => simp [intOf]; omega
      · have hne : (sk != sk') = true := bne_iff_ne.2 hsg
        have HF : Hid (sameL l m = false) := by show _ = _; rw [HN.out, beq_eq_false_iff_ne.2 hsg, Bool.false_and, Bool.false_and]
        clear hsg
        go_wp2_with fail
        refine wp_region_quiet_below (by kernel_rfl) (by kernel_rfl) ?_
        repeat (first | go_big_quiet_step (fail) | quiet_step (fail))
        refine wpQuiet_nil ?_
        intro _ hw'
        obtain ⟨⟨dq, osq⟩, hw''⟩ := hw'
        subst hw''
        go_wp2
        go_ret
        exact ⟨ret_bool HF.out.symm, hb.thru (below_regrown _ _ _) hb.size⟩
    · go_wp2
      go_ret
      refine ⟨ret_bool ?_, hb⟩
      rw [← HK.out, List.drop_eq_nil_of_le (by omega), List.drop_eq_nil_of_le (by omega)]; rfl

end Go.Proofs.YtnhjebdlcbhkcaeGreat

namespace Go.Proofs.YtnhjebdlcbhkcaeGreat
open Go.RowKit

theorem ordI_zero {a b : Int} (h : ordI a b = 0) : a = b := by
  unfold ordI at h
  split at h
  · omega
  · split at h <;> omega
theorem orI_zero {a b : Int} (h : orI a b = 0) : a = 0 ∧ b = 0 := by
  unfold orI at h; split at h <;> simp_all
theorem ordM_zero {l m : List (Int × Int)} {c d : Int} (h : ordM l c m d = 0) : l = m ∧ c = d := by
  obtain ⟨h1, h2⟩ := orI_zero h
  exact ⟨ordP_zero h1, ordI_zero h2⟩
theorem sameL_refl : ∀ l : List At, sameL l l = true
  | [] => rfl
  | x :: l => by
    show (sameAt x x && sameL l l) = true
    rw [sameL_refl l, Bool.and_true]
    unfold sameAt
    have : ordM x.path x.clock x.path x.clock = 0 := cmpM.refl (x.path, x.clock)
    rw [this]; simp
end Go.Proofs.YtnhjebdlcbhkcaeGreat

namespace Go.Proofs.YtnhjebdlcbhkcaeGreat
open Go.RowKit

def Least (S : List At) (x : At) : Prop := x ∈ S ∧ ∀ y ∈ S, ordA x y = 0 → x.sign ≤ y.sign

theorem rises_eq : ∀ {l m : List At}, l.Pairwise (fun x y => ordA x y < 0) → m.Pairwise (fun x y => ordA x y < 0) → (∀ x, x ∈ l ↔ x ∈ m) → l = m
  | [], [], _, _, _ => rfl
  | [], y :: m, _, _, h => by have := (h y).2 (List.mem_cons_self ..); simp at this
  | x :: l, [], _, _, h => by have := (h x).1 (List.mem_cons_self ..); simp at this
  | x :: l, y :: m, h1, h2, h => by
    have p1 := List.pairwise_cons.1 h1
    have p2 := List.pairwise_cons.1 h2
    have e : x = y := by
      rcases List.mem_cons.1 ((h x).1 (List.mem_cons_self ..)) with e | e
      · exact e
      rcases List.mem_cons.1 ((h y).2 (List.mem_cons_self ..)) with e' | e'
      · exact e'.symm
      have a1 := p2.1 x e
      have a2 := p1.1 y e'
      have a3 := cmpA.anti x y
      omega
    subst e
    have hirr : ordA x x = 0 := cmpA.refl x
    rw [rises_eq p1.2 p2.2 (fun z => ⟨fun hz => ?_, fun hz => ?_⟩)]
    · rcases List.mem_cons.1 ((h z).1 (List.mem_cons_of_mem _ hz)) with e | e
      · subst e; have := p1.1 z hz; omega
      · exact e
    · rcases List.mem_cons.1 ((h z).2 (List.mem_cons_of_mem _ hz)) with e | e
      · subst e; have := p2.1 z hz; omega
      · exact e
end Go.Proofs.YtnhjebdlcbhkcaeGreat

namespace Go.Proofs.YtnhjebdlcbhkcaeGreat
open Go.RowKit

theorem least_congr {S T : List At} (h : ∀ x, x ∈ S ↔ x ∈ T) (z : At) : Least S z ↔ Least T z := by
  unfold Least
  rw [h z]
  exact and_congr_right fun _ => ⟨fun g y hy => g y ((h y).2 hy), fun g y hy => g y ((h y).1 hy)⟩

theorem rises_least {l : List At} (h : l.Pairwise (fun x y => ordA x y < 0)) (z : At) : Least l z ↔ z ∈ l := by
  refine ⟨fun g => g.1, fun g => ⟨g, fun y hy e => ?_⟩⟩
  obtain ⟨i, hi, rfl⟩ := List.mem_iff_getElem.1 g
  obtain ⟨j, hj, rfl⟩ := List.mem_iff_getElem.1 hy
  rcases Nat.lt_trichotomy i j with hij | rfl | hij
  · have := List.pairwise_iff_getElem.1 h i j hi hj hij; omega
  · exact Int.le_refl _
  · have h1 := List.pairwise_iff_getElem.1 h j i hj hi hij
    have h2 := cmpA.anti l[i] l[j]
    omega

theorem least_cons_far {x : At} {S : List At} (h : ∀ y ∈ S, ordA x y < 0) (z : At) : Least (x :: S) z ↔ z = x ∨ Least S z := by
  constructor
  · rintro ⟨h1, h2⟩
    rcases List.mem_cons.1 h1 with e | e
    · exact Or.inl e
    · exact Or.inr ⟨e, fun y hy => h2 y (List.mem_cons_of_mem _ hy)⟩
  · rintro (rfl | ⟨h1, h2⟩)
    · refine ⟨List.mem_cons_self .., fun y hy e => ?_⟩
      rcases List.mem_cons.1 hy with rfl | hy
      · exact Int.le_refl _
      · have := h y hy; omega
    · refine ⟨List.mem_cons_of_mem _ h1, fun y hy e => ?_⟩
      rcases List.mem_cons.1 hy with rfl | hy
      · have h3 := h z h1
        have h4 := cmpA.anti z y
        omega
      · exact h2 y hy e

theorem putA_true (a : At) : ∀ l : List At, (∀ x ∈ l, ordA a x < 0) → putA a l true = l
  | [], _ => rfl
  | x :: l, h => by
    have h1 := h x (List.mem_cons_self ..)
    have h2 := cmpA.anti a x
    have hs : stepPut a x true = ([x], true) := by unfold stepPut; rw [if_pos (by omega)]; rfl
    show (stepPut a x true).1 ++ putA a l (stepPut a x true).2 = _
    rw [hs, putA_true a l (fun y hy => h y (List.mem_cons_of_mem _ hy))]; rfl

theorem ordA_zero {x y : At} (h : ordA x y = 0) : x.path = y.path ∧ x.clock = y.clock := ordM_zero h

theorem putA_least (a : At) : ∀ l : List At, l.Pairwise (fun x y => ordA x y < 0) → (putA a l false).Pairwise (fun x y => ordA x y < 0) ∧ ∀ z, z ∈ putA a l false ↔ Least (a :: l) z
  | [], _ => by
    refine ⟨by simp [putA], fun z => ?_⟩
    rw [rises_least (by simp)]; simp [putA]
  | x :: l, h => by
    have p := List.pairwise_cons.1 h
    show ((stepPut a x false).1 ++ putA a l (stepPut a x false).2).Pairwise _ ∧ ∀ z, z ∈ (stepPut a x false).1 ++ putA a l (stepPut a x false).2 ↔ _
    rcases (show 0 < ordA x a ∨ ordA x a = 0 ∨ ordA x a < 0 by omega) with o | o | o
    · have hs : stepPut a x false = ([a, x], true) := by unfold stepPut; rw [if_pos o]; rfl
      have hax : ordA a x < 0 := by have := cmpA.anti a x; omega
      have hal : ∀ y ∈ l, ordA a y < 0 := fun y hy => ordA_trans hax (p.1 y hy)
      have hr : (a :: x :: l).Pairwise (fun x y => ordA x y < 0) := List.pairwise_cons.2 ⟨fun y hy => by
        rcases List.mem_cons.1 hy with rfl | hy
        · exact hax
        · exact hal y hy, h⟩
      rw [hs, putA_true a l hal]
      exact ⟨hr, fun z => (rises_least hr z).symm⟩
    · have hs : stepPut a x false = ([lessSign a x], true) := by unfold stepPut; rw [if_neg (by omega), if_pos o]
      have hal : ∀ y ∈ l, ordA a y < 0 := fun y hy => by
        have := p.1 y hy
        have := cmpA.eqv x a y o
        omega
      obtain ⟨e1, e2⟩ := ordA_zero o
      have hle : lessSign a x = if a.sign < x.sign then a else x := by
        unfold lessSign
        obtain ⟨_, _, _⟩ := x
        obtain ⟨_, _, _⟩ := a
        simp only at e1 e2 ⊢
        subst e1 e2
        split <;> rfl
      rw [hs, putA_true a l hal, hle]
      have hrise : ∀ y ∈ l, ordA (if a.sign < x.sign then a else x) y < 0 := fun y hy => by
        split
        · exact hal y hy
        · exact p.1 y hy
      refine ⟨List.pairwise_cons.2 ⟨hrise, p.2⟩, fun z => ?_⟩
      have hoa : ordA a x = 0 := by have := cmpA.anti a x; omega
      show z ∈ (if a.sign < x.sign then a else x) :: l ↔ _
      rw [List.mem_cons, ← rises_least p.2 z]
      constructor
      · rintro (rfl | ⟨h1, h2⟩)
        · refine ⟨by split <;> simp, fun y hy e => ?_⟩
          rcases List.mem_cons.1 hy with rfl | hy
          · split <;> omega
          · rcases List.mem_cons.1 hy with rfl | hy
            · split <;> omega
            · have := hrise y hy; omega
        · refine ⟨by simp [h1], fun y hy e => ?_⟩
          have b1 := hal z h1
          have b2 := p.1 z h1
          have b3 := cmpA.anti z a
          have b4 := cmpA.anti z x
          rcases List.mem_cons.1 hy with rfl | hy
          · omega
          · rcases List.mem_cons.1 hy with rfl | hy
            · omega
            · exact h2 y hy e
      · rintro ⟨h1, h2⟩
        rcases List.mem_cons.1 h1 with rfl | h1
        · left
          have := h2 x (by simp) hoa
          by_cases c : z.sign < x.sign
          · rw [if_pos c]
          · rw [if_neg c]
            obtain ⟨_, _, _⟩ := x
            obtain ⟨_, _, _⟩ := z
            simp only at e1 e2 this c ⊢
            subst e1 e2
            congr 1
            omega
        · rcases List.mem_cons.1 h1 with rfl | h1
          · left
            have := h2 a (by simp) o
            rw [if_neg (by omega)]
          · exact Or.inr ⟨h1, fun y hy => h2 y (by simp [hy])⟩
    · have hs : stepPut a x false = ([x], false) := by unfold stepPut; rw [if_neg (by omega), if_neg (by omega)]
      obtain ⟨ih1, ih2⟩ := putA_least a l p.2
      rw [hs]
      have hx : ∀ y ∈ a :: l, ordA x y < 0 := fun y hy => by
        rcases List.mem_cons.1 hy with rfl | hy
        · exact o
        · exact p.1 y hy
      refine ⟨List.pairwise_cons.2 ⟨fun y hy => hx y ((ih2 y).1 hy).1, ih1⟩, fun z => ?_⟩
      show z ∈ x :: putA a l false ↔ _
      rw [List.mem_cons, ih2 z, ← least_cons_far hx z]
      exact least_congr (fun y => by simp only [List.mem_cons]; constructor <;> (rintro (h | h | h) <;> simp [h])) z
end Go.Proofs.YtnhjebdlcbhkcaeGreat
