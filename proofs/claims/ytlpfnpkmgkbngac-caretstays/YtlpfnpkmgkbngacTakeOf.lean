import Derived.Test.YtlpfnpkmgkbngacAtomCk
import Derived.Test.YtlpfnpkmgkbngacSortP
import Derived.Test.YtlpfnpkmgkbngacRawA
namespace Go.Proofs.Ytlpfnpkmgkbngac
open Go.RowKit

/-- is the mark in the list? -/
def hasGone (l : List (List (Int × Int) × Int)) (p : List (Int × Int)) (c : Int) : Bool := l.any fun x => ordM x.1 x.2 p c == 0

theorem any_split {α : Type} {l : List α} {f : α → Bool} {k : Nat} (h : k < l.length) : (l.drop k).any f = (f l[k] || (l.drop (k + 1)).any f) := by
  rw [List.drop_eq_getElem_cons h, List.any_cons]

set_option maxRecDepth 100000 in
set_option maxHeartbeats 2000000 in
theorem hasMark_any (a a' : Option Addr) (cap cap' : Nat) (l : List At) (m : List (Int × Int)) (d : Int) (w : World) (hl : l.length ≤ maxLen) (hm : m.length ≤ maxLen) (h : AtomsAt w a l) (h' : StepsAt w a' m) :
    Calls Try.prog 46 #[.slice a l.length cap, .agg #[.slice a' m.length cap', .int .i64 d]] w fun e w' => e = .returned (.bool (hasMk l m d)) ∧ Below w.heap.size w w' := by
  unfold maxLen at hl
  have HH : Hid (hasMk l m d = (l.drop 0).any fun x => ordM x.path x.clock m d == 0) := rfl
  go_enter Try.func46, Try.ntmps46
  go_upto_region 1 with fail
  have hbA : Below w.heap.size w (w.alloc (Obj.cells #[.slice a' m.length cap', .int .i64 d] 41)) := (Below.refl _ _).alloc (Nat.le_refl _) _
  have q0 : (w.alloc (Obj.cells #[.slice a' m.length cap', .int .i64 d] 41)).cell? ⟨w.heap.size, 0, none⟩ = some (.slice a' m.length cap') := by simp
  have q1 : (w.alloc (Obj.cells #[.slice a' m.length cap', .int .i64 d] 41)).cell? ⟨w.heap.size, 1, none⟩ = some (.int .i64 d) := by simp
  have z1 : w.heap.size < (w.alloc (Obj.cells #[.slice a' m.length cap', .int .i64 d] 41)).heap.size := by simp
  generalize w.alloc (Obj.cells #[.slice a' m.length cap', .int .i64 d] 41) = w1 at hbA q0 q1 z1 ⊢
  go_wp2_with fail
  go_loopw [5] (fun i wr => ∃ k : Nat, k ≤ l.length ∧ i = .int .i64 k ∧ ((l.drop k).any fun x => ordM x.path x.clock m d == 0) = hasMk l m d ∧ Below w1.heap.size w1 wr) (fun i _ => l.length - (intOf i).toNat)
  case atStart => exact ⟨0, Nat.zero_le _, rfl, rfl, Below.refl _ _⟩
  case round =>
    obtain ⟨k, hk, rfl, hck, hb⟩ := hrel
    have HK := hidE hck
    clear hck
    have hbW := hbA.thru hb hbA.size
    by_cases hlt : k < l.length
    · rcases h.below hbW (Nat.le_refl _) with hs | ⟨ab, ao, rfl, hab, hc⟩
      · simp [hs] at hlt
      obtain ⟨p, cp, c0, c1, c2, hst, hle, _⟩ := hc k hlt
      have HN : Hid (hasMk l m d = ((ordM l[k].path l[k].clock m d == 0) || (l.drop (k + 1)).any fun x => ordM x.path x.clock m d == 0)) := by
        show _ = _
        rw [← HK.out, any_split hlt]
      have hi1 : (k : Int) < l.length := by omega
      generalize l[k].path = pk at *
      generalize l[k].clock = ck at *
      have k0 := cell_regrown c0
      have k1 := cell_regrown c1
      have k2 := cell_regrown ((hb.cell (p := ⟨w.heap.size, 0, none⟩) z1).trans q0)
      have k3 := cell_regrown ((hb.cell (p := ⟨w.heap.size, 1, none⟩) z1).trans q1)
      have S1 := hidE (fun d os => hst.below (below_regrown wr d os) (Nat.le_refl _))
      have S2 := hidE (fun d os => (h'.below hbW (Nat.le_refl _)).below (below_regrown wr d os) (Nat.le_refl _))
      clear hc h hst h' HK
      go_wp2_with fail
      refine wp_region_quiet_below (by kernel_rfl) (by kernel_rfl) ?_
      repeat (first | go_big_quiet_step ((go_at_call 20; exact Calls.regrown_of (sameMark_n _ _ _ _ _ _ pk m _ _ _ rfl rfl hle hm (S1.out _ _) (S2.out _ _)))) | quiet_step ((go_at_call 20; exact Calls.regrown_of (sameMark_n _ _ _ _ _ _ pk m _ _ _ rfl rfl hle hm (S1.out _ _) (S2.out _ _)))))
      refine wpQuiet_nil ?_
      intro _ hw'
      obtain ⟨⟨dq, osq⟩, hw''⟩ := hw'
      subst hw''
      by_cases ho : (ordM pk ck m d == 0) = true
      · have HF : Hid (hasMk l m d = true) := by show _ = _; rw [HN.out, ho, Bool.true_or]
        go_wp2
        go_ret
        exact ⟨ret_bool HF.out.symm, hbW.thru (below_regrown _ _ _) hbW.size⟩
      · have ho' : (ordM pk ck m d == 0) = false := by simpa using ho
        have HF : Hid (hasMk l m d = (l.drop (k + 1)).any fun x => ordM x.path x.clock m d == 0) := by show _ = _; rw [HN.out, ho', Bool.false_or]
        clear ho
        go_wp2
        go_roundw
        case rel => exact ⟨k + 1, by omega, by go_num, HF.out.symm, hb.thru (below_regrown _ _ _) hb.size⟩
        case measure => simp [intOf]; omega
    · go_wp2
      go_ret
      refine ⟨ret_bool ?_, hbW⟩
      rw [← HK.out, List.drop_eq_nil_of_le (by omega)]; rfl

set_option maxRecDepth 100000 in
set_option maxHeartbeats 2000000 in
theorem hasGone_any (a a' : Option Addr) (cap cap' : Nat) (l : List (List (Int × Int) × Int)) (m : List (Int × Int)) (d : Int) (w : World) (hl : l.length ≤ maxLen) (hm : m.length ≤ maxLen) (h : MarksAt w a l) (h' : StepsAt w a' m) :
    Calls Try.prog 23 #[.slice a l.length cap, .agg #[.slice a' m.length cap', .int .i64 d]] w fun e w' => e = .returned (.bool (hasGone l m d)) ∧ Below w.heap.size w w' := by
  unfold maxLen at hl
  go_enter Try.func23, Try.ntmps23
  go_upto_region 1 with fail
  have hbA : Below w.heap.size w (w.alloc (Obj.cells #[.slice a' m.length cap', .int .i64 d] 41)) := (Below.refl _ _).alloc (Nat.le_refl _) _
  have q0 : (w.alloc (Obj.cells #[.slice a' m.length cap', .int .i64 d] 41)).cell? ⟨w.heap.size, 0, none⟩ = some (.slice a' m.length cap') := by simp
  have q1 : (w.alloc (Obj.cells #[.slice a' m.length cap', .int .i64 d] 41)).cell? ⟨w.heap.size, 1, none⟩ = some (.int .i64 d) := by simp
  have z1 : w.heap.size < (w.alloc (Obj.cells #[.slice a' m.length cap', .int .i64 d] 41)).heap.size := by simp
  generalize w.alloc (Obj.cells #[.slice a' m.length cap', .int .i64 d] 41) = w1 at hbA q0 q1 z1 ⊢
  go_wp2_with fail
  go_loopw [5] (fun i wr => ∃ k : Nat, k ≤ l.length ∧ i = .int .i64 k ∧ ((l.drop k).any fun x => ordM x.1 x.2 m d == 0) = hasGone l m d ∧ Below w1.heap.size w1 wr) (fun i _ => l.length - (intOf i).toNat)
  case atStart => exact ⟨0, Nat.zero_le _, rfl, rfl, Below.refl _ _⟩
  case round =>
    obtain ⟨k, hk, rfl, hck, hb⟩ := hrel
    have HK := hidE hck
    clear hck
    have hbW := hbA.thru hb hbA.size
    by_cases hlt : k < l.length
    · rcases h.below hbW (Nat.le_refl _) with hs | ⟨ab, ao, rfl, hab, hc⟩
      · simp [hs] at hlt
      obtain ⟨p, cp, c0, c1, hst, hle⟩ := hc k hlt
      have HN : Hid (hasGone l m d = ((ordM l[k].1 l[k].2 m d == 0) || (l.drop (k + 1)).any fun x => ordM x.1 x.2 m d == 0)) := by
        show _ = _
        rw [← HK.out, any_split hlt]
      have hi1 : (k : Int) < l.length := by omega
      generalize l[k].1 = pk at *
      generalize l[k].2 = ck at *
      have k0 := cell_regrown c0
      have k1 := cell_regrown c1
      have k2 := cell_regrown ((hb.cell (p := ⟨w.heap.size, 0, none⟩) z1).trans q0)
      have k3 := cell_regrown ((hb.cell (p := ⟨w.heap.size, 1, none⟩) z1).trans q1)
      have S1 := hidE (fun d os => hst.below (below_regrown wr d os) (Nat.le_refl _))
      have S2 := hidE (fun d os => (h'.below hbW (Nat.le_refl _)).below (below_regrown wr d os) (Nat.le_refl _))
      clear hc h hst h' HK
      go_wp2_with fail
      refine wp_region_quiet_below (by kernel_rfl) (by kernel_rfl) ?_
      repeat (first | go_big_quiet_step ((go_at_call 20; exact Calls.regrown_of (sameMark_n _ _ _ _ _ _ pk m _ _ _ rfl rfl hle hm (S1.out _ _) (S2.out _ _)))) | quiet_step ((go_at_call 20; exact Calls.regrown_of (sameMark_n _ _ _ _ _ _ pk m _ _ _ rfl rfl hle hm (S1.out _ _) (S2.out _ _)))))
      refine wpQuiet_nil ?_
      intro _ hw'
      obtain ⟨⟨dq, osq⟩, hw''⟩ := hw'
      subst hw''
      by_cases ho : (ordM pk ck m d == 0) = true
      · have HF : Hid (hasGone l m d = true) := by show _ = _; rw [HN.out, ho, Bool.true_or]
        go_wp2
        go_ret
        exact ⟨ret_bool HF.out.symm, hbW.thru (below_regrown _ _ _) hbW.size⟩
      · have ho' : (ordM pk ck m d == 0) = false := by simpa using ho
        have HF : Hid (hasGone l m d = (l.drop (k + 1)).any fun x => ordM x.1 x.2 m d == 0) := by show _ = _; rw [HN.out, ho', Bool.false_or]
        clear ho
        go_wp2
        go_roundw
        case rel => exact ⟨k + 1, by omega, by go_num, HF.out.symm, hb.thru (below_regrown _ _ _) hb.size⟩
        case measure => simp [intOf]; omega
    · go_wp2
      go_ret
      refine ⟨ret_bool ?_, hbW⟩
      rw [← HK.out, List.drop_eq_nil_of_le (by omega)]; rfl
end Go.Proofs.Ytlpfnpkmgkbngac

namespace Go.Proofs.Ytlpfnpkmgkbngac
open Go.RowKit

def takeL (l : List At) (ms : List (List (Int × Int) × Int)) : List At := l.filter fun x => !hasGone ms x.path x.clock

set_option maxRecDepth 100000 in
set_option maxHeartbeats 2000000 in
theorem takeOf_ok (a a' : Option Addr) (cap cap' : Nat) (l : List At) (ms : List (List (Int × Int) × Int)) (w : World) (h : AtomsAt w a l) (h300 : l.length ≤ 300) (hm : ms.length ≤ maxLen) (h' : MarksAt w a' ms) :
    Calls Try.prog 88 #[.slice a l.length cap, .slice a' ms.length cap'] w fun e w' => ∃ p c, e = .returned (.slice p (takeL l ms).length c) ∧ AtomsAt w' p (takeL l ms) ∧ Below w.heap.size w w' := by
  obtain ⟨i0, hi, hz0, hz1, hz2⟩ := Try.info50
  go_enter Try.func88, Try.ntmps88
  go_wp2
  go_loopw [6, 5] (fun i v wr => ∃ k : Nat, k ≤ l.length ∧ i = .int .i64 k ∧ OwnsA w wr w.heap.size v (takeL (l.take k) ms) ∧ Below w.heap.size w wr) (fun i _ _ => l.length - (intOf i).toNat)
  case atStart => exact ⟨0, Nat.zero_le _, rfl, OwnsA.nil _ _ _, Below.refl _ _⟩
  case round =>
    obtain ⟨k, hk, rfl, ⟨rs, hrl, hown, hrr⟩, hb⟩ := hrel
    by_cases hlt : k < l.length
    · obtain ⟨ab, ao, rfl, hab, hc⟩ := h.raw (by omega)
      obtain ⟨⟨p, n, cp, ck, sk⟩, hr, c0, c1, c2⟩ := hc k hlt
      have hi1 : (k : Int) < l.length := by omega
      have HT : Hid (takeL (l.take (k + 1)) ms = takeL (l.take k) ms ++ if hasGone ms l[k].path l[k].clock then [] else [l[k]]) := by
        show _ = _
        unfold takeL
        rw [List.take_succ_eq_append_getElem hlt, List.filter_append]
        congr 1
        by_cases e : hasGone ms l[k].path l[k].clock = true
        · rw [if_pos e]; simp [e]
        · rw [if_neg e]; simp [e]
      have HLen : Hid ((takeL (l.take k) ms).length ≤ 300) := by
        show _ ≤ _
        unfold takeL
        exact Nat.le_trans (List.length_filter_le _ _) (by simp; omega)
      have HR := hidE hr
      have hn : n = l[k].path.length := hr.n
      have hck : ck = l[k].clock := hr.clock
      subst hn hck
      have d0 := (hb.cell (p := ⟨ab, ao + k * 3, none⟩) hab).trans c0
      have d1 := (hb.cell (p := ⟨ab, ao + k * 3 + 1, none⟩) hab).trans c1
      have d2 := (hb.cell (p := ⟨ab, ao + k * 3 + 2, none⟩) hab).trans c2
      have hln := hr.len
      have HS := hidE (hr.steps.below hb (Nat.le_refl _))
      clear hc h c0 c1 c2 hr
      go_wp2_with fail
      refine (hasGone_any _ _ _ _ ms l[k].path l[k].clock _ hm hln (h'.below hb (Nat.le_refl _)) HS.out).mono ?_
      rintro e w2 ⟨rfl, hb2⟩
      have e0 := (hb2.cell (p := ⟨ab, ao + k * 3, none⟩) (Nat.lt_of_lt_of_le hab hb.size)).trans d0
      have e1 := (hb2.cell (p := ⟨ab, ao + k * 3 + 1, none⟩) (Nat.lt_of_lt_of_le hab hb.size)).trans d1
      have e2 := (hb2.cell (p := ⟨ab, ao + k * 3 + 2, none⟩) (Nat.lt_of_lt_of_le hab hb.size)).trans d2
      have hown2 := owns_below hown hb2
      have hbb := hb.thru hb2 hb.size
      cases hg : hasGone ms l[k].path l[k].clock
      · have HT2 : Hid (takeL (l.take (k + 1)) ms = takeL (l.take k) ms ++ [l[k]]) := by show _ = _; rw [HT.out, hg]; rfl
        clear hg HT d0 d1 d2 hown
        have HC : Hid (∀ j u, ((⟨p, l[k].path.length, cp, l[k].clock, sk⟩ : Raw).cells)[j]? = some u → (w2.alloc (.cells #[.slice p l[k].path.length cp, .int .i64 l[k].clock, .int .u8 sk] 50)).cell? ⟨w2.heap.size, j, none⟩ = some u) := by
          exact raw_new w2 ⟨p, l[k].path.length, cp, l[k].clock, sk⟩
        have hown3 := hown2.alloc (.cells #[.slice p l[k].path.length cp, .int .i64 l[k].clock, .int .u8 sk] 50)
        have hB3 := hbb.alloc hbb.size (.cells #[.slice p l[k].path.length cp, .int .i64 l[k].clock, .int .u8 sk] 50)
        go_wp2_with (at_builtin; refine wpList_append_own _ rfl _ _ 29 rfl w.heap.size 50 i0 (.agg #[.slice none 0 0, .int .i64 0, .int .u8 0]) 3 40 Try.underlying29 hi hz0 hz1 hz2 rfl (by decide) _ _ _ rfl hown3 ⟨w2.heap.size, 0, none⟩ 1 1 ((⟨p, l[k].path.length, cp, l[k].clock, sk⟩ : Raw).cells) rfl ?qc1 ?qc2 ?qc3 ?qc4 ?qc5 ?qc6 ?_)
        case qc1 => rfl
        case qc2 =>
          intro j u hj
          rw [Addr.add_lit, Nat.zero_add]
          exact HC.out j u hj
        case qc3 => intro u hu; exact flatR_one [⟨p, l[k].path.length, cp, l[k].clock, sk⟩] u (by simpa [flatR] using hu)
        case qc4 => have := HLen.out; unfold maxLen; omega
        case qc5 => have := HLen.out; omega
        case qc6 => exact hB3.size
        intro v' w3 hown4 hgrow hnil
        go_wp2
        go_roundw
        case rel => exact ⟨k + 1, by omega, by go_num, by rw [HT2.out]; exact ownsA_snoc hrl hrr HR.out hown4, hB3.grown hgrow hB3.size (fun k hk => (hown3.lt k hk).1)⟩
        case measure => simp [intOf]; omega
      · have HT2 : Hid (takeL (l.take (k + 1)) ms = takeL (l.take k) ms) := by show _ = _; rw [HT.out, hg]; simp
        clear hg HT
        go_wp2
        go_roundw
        case rel => exact ⟨k + 1, by omega, by go_num, by rw [HT2.out]; exact ⟨rs, hrl, hown2, hrr⟩, hbb⟩
        case measure => simp [intOf]; omega
    · have hkl : k = l.length := by omega
      subst hkl
      rw [List.take_length] at hrl hown hrr
      obtain ⟨p, c, rfl, ha, _⟩ := OwnsA.atoms ⟨rs, hrl, hown, hrr⟩ hb
      go_wp2
      go_ret
      exact ⟨p, c, rfl, ha, hb⟩
end Go.Proofs.Ytlpfnpkmgkbngac
