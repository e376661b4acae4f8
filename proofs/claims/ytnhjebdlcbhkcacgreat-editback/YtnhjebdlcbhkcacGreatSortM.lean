/- Contracts of edit.isUsed, edit.around, edit.checkPut. -/
import Derived.Laws.EntriesVeiled
import Derived.Test.YtnhjebdlcbhkcacGreatPlainC
import Derived.Test.YtnhjebdlcbhkcacGreatCutPu
import Derived.Test.YtnhjebdlcbhkcacGreatJoin
import Derived.Test.YtnhjebdlcbhkcacGreatAtomCk
import Derived.Test.YtnhjebdlcbhkcacGreatHasC
namespace Go.Proofs.YtnhjebdlcbhkcacGreat
open Go.RowKit

theorem boxesU (w : World) (v0 v1 m0 m1 : Value) (T T' : TypeId) : ∃ W, W = ((w.alloc (Obj.cells #[v0, v1] T)).alloc (Obj.cells #[m0] T')).alloc (Obj.cells #[m1] T') ∧
    W.cell? ⟨w.heap.size, 0, none⟩ = some v0 ∧ W.cell? ⟨w.heap.size, 1, none⟩ = some v1 ∧ W.cell? ⟨w.heap.size + 1, 0, none⟩ = some m0 ∧ W.cell? ⟨w.heap.size + 1 + 1, 0, none⟩ = some m1 ∧ W.heap.size = w.heap.size + 3 ∧ Below w.heap.size w W :=
  ⟨_, rfl, by go_simp, by go_simp, by go_simp, by go_simp, by simp, (((Below.refl _ _).alloc (Nat.le_refl _) _).alloc (by simp) _).alloc (by simp; omega) _⟩

set_option maxRecDepth 100000 in
set_option maxHeartbeats 2000000 in
theorem isUsed_any (a b : Option Addr) (cap cap' : Nat) (l : List At) (g : List (List (Int × Int) × Int)) (site clock : Int) (w : World) (hl : l.length ≤ maxLen) (hg : g.length ≤ maxLen) (h : AtomsAt w a l) (h' : MarksAt w b g) (hp : ∀ x ∈ l, 0 < x.path.length) (hp' : ∀ x ∈ g, 0 < x.1.length) :
    Calls Tryz.prog 67 #[.agg #[.slice a l.length cap, .slice b g.length cap'], .int .i64 site, .int .i64 clock] w fun e w' => e = .returned (.bool (usedS site clock l g)) ∧ Below w.heap.size w w' := by
  obtain ⟨V, hV, v0, v1, v2, v3, hVs, hBV⟩ := boxesU w (.slice a l.length cap) (.slice b g.length cap') (.int .i64 site) (.int .i64 clock) 25 3
  have HV := hidE hV
  have HVs := hidE hVs
  clear hV hVs
  go_enter Tryz.func67, Tryz.ntmps67
  go_upto_region 1 with fail
  rw [← HV.out]
  have hBW := (Below.refl V.heap.size V).alloc (Nat.le_refl _) (Obj.cells #[.func (.func 99) #[] #[.pointer (some ⟨w.heap.size + 1, 0, none⟩), .pointer (some ⟨w.heap.size + 1 + 1, 0, none⟩)]] 128)
  have k0 : (V.alloc (Obj.cells #[.func (.func 99) #[] #[.pointer (some ⟨w.heap.size + 1, 0, none⟩), .pointer (some ⟨w.heap.size + 1 + 1, 0, none⟩)]] 128)).cell? ⟨V.heap.size, 0, none⟩ = some (.func (.func 99) #[] #[.pointer (some ⟨w.heap.size + 1, 0, none⟩), .pointer (some ⟨w.heap.size + 1 + 1, 0, none⟩)]) := by simp
  have z0 : V.heap.size < (V.alloc (Obj.cells #[.func (.func 99) #[] #[.pointer (some ⟨w.heap.size + 1, 0, none⟩), .pointer (some ⟨w.heap.size + 1 + 1, 0, none⟩)]] 128)).heap.size := by simp
  go_upto_region 2 with fail
  generalize V.alloc (Obj.cells #[.func (.func 99) #[] #[.pointer (some ⟨w.heap.size + 1, 0, none⟩), .pointer (some ⟨w.heap.size + 1 + 1, 0, none⟩)]] 128) = W at hBW k0 z0 ⊢
  have hVs := HVs.out
  have q0 := (hBW.cell (p := ⟨w.heap.size, 0, none⟩) (by show w.heap.size < V.heap.size; omega)).trans v0
  have q1 := (hBW.cell (p := ⟨w.heap.size, 1, none⟩) (by show w.heap.size < V.heap.size; omega)).trans v1
  have q2 := (hBW.cell (p := ⟨w.heap.size + 1, 0, none⟩) (by show w.heap.size + 1 < V.heap.size; omega)).trans v2
  have q3 := (hBW.cell (p := ⟨w.heap.size + 1 + 1, 0, none⟩) (by show w.heap.size + 1 + 1 < V.heap.size; omega)).trans v3
  have hB : Below w.heap.size w W := hBV.thru hBW hBV.size
  have zW : w.heap.size < W.heap.size := by omega
  replace h := (h.below hBV (Nat.le_refl _)).below hBW (Nat.le_refl _)
  replace h' := (h'.below hBV (Nat.le_refl _)).below hBW (Nat.le_refl _)
  clear hBV hBW v0 v1 v2 v3 HV HVs
  generalize V.heap.size = VS at *
  generalize hzz : w.heap.size = Z at *
  have HZ := hidE hzz
  clear hzz

  have HL : LateAt W site clock VS (Z + 1) (Z + 1 + 1) := ⟨k0, q2, q3, z0, by omega, by omega⟩
  have HA := hidE (atomsHas_any a cap l site clock _ _ _ W hl h hp HL)
  have HM := hidE (fun (W' : World) (hb : Below W.heap.size W W') => marksHas_any b cap' g site clock VS _ _ W' hg (h'.below hb (Nat.le_refl _)) hp' (HL.below hb))
  have HU : Hid (usedS site clock l g = (l.any (fun x => usedM site clock x.path x.clock) || g.any (fun x => usedM site clock x.1 x.2))) := by
    show _ = _; rfl
  clear hl hg h h' hp hp' HL q2 q3 hVs
  generalize l.any (fun x => usedM site clock x.path x.clock) = ua at *
  generalize g.any (fun x => usedM site clock x.1 x.2) = ug at *
  generalize l.length = nl at *
  generalize g.length = ng at *
  cases ua
  · go_wp2_with (first | (go_at_call 100; refine HA.out.mono ?_; rintro e w2 ⟨rfl, hb⟩; have q1' := (hb.cell (p := ⟨Z, 1, none⟩) zW).trans q1; have k0' := (hb.cell (p := ⟨VS, 0, none⟩) z0).trans k0) | (go_at_call 102; refine (HM.out _ hb).mono ?_; rintro e w3 ⟨rfl, hb3⟩))
    go_ret
    refine ⟨ret_bool ?_, ?_⟩
    · rw [HU.out]; rfl
    · rw [HZ.out]; exact hB.trans ((hb.thru hb3 hb.size).mono (Nat.le_of_lt zW))
  · go_wp2_with (first | (go_at_call 100; refine HA.out.mono ?_; rintro e w2 ⟨rfl, hb⟩))
    go_ret
    refine ⟨ret_bool ?_, ?_⟩
    · rw [HU.out]; rfl
    · rw [HZ.out]; exact hB.trans (hb.mono (Nat.le_of_lt zW))

/-- the mark ahead of a place, and the one behind it: none is the mark without steps -/
def aheadM (l : List At) (n : Nat) : List (Int × Int) × Int := if n = 0 then ([], 0) else match l[n - 1]? with
  | some x => (x.path, x.clock)
  | none => ([], 0)
def behindM (l : List At) (n : Nat) : List (Int × Int) × Int := match l[n]? with
  | some x => (x.path, x.clock)
  | none => ([], 0)

set_option maxRecDepth 100000 in
set_option maxHeartbeats 2000000 in
theorem around_any (a : Option Addr) (cap : Nat) (l : List At) (n : Nat) (w : World) (hn : n ≤ l.length) (hl : l.length ≤ 300) (h : AtomsAt w a l) :
    Calls Tryz.prog 36 #[.slice a l.length cap, .int .i64 n] w fun e w' => ∃ p c q d, e = .returned (.tuple #[.agg #[.slice p (aheadM l n).1.length c, .int .i64 (aheadM l n).2], .agg #[.slice q (behindM l n).1.length d, .int .i64 (behindM l n).2]]) ∧ StepsAt w' p (aheadM l n).1 ∧ StepsAt w' q (behindM l n).1 ∧ (aheadM l n).1.length ≤ c ∧ (behindM l n).1.length ≤ d ∧ (aheadM l n).1.length ≤ maxLen ∧ (behindM l n).1.length ≤ maxLen ∧ Below w.heap.size w w' := by
  have HBB : Hid (∀ (o1 o2 : Obj), Below w.heap.size w (((w.alloc o1).alloc o2).drew)) := fun o1 o2 => (((Below.refl _ _).alloc (Nat.le_refl _) _).alloc (by simp) _).drew
  by_cases h0 : n = 0
  · subst h0
    have HA : Hid (aheadM l 0 = ([], 0)) := by show _ = _; rfl
    by_cases hnl : 0 < l.length
    · have HBe : Hid (behindM l 0 = (l[0].path, l[0].clock)) := by show _ = _; unfold behindM; rw [List.getElem?_eq_getElem hnl]
      have hpos := hnl
      obtain ⟨bb, oo, rfl, hbb, hc⟩ : ∃ b off, a = some ⟨b, off, none⟩ ∧ b < w.heap.size ∧ ∀ i (h : i < l.length), ∃ p cap, w.cell? ⟨b, off + i * 3, none⟩ = some (.slice p l[i].path.length cap) ∧ w.cell? ⟨b, off + i * 3 + 1, none⟩ = some (.int .i64 l[i].clock) ∧ w.cell? ⟨b, off + i * 3 + 2, none⟩ = some (.int .u8 l[i].sign) ∧ StepsAt w p l[i].path ∧ l[i].path.length ≤ maxLen ∧ l[i].path.length ≤ cap ∧ 0 ≤ l[i].sign ∧ l[i].sign ≤ 255 := by
        rcases h with hs | h
        · exfalso; rw [hs] at hpos; simp at hpos
        · exact h
      obtain ⟨pb, cb, b0, b1, -, sb, lb, kb, -, -⟩ := hc (0) hnl
      have HSB : Hid (∀ W', Below w.heap.size w W' → StepsAt W' pb l[0].path) := fun W' hb => sb.below hb (Nat.le_refl _)
      have HLB : Hid (l[0].path.length ≤ maxLen ∧ l[0].path.length ≤ cb) := ⟨lb, kb⟩
      have hi0 : (0 : Int) < (l.length : Int) := by omega
      simp only [Nat.zero_mul, Nat.add_zero] at b0 b1
      clear hc sb lb kb h
      generalize l[0] = xb at *
      go_enter Tryz.func36, Tryz.ntmps36
      go_wp2_with fail
      first | go_region_with (fail) | trace_state
      all_goals
        go_wp2
        refine bodyPost_ret (v := .tuple #[.agg #[.slice none 0 0, .int .i64 0], .agg #[.slice pb xb.path.length cb, .int .i64 xb.clock]]) (by simp [results, Tryz.results36, go_sem]) rfl ?_
        refine ⟨none, 0, pb, cb, by (rw [HA.out, HBe.out]) <;> rfl, ?_, ?_, ?_, ?_, ?_, ?_, (HBB.out _ _)⟩
        · rw [HA.out]; exact Or.inl rfl
        · rw [HBe.out]; exact HSB.out _ (HBB.out _ _)
        · rw [HA.out]; exact Nat.zero_le _
        · rw [HBe.out]; exact HLB.out.2
        · rw [HA.out]; exact Nat.zero_le _
        · rw [HBe.out]; exact HLB.out.1
    · have HBe : Hid (behindM l 0 = ([], 0)) := by show _ = _; unfold behindM; rw [List.getElem?_eq_none (by omega)]
      have hl0 : l.length = 0 := by omega
      rw [hl0]
      go_enter Tryz.func36, Tryz.ntmps36
      go_wp2_with fail
      first | go_region_with (fail) | trace_state
      all_goals
        go_wp2
        refine bodyPost_ret (v := .tuple #[.agg #[.slice none 0 0, .int .i64 0], .agg #[.slice none 0 0, .int .i64 0]]) (by simp [results, Tryz.results36, go_sem]) rfl ?_
        refine ⟨none, 0, none, 0, by (rw [HA.out, HBe.out]) <;> rfl, ?_, ?_, ?_, ?_, ?_, ?_, (HBB.out _ _)⟩
        · rw [HA.out]; exact Or.inl rfl
        · rw [HBe.out]; exact Or.inl rfl
        · rw [HA.out]; exact Nat.zero_le _
        · rw [HBe.out]; exact Nat.zero_le _
        · rw [HA.out]; exact Nat.zero_le _
        · rw [HBe.out]; exact Nat.zero_le _
  · obtain ⟨k, rfl⟩ : ∃ k, n = k + 1 := ⟨n - 1, by omega⟩
    have hk : k < l.length := by omega
    have HA : Hid (aheadM l (k + 1) = (l[k].path, l[k].clock)) := by show _ = _; unfold aheadM; rw [if_neg (by omega), Nat.add_sub_cancel, List.getElem?_eq_getElem hk]
    have hw1 : IntKind.i64.wrap (((k + 1 : Nat) : Int) - 1) = (k : Int) := by rw [IntKind.wrap_i64] <;> omega
    have hpos : 0 < l.length := by omega
    have hi0 : (0 : Int) < ((k + 1 : Nat) : Int) := by omega
    have hi1 : (k : Int) < (l.length : Int) := by omega
    by_cases hnl : k + 1 < l.length
    · have HBe : Hid (behindM l (k + 1) = (l[k + 1].path, l[k + 1].clock)) := by show _ = _; unfold behindM; rw [List.getElem?_eq_getElem hnl]
      obtain ⟨bb, oo, rfl, hbb, hc⟩ : ∃ b off, a = some ⟨b, off, none⟩ ∧ b < w.heap.size ∧ ∀ i (h : i < l.length), ∃ p cap, w.cell? ⟨b, off + i * 3, none⟩ = some (.slice p l[i].path.length cap) ∧ w.cell? ⟨b, off + i * 3 + 1, none⟩ = some (.int .i64 l[i].clock) ∧ w.cell? ⟨b, off + i * 3 + 2, none⟩ = some (.int .u8 l[i].sign) ∧ StepsAt w p l[i].path ∧ l[i].path.length ≤ maxLen ∧ l[i].path.length ≤ cap ∧ 0 ≤ l[i].sign ∧ l[i].sign ≤ 255 := by
        rcases h with hs | h
        · exfalso; rw [hs] at hpos; simp at hpos
        · exact h
      obtain ⟨pa, ca, a0, a1, -, sa, la, ka, -, -⟩ := hc (k) hk
      have HSA : Hid (∀ W', Below w.heap.size w W' → StepsAt W' pa l[k].path) := fun W' hb => sa.below hb (Nat.le_refl _)
      have HLA : Hid (l[k].path.length ≤ maxLen ∧ l[k].path.length ≤ ca) := ⟨la, ka⟩
      obtain ⟨pb, cb, b0, b1, -, sb, lb, kb, -, -⟩ := hc (k + 1) hnl
      have HSB : Hid (∀ W', Below w.heap.size w W' → StepsAt W' pb l[k + 1].path) := fun W' hb => sb.below hb (Nat.le_refl _)
      have HLB : Hid (l[k + 1].path.length ≤ maxLen ∧ l[k + 1].path.length ≤ cb) := ⟨lb, kb⟩
      have hi2 : ((k + 1 : Nat) : Int) < (l.length : Int) := by omega
      clear hc sa la ka sb lb kb h
      generalize l[k] = xa at *
      generalize l[k + 1] = xb at *
      go_enter Tryz.func36, Tryz.ntmps36
      go_wp2_with fail
      first | go_region_with (fail) | trace_state
      all_goals
        go_wp2
        refine bodyPost_ret (v := .tuple #[.agg #[.slice pa xa.path.length ca, .int .i64 xa.clock], .agg #[.slice pb xb.path.length cb, .int .i64 xb.clock]]) (by simp [results, Tryz.results36, go_sem]) rfl ?_
        refine ⟨pa, ca, pb, cb, by (rw [HA.out, HBe.out]) <;> rfl, ?_, ?_, ?_, ?_, ?_, ?_, (HBB.out _ _)⟩
        · rw [HA.out]; exact HSA.out _ (HBB.out _ _)
        · rw [HBe.out]; exact HSB.out _ (HBB.out _ _)
        · rw [HA.out]; exact HLA.out.2
        · rw [HBe.out]; exact HLB.out.2
        · rw [HA.out]; exact HLA.out.1
        · rw [HBe.out]; exact HLB.out.1
    · have HBe : Hid (behindM l (k + 1) = ([], 0)) := by show _ = _; unfold behindM; rw [List.getElem?_eq_none (by omega)]
      have hl0 : l.length = k + 1 := by omega
      obtain ⟨bb, oo, rfl, hbb, hc⟩ : ∃ b off, a = some ⟨b, off, none⟩ ∧ b < w.heap.size ∧ ∀ i (h : i < l.length), ∃ p cap, w.cell? ⟨b, off + i * 3, none⟩ = some (.slice p l[i].path.length cap) ∧ w.cell? ⟨b, off + i * 3 + 1, none⟩ = some (.int .i64 l[i].clock) ∧ w.cell? ⟨b, off + i * 3 + 2, none⟩ = some (.int .u8 l[i].sign) ∧ StepsAt w p l[i].path ∧ l[i].path.length ≤ maxLen ∧ l[i].path.length ≤ cap ∧ 0 ≤ l[i].sign ∧ l[i].sign ≤ 255 := by
        rcases h with hs | h
        · exfalso; rw [hs] at hpos; simp at hpos
        · exact h
      obtain ⟨pa, ca, a0, a1, -, sa, la, ka, -, -⟩ := hc (k) hk
      have HSA : Hid (∀ W', Below w.heap.size w W' → StepsAt W' pa l[k].path) := fun W' hb => sa.below hb (Nat.le_refl _)
      have HLA : Hid (l[k].path.length ≤ maxLen ∧ l[k].path.length ≤ ca) := ⟨la, ka⟩
      clear hc sa la ka h
      generalize l[k] = xa at *
      rw [hl0]
      go_enter Tryz.func36, Tryz.ntmps36
      go_wp2_with fail
      first | go_region_with (fail) | trace_state
      all_goals
        go_wp2
        refine bodyPost_ret (v := .tuple #[.agg #[.slice pa xa.path.length ca, .int .i64 xa.clock], .agg #[.slice none 0 0, .int .i64 0]]) (by simp [results, Tryz.results36, go_sem]) rfl ?_
        refine ⟨pa, ca, none, 0, by (rw [HA.out, HBe.out]) <;> rfl, ?_, ?_, ?_, ?_, ?_, ?_, (HBB.out _ _)⟩
        · rw [HA.out]; exact HSA.out _ (HBB.out _ _)
        · rw [HBe.out]; exact Or.inl rfl
        · rw [HA.out]; exact HLA.out.2
        · rw [HBe.out]; exact Nat.zero_le _
        · rw [HA.out]; exact HLA.out.1
        · rw [HBe.out]; exact Nat.zero_le _
end Go.Proofs.YtnhjebdlcbhkcacGreat

namespace Go.Proofs.YtnhjebdlcbhkcacGreat
open Go.RowKit

/-- the place where a mark is looked for -/
def CutM (l : List (List (Int × Int) × Int)) (m : List (Int × Int)) (d : Int) (i j : Nat) : Prop := (∀ t (h : t < l.length), t < i → ordM l[t].1 l[t].2 m d < 0) ∧ (∀ t (h : t < l.length), j ≤ t → 0 ≤ ordM l[t].1 l[t].2 m d)
/-- the marks stand so that a mark parts them -/
def PartsM (l : List (List (Int × Int) × Int)) (m : List (Int × Int)) (d : Int) : Prop := ∀ s t (h : t < l.length) (hs : s < t), ordM l[t].1 l[t].2 m d < 0 → ordM (l[s]'(by omega)).1 (l[s]'(by omega)).2 m d < 0

set_option maxRecDepth 100000 in
set_option maxHeartbeats 2000000 in
theorem searchM_any (a a' : Option Addr) (cap cap' : Nat) (l : List (List (Int × Int) × Int)) (m : List (Int × Int)) (d : Int) (w : World) (hl : l.length ≤ 1000) (hm : m.length ≤ maxLen) (h : MarksAt w a l) (h' : StepsAt w a' m) (hp : PartsM l m d) :
    Calls Tryz.prog 136 #[.slice a l.length cap, .agg #[.slice a' m.length cap', .int .i64 d], .func (.func 46) #[] #[]] w fun e w' => ∃ i : Nat, i ≤ l.length ∧ CutM l m d i i ∧ ∃ f : Bool, e = .returned (.tuple #[.int .i64 i, .bool f]) ∧ (f = true ↔ ∃ h : i < l.length, ordM l[i].1 l[i].2 m d = 0) ∧ Below w.heap.size w w' := by
  have HP := hidE hp
  clear hp
  go_enter Tryz.func136, Tryz.ntmps136
  go_upto_region 1 with fail
  have hbA : Below w.heap.size w (w.alloc (Obj.cells #[.slice a' m.length cap', .int .i64 d] 46)) := (Below.refl _ _).alloc (Nat.le_refl _) _
  have q0 : (w.alloc (Obj.cells #[.slice a' m.length cap', .int .i64 d] 46)).cell? ⟨w.heap.size, 0, none⟩ = some (.slice a' m.length cap') := by simp
  have q1 : (w.alloc (Obj.cells #[.slice a' m.length cap', .int .i64 d] 46)).cell? ⟨w.heap.size, 1, none⟩ = some (.int .i64 d) := by simp
  have z1 : w.heap.size < (w.alloc (Obj.cells #[.slice a' m.length cap', .int .i64 d] 46)).heap.size := by simp
  generalize w.alloc (Obj.cells #[.slice a' m.length cap', .int .i64 d] 46) = w1 at hbA q0 q1 z1 ⊢
  go_wp2_with fail
  go_loopw [9, 10] (fun i j wr => ∃ x y : Nat, x ≤ y ∧ y ≤ l.length ∧ i = .int .i64 x ∧ j = .int .i64 y ∧ CutM l m d x y ∧ Below w1.heap.size w1 wr) (fun i j _ => (intOf j).toNat - (intOf i).toNat)
  case atStart => exact ⟨0, l.length, Nat.zero_le _, Nat.le_refl _, rfl, rfl, ⟨fun t _ h => by omega, fun t h h' => by omega⟩, Below.refl _ _⟩
  case round =>
    obtain ⟨x, y, hxy, hy, rfl, rfl, hcut, hb⟩ := hrel
    have HCut := hidE hcut
    clear hcut
    have hbW := hbA.thru hb hbA.size
    by_cases hlt : x < y
    · have hi1 : (x : Int) < y := by omega
      have hh : (x + y) / 2 < l.length := by omega
      go_upto_region 5 with fail
      rw [show ((x : Int) + y) / 2 = (((x + y) / 2 : Nat) : Int) by omega]
      have hz1 : x ≤ (x + y) / 2 := by omega
      have hz2 : (x + y) / 2 < y := by omega
      generalize (x + y) / 2 = z at hz1 hz2 hh ⊢
      rcases h.below hbW (Nat.le_refl _) with hs | ⟨ab, ao, rfl, hab, hc⟩
      · simp [hs] at hh
      obtain ⟨p, cp, c0, c1, hst, hle⟩ := hc z hh
      have hi2 : (z : Int) < l.length := by omega
      have HZ : Hid (∀ o, o = ordM l[z].1 l[z].2 m d → (o < 0 → CutM l m d (z + 1) y) ∧ (0 ≤ o → CutM l m d x z)) := by
        intro o ho
        subst ho
        refine ⟨fun h0 => ⟨fun t ht htz => ?_, HCut.out.2⟩, fun h0 => ⟨HCut.out.1, fun t ht htz => ?_⟩⟩
        · by_cases e : t = z
          · subst e; exact h0
          · exact HP.out t z hh (by omega) h0
        · by_cases e : t = z
          · subst e; exact h0
          · rcases Int.lt_or_le (ordM l[t].1 l[t].2 m d) 0 with hn | hn
            · have := HP.out z t ht (by omega) hn
              omega
            · exact hn
      generalize l[z].1 = pk at *
      generalize l[z].2 = ck at *
      have k0 := cell_regrown c0
      have k1 := cell_regrown c1
      have k3 := cell_regrown ((hb.cell (p := ⟨w.heap.size, 0, none⟩) z1).trans q0)
      have k4 := cell_regrown ((hb.cell (p := ⟨w.heap.size, 1, none⟩) z1).trans q1)
      have S1 := hidE (fun d os => hst.below (below_regrown wr d os) (Nat.le_refl _))
      have S2 := hidE (fun d os => (h'.below hbW (Nat.le_refl _)).below (below_regrown wr d os) (Nat.le_refl _))
      clear hc h hst h'
      refine wp_region_quiet_below (by kernel_rfl) (by kernel_rfl) ?_
      repeat (first | go_big_quiet_step ((go_at_call 46; exact Calls.regrown_of (order_any _ _ _ _ pk m _ _ _ hle hm (S1.out _ _) (S2.out _ _)))) | quiet_step ((go_at_call 46; exact Calls.regrown_of (order_any _ _ _ _ pk m _ _ _ hle hm (S1.out _ _) (S2.out _ _)))))
      refine wpQuiet_nil ?_
      intro _ hw'
      obtain ⟨⟨dq, osq⟩, hw''⟩ := hw'
      subst hw''
      obtain ⟨HZ1, HZ2⟩ := HZ.out _ rfl
      by_cases ho : ordM pk ck m d < 0
      · have HC2 := hidE (HZ1 ho)
        clear HZ1 HZ2
        go_wp2
        go_roundw
        case rel => exact ⟨z + 1, y, by omega, hy, by go_num, rfl, HC2.out, hb.thru (below_regrown _ _ _) hb.size⟩
        case measure => simp [intOf]; omega
      · have HC2 := hidE (HZ2 (by omega))
        clear HZ1 HZ2
        go_wp2
        go_roundw
        case rel => exact ⟨x, z, by omega, by omega, rfl, rfl, HC2.out, hb.thru (below_regrown _ _ _) hb.size⟩
        case measure => simp [intOf]; omega
    · have hxe : x = y := by omega
      subst hxe
      by_cases hlen : x < l.length
      · rcases h.below hbW (Nat.le_refl _) with hs | ⟨ab, ao, rfl, hab, hc⟩
        · simp [hs] at hlen
        obtain ⟨p, cp, c0, c1, hst, hle⟩ := hc x hlen
        have HO : Hid (∃ o, o = ordM l[x].1 l[x].2 m d) := ⟨_, rfl⟩
        have HE : Hid ((∃ h : x < l.length, ordM l[x].1 l[x].2 m d = 0) ↔ ordM l[x].1 l[x].2 m d = 0) := by
          constructor
          · rintro ⟨_, h⟩; exact h
          · intro h; exact ⟨hlen, h⟩
        have hi1 : decide ((x : Int) < l.length) = true := by simpa using hlen
        have hi2 : (x : Int) < l.length := by omega
        generalize hpk : l[x].1 = pk at *
        generalize hck : l[x].2 = ck at *
        have HPK := hidE hpk
        have HCK := hidE hck
        have k0 := cell_regrown c0
        have k1 := cell_regrown c1
        have k3 := cell_regrown ((hb.cell (p := ⟨w.heap.size, 0, none⟩) z1).trans q0)
        have k4 := cell_regrown ((hb.cell (p := ⟨w.heap.size, 1, none⟩) z1).trans q1)
        have S1 := hidE (fun d os => hst.below (below_regrown wr d os) (Nat.le_refl _))
        have S2 := hidE (fun d os => (h'.below hbW (Nat.le_refl _)).below (below_regrown wr d os) (Nat.le_refl _))
        clear hc h hst h' hpk hck
        go_wp2_with fail
        refine wp_region_quiet_below (by kernel_rfl) (by kernel_rfl) ?_
        repeat (first | go_big_quiet_step ((go_at_call 46; exact Calls.regrown_of (order_any _ _ _ _ pk m _ _ _ hle hm (S1.out _ _) (S2.out _ _)))) | quiet_step ((go_at_call 46; exact Calls.regrown_of (order_any _ _ _ _ pk m _ _ _ hle hm (S1.out _ _) (S2.out _ _)))))
        refine wpQuiet_nil ?_
        intro _ hw'
        obtain ⟨⟨dq, osq⟩, hw''⟩ := hw'
        subst hw''
        go_wp2
        refine bodyPost_ret (v := .tuple #[.int .i64 x, .bool (ordM pk ck m d == 0)]) (by simp [results, Tryz.results136, go_sem]) rfl ?_
        refine ⟨x, by omega, HCut.out, _, rfl, ?_, hbW.thru (below_regrown _ _ _) hbW.size⟩
        rw [beq_iff_eq]
        constructor
        · intro e; exact ⟨hlen, by rw [HPK.out, HCK.out]; exact e⟩
        · rintro ⟨_, e⟩; rw [HPK.out, HCK.out] at e; exact e
      · have hi1 : decide ((x : Int) < l.length) = false := by simpa using hlen
        have HN : Hid ((false = true) ↔ ∃ h : x < l.length, ordM l[x].1 l[x].2 m d = 0) := by
          constructor
          · intro h; cases h
          · rintro ⟨h, _⟩; exact absurd h hlen
        go_wp2_with fail
        refine wp_region_quiet_below (by kernel_rfl) (by kernel_rfl) ?_
        repeat (first | go_big_quiet_step (fail) | quiet_step (fail))
        refine wpQuiet_nil ?_
        intro _ hw'
        obtain ⟨⟨dq, osq⟩, hw''⟩ := hw'
        subst hw''
        go_wp2
        refine bodyPost_ret (v := .tuple #[.int .i64 x, .bool false]) (by simp [results, Tryz.results136, go_sem]) rfl ?_
        exact ⟨x, by omega, HCut.out, _, rfl, HN.out, hbW.thru (below_regrown _ _ _) hbW.size⟩
end Go.Proofs.YtnhjebdlcbhkcacGreat

namespace Go.Proofs.YtnhjebdlcbhkcacGreat
open Go.RowKit

/-- marks that rise -/
def Up (g : List (List (Int × Int) × Int)) : Prop := g.Pairwise (fun x y => ordM x.1 x.2 y.1 y.2 < 0)
theorem Up.get {g : List (List (Int × Int) × Int)} (h : Up g) {i j : Nat} (hj : j < g.length) (hij : i < j) : ordM (g[i]'(by omega)).1 (g[i]'(by omega)).2 g[j].1 g[j].2 < 0 := List.pairwise_iff_getElem.1 h i j (by omega) hj hij

/-- how many stand ahead of a mark -/
def lowM (g : List (List (Int × Int) × Int)) (m : List (Int × Int)) (d : Int) : Nat := g.countP fun x => decide (ordM x.1 x.2 m d < 0)

theorem lowM_cut {g : List (List (Int × Int) × Int)} {m : List (Int × Int)} {d : Int} {i : Nat} (hi : i ≤ g.length) (h : CutM g m d i i) : lowM g m d = i := by
  have e1 : (g.take i).countP (fun x => decide (ordM x.1 x.2 m d < 0)) = (g.take i).length := by
    rw [List.countP_eq_length]
    intro x hx
    obtain ⟨j, hj, rfl⟩ := List.getElem_of_mem hx
    have hj' : j < i ∧ j < g.length := by simp at hj; omega
    simpa using h.1 j hj'.2 hj'.1
  have e2 : (g.drop i).countP (fun x => decide (ordM x.1 x.2 m d < 0)) = 0 := by
    rw [List.countP_eq_zero]
    intro x hx
    obtain ⟨j, hj, rfl⟩ := List.getElem_of_mem hx
    have hj' : i + j < g.length := by simp at hj; omega
    have := h.2 (i + j) hj' (by omega)
    simp; omega
  unfold lowM
  rw [← List.take_append_drop i g, List.countP_append, e1, e2]
  simp; omega

theorem partsM_of {g : List (List (Int × Int) × Int)} (h : Up g) (m : List (Int × Int)) (d : Int) : PartsM g m d := by
  intro s t ht hs hn
  have h1 := h.get ht hs
  exact cmpM.le_lt (a := g[s]'(by omega)) (b := g[t]) (c := (m, d)) (Int.le_of_lt h1) hn

theorem found_gone {g : List (List (Int × Int) × Int)} (hu : Up g) {m : List (Int × Int)} {d : Int} {i : Nat} {f : Bool} (hc : CutM g m d i i) (hf : f = true ↔ ∃ h : i < g.length, ordM g[i].1 g[i].2 m d = 0) : f = hasGone g m d := by
  cases f with
  | true =>
    obtain ⟨h, h0⟩ := hf.1 rfl
    symm
    unfold hasGone
    rw [List.any_eq_true]
    exact ⟨g[i], List.getElem_mem h, by simpa using h0⟩
  | false =>
    have hn : ¬ ∃ h : i < g.length, ordM g[i].1 g[i].2 m d = 0 := fun h => by simpa using hf.2 h
    symm
    unfold hasGone
    rw [List.any_eq_false]
    intro x hx
    obtain ⟨j, hj, rfl⟩ := List.getElem_of_mem hx
    rw [beq_iff_eq]
    intro h0
    rcases Nat.lt_or_ge j i with hlt | hge
    · have := hc.1 j hj hlt; omega
    · by_cases e : i = j
      · subst e; exact hn ⟨hj, h0⟩
      · have h1 := hu.get hj (show i < j by omega)
        have h2 : ordM (g[i]'(by omega)).1 (g[i]'(by omega)).2 g[j].1 g[j].2 = ordM (g[i]'(by omega)).1 (g[i]'(by omega)).2 m d := cmpM.eqv' (g[i]'(by omega)) g[j] (m, d) h0
        have h5 := hc.2 i (by omega) (Nat.le_refl _)
        rw [h2] at h1
        omega
end Go.Proofs.YtnhjebdlcbhkcacGreat
