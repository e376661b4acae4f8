/- Contract of run.each and its iterator. -/
import Derived.Test.YtnhjebdlcbhkcaeGreatNextOf
import Derived.Test.YtnhjebdlcbhkcaeGreatRunCk
import Derived.Test.YtnhjebdlcbhkcaeGreatGapA
import Derived.Test.YtnhjebdlcbhkcaeGreatRunsC
import Derived.Test.YtnhjebdlcbhkcaeGreatSearch
namespace Go.Proofs.YtnhjebdlcbhkcaeGreat
open Go.RowKit Go.Shelf
attribute [local go_sem] Oper.semAt_some

def runAt (l : List (Int × Int)) (c : Int) (t : ByteArray) (i : Nat) : At := ⟨bump l i, c + i, (t.data.toList.getD i 0).toNat⟩
def atomsR (l : List (Int × Int)) (c : Int) (t : ByteArray) : List At := (List.range t.size).map (runAt l c t)

theorem bump_len (l : List (Int × Int)) (n : Int) : (bump l n).length = l.length := bump_len' l n
theorem lastS_bump {l : List (Int × Int)} (h : 0 < l.length) (n : Int) : lastS (bump l n) = ((lastS l).1 + n, (lastS l).2) := by
  unfold lastS bump setL
  rw [List.length_set, List.getD_eq_getElem?_getD, List.getElem?_set_self (by omega)]; rfl

theorem okSteps_bump {l : List (Int × Int)} {n m : Int} (h : 0 < l.length) (h0 : okSteps l = true) (hm : okSteps (bump l m) = true) (hn0 : 0 ≤ n) (hnm : n ≤ m) : okSteps (bump l n) = true := by
  refine okSteps_true (fun i hi => ?_)
  rw [bump_len] at hi
  by_cases e : i = l.length - 1
  · subst e
    have h1 := okStep_iff.1 (okSteps_get h0 (i := l.length - 1) (by omega))
    have h2 := okStep_iff.1 (okSteps_get hm (i := l.length - 1) (by rw [bump_len]; omega))
    have e1 : (bump l m)[l.length - 1]'(by rw [bump_len]; omega) = ((lastS l).1 + m, (lastS l).2) := by unfold bump setL; simp
    have e2 : (bump l n)[l.length - 1]'(by rw [bump_len]; omega) = ((lastS l).1 + n, (lastS l).2) := by unfold bump setL; simp
    have e3 : l[l.length - 1]'(by omega) = lastS l := (lastS_eq h).symm
    rw [e1] at h2
    rw [e3] at h1
    rw [e2]
    exact okStep_iff.2 ⟨by simp only; omega, by simp only at h2 ⊢; omega, h2.2.2.1, h2.2.2.2⟩
  · have e2 : (bump l n)[i]'(by rw [bump_len]; omega) = l[i] := by unfold bump setL; rw [List.getElem_set_ne (by omega)]
    rw [e2]
    exact okSteps_get h0 hi

theorem chk_mk {l : List (Int × Int)} {c : Int} (h1 : 0 < l.length) (h2 : l.length ≤ 10) (h3 : okSteps l = true) (h4 : (lastS l).1 ≠ 0) (h5 : 1 ≤ c) (h6 : c ≤ 10000) : chk l c = 0 := by
  unfold chk
  rw [if_neg (by omega), if_neg (by omega), if_pos]
  simp [h3, h4, inB, h5, h6]

theorem chk_bump {l : List (Int × Int)} {c n m : Int} (h : chk l c = 0) (hm : chk (bump l m) (c + m) = 0) (h0 : 0 ≤ n) (hnm : n ≤ m) : chk (bump l n) (c + n) = 0 := by
  obtain ⟨a1, a2, a3, a4, a5, a6⟩ := chk_ok h
  obtain ⟨b1, b2, b3, b4, b5, b6⟩ := chk_ok hm
  refine chk_mk (by rw [bump_len]; exact a1) (by rw [bump_len]; exact a2) (okSteps_bump a1 a3 b3 h0 hnm) ?_ (by omega) (by omega)
  rw [lastS_bump a1]
  have h1 := okStep_iff.1 (okSteps_get a3 (i := l.length - 1) (by omega))
  rw [← lastS_eq a1] at h1
  simp only
  omega

structure OkRun (l : List (Int × Int)) (c : Int) (t : ByteArray) : Prop where
  mark : chk l c = 0
  len0 : 0 < t.size
  len : t.size ≤ 60
  signs : allS t.data.toList = true
  each : ∀ i : Nat, i < t.size → chk (bump l i) (c + i) = 0

theorem okRun_of {l : List (Int × Int)} {c : Int} {t : ByteArray} (h : chkRun l c t = 0) : OkRun l c t := by
  unfold chkRun at h
  by_cases h0 : chk l c = 0
  rotate_left
  · rw [if_pos h0] at h; exact absurd h h0
  rw [if_neg (by omega)] at h
  by_cases h1 : t.size = 0
  · rw [if_pos h1] at h; exact absurd h (by decide)
  rw [if_neg h1] at h
  by_cases h2 : 60 < t.size
  · rw [if_pos h2] at h; exact absurd h (by decide)
  rw [if_neg h2] at h
  cases h3 : allS t.data.toList
  · rw [if_pos h3] at h; exact absurd h (by decide)
  rw [if_neg (by rw [h3]; decide)] at h
  unfold nxt at h
  rw [if_neg (by omega), if_neg (by omega)] at h
  by_cases h4 : chk (bump l ((t.size : Int) - 1)) (c + ((t.size : Int) - 1)) = 0
  rotate_left
  · rw [if_pos h4] at h; exact absurd h (by decide)
  exact ⟨h0, by omega, by omega, h3, fun i hi => chk_bump h0 h4 (by omega) (by omega)⟩

def KpA (n₀ : Nat) (W W' : World) : Prop := Below n₀ W W' ∧ ∀ (k : Nat) (cur : Array Value) (t : TypeId), t ≠ 108 → t ≠ 22 → W.heap[k]? = some (Obj.cells cur t (0, 0)) → W'.heap[k]? = some (Obj.cells cur t (0, 0))

theorem KpA.trans {n₀ : Nat} {A B C : World} (h : KpA n₀ A B) (k : KpA n₀ B C) : KpA n₀ A C := ⟨h.1.trans k.1, fun i cur t h1 h2 h3 => k.2 i cur t h1 h2 (h.2 i cur t h1 h2 h3)⟩
theorem KpA.put {n₀ B : Nat} (hn : n₀ ≤ B) (W : World) (l : Nat) (o o' : Obj) (hl : B ≤ l) (h : W.heap[l]? = some o) (hc : o.isCells = false) (_ : o.isWalk = false) : KpA n₀ W (W.putObj l o') := by
  refine ⟨⟨rfl, rfl, rfl, by simp [World.putObj], fun k hk => World.putObj_heap_other (by omega)⟩, fun k cur t _ _ hk => ?_⟩
  by_cases e : k = l
  · subst e; rw [h] at hk; cases hk; cases hc
  · rw [World.putObj_heap_other e]; exact hk
theorem PickRaw.keptA {n₀ base : Nat} {W W' : World} {r : Raw} {x : At} (h : PickRaw W base r x) (hk : KpA n₀ W W') : PickRaw W' base r x := by
  obtain ⟨g, cap, rfl, ⟨h1, h2⟩, h3⟩ := h
  refine ⟨g, cap, rfl, ⟨h1, ?_⟩, h3⟩
  rcases h2 with h2 | ⟨g', c', cur, hv, hb, hg, r⟩
  · exact Or.inl h2
  · exact Or.inr ⟨g', c', cur, hv, hb, hk.2 _ _ _ (by decide) (by decide) hg, r⟩
theorem KpA.below {n₀ : Nat} {W W' : World} (hb : Below W.heap.size W W') (hn : n₀ ≤ W.heap.size) : KpA n₀ W W' := by
  refine ⟨hb.mono hn, fun k cur t _ _ hk => ?_⟩
  have hlt : k < W.heap.size := (Array.getElem?_eq_some_iff.1 hk).1
  rw [hb.block k hlt]; exact hk

def encA (r : Raw) : Array Value := #[.agg #[.slice r.p r.n r.cap, .int .i64 r.clock, .int .u8 r.sign]]

theorem cell_of {W : World} {B j : Nat} {cs : Array Value} {t : TypeId} {v : Value} (h : W.heap[B]? = some (.cells cs t (0, 0))) (hj : cs[j]? = some v) : W.cell? ⟨B, j, none⟩ = some v := by
  simp [World.cell?, h, hj]

theorem below_grown {W W' : World} (hb : Below W.heap.size W W') : W.grownBy W' none := ⟨hb.os, hb.tape, hb.output, hb.size, fun k hk _ => hb.block k hk⟩

set_option maxRecDepth 100000 in
set_option maxHeartbeats 4000000 in
theorem each1_in (n : Nat) (hn : 1 ≤ n) (B b off cap n₀ : Nat) (l : List (Int × Int)) (c : Int) (t : ByteArray) (w : World) (ok : OkRun l c t) (hn₀ : n₀ ≤ w.heap.size) (hB : w.heap[B]? = some (.cells #[.slice (some ⟨b, off, none⟩) l.length cap, .int .i64 c, .string t] 59 (0, 0))) (hb : b < n₀) (hs : StepsAt w (some ⟨b, off, none⟩) l) :
    SeqW Fence.wide n Tryz.prog 173 #[.pointer (some ⟨B, 0, none⟩)] encA (KpA n₀) (fun xs W' => xs.length = t.size ∧ ∀ i (h : i < xs.length), PickRaw W' n₀ xs[i] (runAt l c t i)) t.size w := by
  intro lp J W hbW hJ hY h0
  show CallsIn Fence.wide n Tryz.prog 173 #[.func (.yield lp) #[] #[], .pointer (some ⟨B, 0, none⟩)] W _
  refine callsIn_of_wp Tryz.func173 rfl trivial ?_ rfl
  simp only [Tryz.ntmps173, List.size_toArray, List.length_cons, List.length_nil, Nat.reduceAdd, Nat.reduceSub, Array.replicate_succ, Array.replicate_zero, List.push_toArray, List.append_toArray, List.nil_append, List.cons_append]
  have hBlt : B < w.heap.size := (Array.getElem?_eq_some_iff.1 hB).1
  have hBW : W.heap[B]? = some (.cells #[.slice (some ⟨b, off, none⟩) l.length cap, .int .i64 c, .string t] 59 (0, 0)) := (hbW.block B hBlt).trans hB
  have r2 : W.cell? ⟨B, 2, none⟩ = some (.string t) := cell_of hBW rfl
  have ht60 := ok.len
  have hsW := hs.below hbW (Nat.le_refl _)
  have hWn : n₀ ≤ W.heap.size := Nat.le_trans hn₀ hbW.size
  have HOK := hidE ok
  clear ok hs
  gi_wp2
  gi_loopw [9] (fun i wr => ∃ (k : Nat) (pre : List Raw), k ≤ t.size ∧ i = .int .i64 k ∧ pre.length = k ∧ (∀ i (h : i < pre.length), PickRaw wr n₀ pre[i] (runAt l c t i)) ∧ J pre wr ∧ wr.heap[B]? = some (.cells #[.slice (some ⟨b, off, none⟩) l.length cap, .int .i64 c, .string t] 59 (0, 0)) ∧ Below n₀ W wr) (fun i _ => t.size - (intOf i).toNat)
  case atStart => exact ⟨0, [], Nat.zero_le _, rfl, rfl, fun i h => by simp at h, h0, hBW, Below.refl _ _⟩
  case round =>
    obtain ⟨k, pre, hk, rfl, hpl, hraws, hJk, hBk, hbk⟩ := hrel
    have HR := hidE hraws
    clear hraws r2 hBW h0
    have q0 : wr.cell? ⟨B, 0, none⟩ = some (.slice (some ⟨b, off, none⟩) l.length cap) := cell_of hBk rfl
    have q1 : wr.cell? ⟨B, 1, none⟩ = some (.int .i64 c) := cell_of hBk rfl
    have q2 : wr.cell? ⟨B, 2, none⟩ = some (.string t) := cell_of hBk rfl
    have hBl : B < wr.heap.size := (Array.getElem?_eq_some_iff.1 hBk).1
    have hnr : n₀ ≤ wr.heap.size := Nat.le_trans hWn hbk.size
    by_cases hlt : k < t.size
    · have hi1 : (k : Int) < t.size := by omega
      have hsr : StepsAt wr (some ⟨b, off, none⟩) l := by
        rcases hsW with e | ⟨b', off', e, hbl, hc⟩
        · exact Or.inl e
        · cases e
          refine Or.inr ⟨b, off, rfl, by omega, fun i hi => ?_⟩
          exact ⟨(hbk.cell (p := ⟨b, off + i * 2, none⟩) hb).trans (hc i hi).1, (hbk.cell (p := ⟨b, off + i * 2 + 1, none⟩) hb).trans (hc i hi).2⟩
      gi_wp2_with fail
      refine ⟨trivial, (callsIn_wide.2 (next_own b off _ l c k _ hsr HOK.out.mark (by omega) (by omega) (HOK.out.each k hlt))).mono ?_⟩
      rintro e w2 ⟨g, cap2, rfl, hown, hb2⟩
      gi_upto_region 4 with fail
      have hb3 := hb2.alloc hb2.size (.cells #[.slice (some ⟨g, 0, none⟩) l.length cap2, .int .i64 (c + k)] 42)
      have hown3 := hown.alloc (.cells #[.slice (some ⟨g, 0, none⟩) l.length cap2, .int .i64 (c + k)] 42)
      have m0 : (w2.alloc (.cells #[.slice (some ⟨g, 0, none⟩) l.length cap2, .int .i64 (c + k)] 42)).cell? ⟨w2.heap.size, 0, none⟩ = some (.slice (some ⟨g, 0, none⟩) l.length cap2) := by simp
      have m1 : (w2.alloc (.cells #[.slice (some ⟨g, 0, none⟩) l.length cap2, .int .i64 (c + k)] 42)).cell? ⟨w2.heap.size, 1, none⟩ = some (.int .i64 (c + k)) := by simp
      generalize w2.alloc (.cells #[.slice (some ⟨g, 0, none⟩) l.length cap2, .int .i64 (c + k)] 42) = w3 at hb3 hown3 m0 m1 ⊢
      replace q2 := (hb3.cell (p := ⟨B, 2, none⟩) hBl).trans q2
      have hJ3 := hJ pre wr w3 none hJk (below_grown hb3) (fun r e => by cases e)
      have hBk3 := (hb3.block B hBl).trans hBk
      have hr := u8_range t[k]
      obtain ⟨fn, tmps, assign, body, hy, hR⟩ := hY pre ⟨some ⟨g, 0, none⟩, l.length, cap2, c + k, t[k].toNat⟩ w3.drew (hJ pre w3 w3.drew none hJ3 ⟨rfl, rfl, rfl, Nat.le_refl _, fun _ _ _ => rfl⟩ (fun r e => by cases e)) (by omega)
      dsimp only [encA] at hy
      clear q0 q1 hown hb2
      have hraw : PickRaw w3.drew n₀ ⟨some ⟨g, 0, none⟩, l.length, cap2, c + k, t[k].toNat⟩ (runAt l c t k) := by
        have e : runAt l c t k = ⟨bump l k, c + k, t[k].toNat⟩ := by
          unfold runAt
          rw [List.getD_eq_getElem?_getD, List.getElem?_eq_getElem (by simpa using hlt)]; rfl
        rw [e]
        refine ⟨g, cap2, by rw [bump_len], ?_, ?_, hr.1, hr.2⟩
        · show World.ownsRow _ _ _ _ (.slice _ (bump l k).length _) (bump l k).length (flatS (bump l k))
          rw [bump_len]
          exact owns_base hown3 hnr
        · rw [bump_len]
          have := (chk_ok HOK.out.mark).2.1
          unfold maxLen; omega
      have hkd : KpA n₀ wr w3.drew := KpA.below hb3.drew hnr
      gi_region_with (refine hR.mono ?_; rintro e W4 ⟨rfl, hJ4, hk4⟩)
      all_goals
        gi_wp2
        go_roundw
        case rel =>
          refine ⟨k + 1, pre ++ [⟨some ⟨g, 0, none⟩, l.length, cap2, c + k, t[k].toNat⟩], by omega, by go_num, by simp [hpl], fun i hi => ?_, hJ4, hk4.2 _ _ _ (by decide) (by decide) hBk3, hbk.trans (hkd.trans hk4).1⟩
          by_cases e : i < pre.length
          · rw [List.getElem_append_left e]
            exact ((HR.out i e).keptA hkd).keptA hk4
          · have : i = k := by simp at hi; omega
            subst this
            rw [List.getElem_append_right (by omega)]
            simp only [hpl, Nat.sub_self, List.getElem_cons_zero]
            exact hraw.keptA hk4
        case measure => simp [intOf]; omega
    · have hkt : k = t.size := by omega
      gi_wp2
      go_end0
      exact ⟨⟨_, rfl⟩, pre, ⟨by omega, HR.out⟩, hJk⟩

set_option maxHeartbeats 1000000 in
theorem each_any (v0 v1 v2 : Value) (w : World) :
    Calls Tryz.prog 96 #[.agg #[v0, v1, v2]] w fun e w' => e = .returned (.func (.func 173) #[] #[.pointer (some ⟨w.heap.size, 0, none⟩)]) ∧ w' = w.alloc (.cells #[v0, v1, v2] 59) := by
  go_enter Tryz.func96, Tryz.ntmps96
  go_wp2
  go_ret
  exact ⟨rfl, rfl⟩
end Go.Proofs.YtnhjebdlcbhkcaeGreat

namespace Go.Proofs.YtnhjebdlcbhkcaeGreat
open Go.RowKit Go.Shelf
attribute [local go_sem] Oper.semAt_some

set_option maxRecDepth 100000 in
set_option maxHeartbeats 2000000 in
theorem runAtoms_bad (a : Option Addr) (cap : Nat) (l : List (Int × Int)) (c : Int) (t : ByteArray) (w : World) (hl : l.length ≤ maxLen) (ht : t.size ≤ maxLen) (h : StepsAt w a l) (h0 : chkRun l c t ≠ 0) :
    Calls Tryz.prog 32 #[.agg #[.slice a l.length cap, .int .i64 c, .string t]] w fun e w' => e = .returned (.tuple #[.slice none 0 0, .int .i64 (chkRun l c t)]) ∧ Below w.heap.size w w' := by
  have hx : (chkRun l c t != 0) = true := bne_iff_ne.2 h0
  clear h0
  have hbA : Below w.heap.size w (w.alloc (Obj.cells #[.slice a l.length cap, .int .i64 c, .string t] 59)) := (Below.refl _ _).alloc (Nat.le_refl _) _
  go_enter Tryz.func32, Tryz.ntmps32
  go_wp2_with fail
  refine (runCheck_any _ _ l _ t _ hl ht (h.below hbA (Nat.le_refl _))).mono ?_
  rintro e w2 ⟨rfl, hb2⟩
  go_wp2_with fail
  refine bodyPost_ret (v := .tuple #[.slice none 0 0, .int .i64 (chkRun l c t)]) (by simp [results, Tryz.results32, go_sem]) rfl ?_
  exact ⟨rfl, hbA.thru hb2 hbA.size⟩

theorem ownS (n₀ B : Nat) (l : List (Int × Int)) (c : Int) (t : ByteArray) : OwnFrom B (fun (xs : List Raw) W' => xs.length = t.size ∧ ∀ i (h : i < xs.length), PickRaw W' n₀ xs[i] (runAt l c t i)) := by
  rintro xs W W' row ⟨h1, h2⟩ hg hr
  refine ⟨h1, fun i hi => ?_⟩
  refine (h2 i hi).kept hg (fun g cap _ ho e => ?_)
  obtain ⟨_, o, ho', hc⟩ := hr g e.symm
  rcases ho.2 with ⟨h', _⟩ | ⟨g', _, cur, h', _, hh, _⟩
  · simp at h'
  · simp at h'
    obtain ⟨rfl, _⟩ := h'
    rw [hh] at ho'; cases ho'; cases hc

theorem KpA.append {W w1 : World} {n₀ Bo k : Nat} {v v' : Value} {xs : List Value} {tmp : Obj} (hv : Boxed W Bo 22 v) (hrow : W.ownsRow n₀ 108 3 v k xs) (hgrow : (W.alloc tmp).grownBy w1 v.ownBlock) (hB : Below n₀ W (w1.setCell ⟨Bo, 0, none⟩ v')) : KpA n₀ W (w1.setCell ⟨Bo, 0, none⟩ v') := by
  refine ⟨hB, fun j cur t h1 h2 hj => ?_⟩
  have hlt : j < W.heap.size := (Array.getElem?_eq_some_iff.1 hj).1
  have hne : j ≠ Bo := by
    rintro rfl
    rw [show W.heap[j]? = _ from hv] at hj
    cases hj
    exact h2 rfl
  have hno : some j ≠ v.ownBlock := by
    intro e
    rcases hrow.2 with ⟨rfl, _⟩ | ⟨g, c, cur', rfl, _, hh, _⟩
    · simp [Value.ownBlock] at e
    · simp [Value.ownBlock] at e
      subst e
      rw [hh] at hj
      cases hj
      exact h1 rfl
  have e1 : (W.alloc tmp).heap[j]? = W.heap[j]? := Below.heap_alloc _ _ _ hlt
  have e2 := hgrow.block j (by simp; omega) hno
  have e3 : (w1.setCell ⟨Bo, 0, none⟩ v').heap[j]? = w1.heap[j]? := Below.heap_setCell _ _ _ j (fun e => hne e)
  rw [e3, e2, e1]; exact hj

set_option maxRecDepth 100000 in
set_option maxHeartbeats 4000000 in
theorem runAtoms_ok (a : Option Addr) (cap : Nat) (l : List (Int × Int)) (c : Int) (t : ByteArray) (w : World) (h : StepsAt w a l) (h0 : chkRun l c t = 0) :
    Calls Tryz.prog 32 #[.agg #[.slice a l.length cap, .int .i64 c, .string t]] w fun e w' => ∃ p k, e = .returned (.tuple #[.slice p (atomsR l c t).length k, .int .i64 0]) ∧ AtomsAt w' p (atomsR l c t) ∧ PickRow w' w.heap.size (.slice p (atomsR l c t).length k) (atomsR l c t) ∧ Below w.heap.size w w' := by
  have ok := okRun_of h0
  obtain ⟨hl0, hl10, _⟩ := chk_ok ok.mark
  have hl : l.length ≤ maxLen := by unfold maxLen; omega
  have ht : t.size ≤ maxLen := by have := ok.len; unfold maxLen; omega
  have ht60 := ok.len
  have HOK := hidE ok
  have H0 := hidE h0
  clear ok h0
  obtain ⟨b, off, rfl, hbw⟩ : ∃ b off, a = some ⟨b, off, none⟩ ∧ b < w.heap.size := by
    rcases h with e | ⟨b, off, rfl, hb, _⟩
    · rw [e] at hl0; simp at hl0
    · exact ⟨b, off, rfl, hb⟩
  obtain ⟨i0, hi0, hz0, hz1, hz2⟩ := Tryz.info108
  have hbA : Below w.heap.size w (w.alloc (Obj.cells #[.slice (some ⟨b, off, none⟩) l.length cap, .int .i64 c, .string t] 59)) := (Below.refl _ _).alloc (Nat.le_refl _) _
  refine (callsIn_wide (n := 3)).1 ?_
  refine callsIn_of_wp_marks Tryz.func32 rfl trivial ?_ rfl
  simp only [Tryz.ntmps32, List.size_toArray, List.length_cons, List.length_nil, Nat.reduceAdd, Nat.reduceSub, Array.replicate_succ, Array.replicate_zero, List.push_toArray, List.append_toArray, List.nil_append, List.cons_append]
  gi_wp2_with fail
  refine ⟨trivial, (callsIn_wide.2 (runCheck_any _ _ l _ t _ hl ht (h.below hbA (Nat.le_refl _)))).mono ?_⟩
  rintro e w2 ⟨rfl, hb2⟩
  rw [H0.out]
  have q0 : w2.cell? ⟨w.heap.size, 0, none⟩ = some (.slice (some ⟨b, off, none⟩) l.length cap) := (hb2.cell (p := ⟨w.heap.size, 0, none⟩) (by simp)).trans (by simp)
  have q1 : w2.cell? ⟨w.heap.size, 1, none⟩ = some (.int .i64 c) := (hb2.cell (p := ⟨w.heap.size, 1, none⟩) (by simp)).trans (by simp)
  have q2 : w2.cell? ⟨w.heap.size, 2, none⟩ = some (.string t) := (hb2.cell (p := ⟨w.heap.size, 2, none⟩) (by simp)).trans (by simp)
  have hz2' : w.heap.size < w2.heap.size := by have := hb2.size; simp at this; omega
  have hb := hbA.thru hb2 hbA.size
  clear hb2 hbA
  gi_wp2_with fail
  refine ⟨trivial, (callsIn_wide.2 (each_any _ _ _ _)).mono ?_⟩
  rintro e w4 ⟨rfl, rfl⟩
  have bO : Boxed ((w2.alloc (Obj.cells #[.slice none 0 0] 22)).alloc (Obj.cells #[.slice (some ⟨b, off, none⟩) l.length cap, .int .i64 c, .string t] 59)) w2.heap.size 22 (.slice none 0 0) := (Boxed.new w2 _ _).alloc _
  have hBx : ((w2.alloc (Obj.cells #[.slice none 0 0] 22)).alloc (Obj.cells #[.slice (some ⟨b, off, none⟩) l.length cap, .int .i64 c, .string t] 59)).heap[w2.heap.size + 1]? = some (.cells #[.slice (some ⟨b, off, none⟩) l.length cap, .int .i64 c, .string t] 59 (0, 0)) := by
    have := World.alloc_heap_new (w2.alloc (Obj.cells #[.slice none 0 0] 22)) (Obj.cells #[.slice (some ⟨b, off, none⟩) l.length cap, .int .i64 c, .string t] 59)
    rwa [World.size_alloc] at this
  have hbV := (hb.alloc hb.size (Obj.cells #[.slice none 0 0] 22)).alloc (by have := hb.size; simp; omega) (Obj.cells #[.slice (some ⟨b, off, none⟩) l.length cap, .int .i64 c, .string t] 59)
  have hVs : ((w2.alloc (Obj.cells #[.slice none 0 0] 22)).alloc (Obj.cells #[.slice (some ⟨b, off, none⟩) l.length cap, .int .i64 c, .string t] 59)).heap.size = w2.heap.size + 2 := by simp
  gi_wp2_with fail
  generalize (w2.alloc (Obj.cells #[.slice none 0 0] 22)).alloc (Obj.cells #[.slice (some ⟨b, off, none⟩) l.length cap, .int .i64 c, .string t] 59) = V at bO hBx hbV hVs ⊢
  clear q0 q1 q2 hb
  have hw2 : w.heap.size ≤ w2.heap.size := by omega
  refine rangeFunc_w rfl (by decide) (gf := 173) (lb := #[.pointer (some ⟨w2.heap.size + 1, 0, none⟩)]) rfl trivial (enters_of Tryz.func173 (by kernel_rfl) rfl)
    (each1_in 2 (by decide) (w2.heap.size + 1) b off cap w.heap.size l c t V HOK.out hbV.size hBx hbw (h.below hbV (Nat.le_refl _))) (fun h k => KpA.trans h k) (KpA.put hbV.size) (ownS _ _ l c t) (Below.refl _ _) (fun _ => rfl)
    (fun pre W => (∃ v, Boxed W w2.heap.size 22 v ∧ W.ownsRow w.heap.size 108 3 v pre.length (flatR pre) ∧ True) ∧ Below w.heap.size w W)
    (OwnFrom.and (Own.from (holdsRow_own w.heap.size _ _ _ 3 (fun pre => pre.length) (fun pre => flatR pre) (fun _ _ => True)) _) (ownFrom_below (Nat.le_refl _) hbV.size))
    ⟨⟨_, bO, World.ownsRow_nil _ _ _ _, trivial⟩, hbV⟩
    (fun x a' W => ∃ Bx, w2.heap.size < Bx ∧ W.heap[Bx]? = some (.cells #[.slice x.p x.n x.cap, .int .i64 x.clock, .int .u8 x.sign] 108 (0, 0)) ∧ a' = { tmps := #[.agg #[.slice (some ⟨b, off, none⟩) l.length cap, .int .i64 c, .string t], .pointer (some ⟨w.heap.size, 0, none⟩), .slice none 0 0, .int .i64 0, .int .i64 0, .pointer (some ⟨w2.heap.size, 0, none⟩), .pointer (some ⟨Bx, 0, none⟩), .agg #[.slice (some ⟨b, off, none⟩) l.length cap, .int .i64 c, .string t], .int .i64 0, .int .i64 0, .bool false, undef, .agg #[.slice (some ⟨b, off, none⟩) l.length cap, .int .i64 c, .string t], .func (.func 173) #[] #[.pointer (some ⟨w2.heap.size + 1, 0, none⟩)], .agg #[.slice x.p x.n x.cap, .int .i64 x.clock, .int .u8 x.sign], undef, undef, undef, undef, undef], defers := [] })
    ?hAx ?assign ?body ?done
  case hAx =>
    rintro x a' s A B row ⟨Bx, h1, h2, h3⟩ hg hr
    refine ⟨Bx, h1, ?_, h3⟩
    rw [hg.block Bx (Array.getElem?_eq_some_iff.1 h2).1 (fun e => by
      obtain ⟨_, o, ho, hc⟩ := hr Bx e.symm
      rw [h2] at ho; cases ho; cases hc)]
    exact h2
  case assign =>
    rintro lp pre x W K ⟨⟨v, hv, hrow, _⟩, hB⟩ hK
    dsimp only [encA]
    gi_wp2
    refine hK _ _ ((KeepsOthers.alloc _ _).from _) (KpA.below ((Below.refl _ W).alloc (Nat.le_refl _) _) hB.size) ⟨⟨v, hv.alloc _, hrow.alloc _, trivial⟩, hB.alloc hB.size _⟩ ⟨W.heap.size, hv.lt, World.alloc_heap_new _ _, rfl⟩
  case body =>
    rintro lp pre x a' W hlp ⟨⟨v, hv, hrow, _⟩, hB⟩ ⟨Bx, hBx1, hx, rfl⟩ hlen
    have x0 : W.cell? ⟨Bx, 0, none⟩ = some (.slice x.p x.n x.cap) := cell_of hx rfl
    have x1 : W.cell? ⟨Bx, 1, none⟩ = some (.int .i64 x.clock) := cell_of hx rfl
    have x2 : W.cell? ⟨Bx, 2, none⟩ = some (.int .u8 x.sign) := cell_of hx rfl
    have hvc := hv.cell
    have hvf := hv.frozen
    have hBs := hB.size
    gi_wp2_with (gi_at_builtin; refine wpListIn_append_own _ rfl _ _ 22 rfl w.heap.size 108 i0 (.agg #[.slice none 0 0, .int .i64 0, .int .u8 0]) 3 40 Tryz.underlying22 hi0 hz0 hz1 hz2 rfl (by decide) _ _ _ rfl (hrow.alloc _) ⟨W.heap.size, 0, none⟩ 1 1 x.cells rfl rfl (by intro j u hj; rw [Addr.add_lit, Nat.zero_add]; exact raw_new W x j u hj) (fun u hu => flatR_one [x] u (by simpa [flatR] using hu)) (by unfold maxLen; omega) (by omega) (by simp; omega) ?_; intro v' w1 hown' hgrow _; obtain ⟨g', cap', rfl⟩ := ownsRow_succ hown'; obtain ⟨hv1, hv2, hr2, hk2, hb2⟩ := hv.appended (by decide) hrow hB.size hw2 hown' hgrow; have hc1 := hv1.cell; have hf1 := hv1.frozen)
    refine ⟨hk2.from _, KpA.append hv hrow hgrow hb2, ⟨_, hv2, ?_, trivial⟩, hB.trans hb2⟩
    rw [flatR_append]
    simpa [flatR] using hr2
  case done =>
    rintro D xs W hD ⟨hxl, hxs⟩ ⟨⟨v, hv, hrow, _⟩, hB⟩ hK
    have hvc := hv.cell
    have HAL : Hid ((atomsR l c t).length = t.size) := by show _ = _; simp [atomsR]
    have hB2 : Below w.heap.size w (W.putObj D (.deferred none)) := hB.trans (belowK_b (w := w) (Nat.le_refl _) W D _ _ (by have := hbV.size; omega) hK rfl rfl)
    have hrow2 : PickRow (W.putObj D (.deferred none)) w.heap.size v (atomsR l c t) := by
      refine ⟨xs, by rw [HAL.out]; exact hxl, ?_, fun i hi hi' => ?_⟩
      · rw [HAL.out, ← hxl]
        exact ownsRow_putObj hrow _ hK rfl
      · have e : (atomsR l c t)[i] = runAt l c t i := by simp [atomsR]
        rw [e]
        exact (ownS w.heap.size 0 l c t xs W (W.putObj D (.deferred none)) (some D) ⟨hxl, hxs⟩ (grownBy_putObj' _ _ _) (fun r e => by cases e; exact ⟨Nat.zero_le _, _, hK, rfl⟩)).2 i hi'
    obtain ⟨p, k, rfl, hat, _⟩ := hrow2.owns.atoms (Below.refl _ _)
    gi_wp2
    refine ⟨by simp, .inl ⟨_, _, rfl, run_takeDeferred hK, ?_⟩⟩
    exact ⟨_, results_tmp2 rfl _ _ _, p, k, rfl, hat, hrow2, hB2⟩
end Go.Proofs.YtnhjebdlcbhkcaeGreat

namespace Go.Proofs.YtnhjebdlcbhkcaeGreat

theorem putA_none {a : At} : ∀ (l : List At) (i : Nat), i ≤ l.length → (∀ t (h : t < l.length), t < i → ordA l[t] a < 0) → (∀ t (h : t < l.length), i ≤ t → 0 < ordA l[t] a) → putA a l false = l.take i ++ a :: l.drop i
  | [], i, hi, _, _ => by simp [putA]
  | x :: l, 0, _, _, h2 => by
    have h0 : 0 < ordA x a := h2 0 (by simp) (Nat.le_refl _)
    have hs : stepPut a x false = ([a, x], true) := by unfold stepPut; rw [if_pos h0]; rfl
    show (stepPut a x false).1 ++ putA a l (stepPut a x false).2 = _
    rw [hs]
    show [a, x] ++ putA a l true = _
    rw [putA_true a l (fun y hy => by
      obtain ⟨t, ht, rfl⟩ := List.getElem_of_mem hy
      have := h2 (t + 1) (by simpa using ht) (Nat.zero_le _)
      have h3 := cmpA.anti a l[t]
      simp only [List.getElem_cons_succ] at this
      omega)]
    rfl
  | x :: l, i + 1, hi, h1, h2 => by
    have h0 : ordA x a < 0 := h1 0 (by simp) (by omega)
    have hs : stepPut a x false = ([x], false) := by unfold stepPut; rw [if_neg (by omega), if_neg (by omega)]
    show (stepPut a x false).1 ++ putA a l (stepPut a x false).2 = _
    rw [hs]
    show [x] ++ putA a l false = _
    rw [putA_none l i (by simpa using hi) (fun t ht hti => h1 (t + 1) (by simpa using ht) (by omega)) (fun t ht hti => h2 (t + 1) (by simpa using ht) (by omega))]
    rfl

theorem putA_found {a : At} : ∀ (l : List At) (i : Nat) (hi : i < l.length), l.Pairwise (fun x y => ordA x y < 0) → ordA l[i] a = 0 → putA a l false = l.set i (lessSign a l[i])
  | [], i, hi, _, _ => by simp at hi
  | x :: l, 0, _, hr, h0 => by
    have h0' : ordA x a = 0 := h0
    have p := List.pairwise_cons.1 hr
    have hs : stepPut a x false = ([lessSign a x], true) := by unfold stepPut; rw [if_neg (by omega), if_pos h0']
    show (stepPut a x false).1 ++ putA a l (stepPut a x false).2 = _
    rw [hs]
    show [lessSign a x] ++ putA a l true = _
    rw [putA_true a l (fun y hy => by
      have h1 := p.1 y hy
      have h2 := cmpA.eqv x a y h0'
      omega)]
    rfl
  | x :: l, i + 1, hi, hr, h0 => by
    have p := List.pairwise_cons.1 hr
    have hil : i < l.length := by simpa using hi
    have h0' : ordA l[i] a = 0 := by simpa using h0
    have hx : ordA x a < 0 := by
      have h1 := p.1 l[i] (List.getElem_mem hil)
      have h2 := cmpA.eqv' x l[i] a h0'
      omega
    have hs : stepPut a x false = ([x], false) := by unfold stepPut; rw [if_neg (by omega), if_neg (by omega)]
    show (stepPut a x false).1 ++ putA a l (stepPut a x false).2 = _
    rw [hs]
    show [x] ++ putA a l false = _
    rw [putA_found l i hil p.2 h0']
    simp

theorem parts_rise {l : List At} (h : l.Pairwise (fun x y => ordA x y < 0)) (m : List (Int × Int)) (d : Int) : Parts l m d := by
  intro s t ht hs hn
  exact ordA_trans (c := ⟨m, d, 0⟩) (List.pairwise_iff_getElem.1 h s t (by omega) ht hs) hn

theorem putA_cut {a : At} {l : List At} {i : Nat} (hr : l.Pairwise (fun x y => ordA x y < 0)) (hi : i ≤ l.length) (hc : Cut l a.path a.clock i i) (hn : ¬ ∃ h : i < l.length, ordM l[i].path l[i].clock a.path a.clock = 0) : putA a l false = l.take i ++ a :: l.drop i := by
  refine putA_none l i hi (fun t ht hti => hc.1 t ht hti) (fun t ht hti => ?_)
  have h1 : 0 ≤ ordA l[t] a := hc.2 t ht hti
  rcases Int.lt_or_eq_of_le h1 with h | h
  · exact h
  · exfalso
    by_cases e : t = i
    · subst e; exact hn ⟨ht, h.symm⟩
    · have h2 : ordA (l[i]'(by omega)) l[t] < 0 := List.pairwise_iff_getElem.1 hr i t (by omega) ht (by omega)
      have h3 := cmpA.eqv' (l[i]'(by omega)) l[t] a h.symm
      have h4 := hc.2 i (by omega) (Nat.le_refl _)
      have h5 : ordA (l[i]'(by omega)) a = ordM (l[i]'(by omega)).path (l[i]'(by omega)).clock a.path a.clock := rfl
      omega

structure OkE (l : List At) : Prop where
  each : ∀ x ∈ l, chk x.path x.clock = 0 ∧ isSignB x.sign = true
  rise : l.Pairwise (fun x y => ordA x y < 0)

theorem OkL.okE {l : List At} (h : OkL l) : OkE l := ⟨h.each, h.rise⟩
theorem putA_okE {l : List At} {a : At} (h : OkE l) (ha : chk a.path a.clock = 0 ∧ isSignB a.sign = true) : OkE (putA a l false) := by
  obtain ⟨h1, h2⟩ := putA_least a l h.rise
  refine ⟨fun x hx => ?_, h1⟩
  rcases List.mem_cons.1 ((h2 x).1 hx).1 with rfl | hx'
  · exact ha
  · exact h.each x hx'

theorem putL_take_succ (l m : List At) (k : Nat) (h : k < m.length) : putL l (m.take (k + 1)) = putA m[k] (putL l (m.take k)) false := by
  unfold putL
  rw [List.take_succ_eq_append_getElem h, List.foldl_append]; rfl

theorem putL_okE {l m : List At} (h : OkE l) (h' : OkE m) : ∀ k, k ≤ m.length → OkE (putL l (m.take k))
  | 0, _ => by simpa [putL] using h
  | k + 1, hk => by
    rw [putL_take_succ l m k (by omega)]
    exact putA_okE (putL_okE h h' k (by omega)) (h'.each _ (List.getElem_mem _))

theorem putL_len (l m : List At) : ∀ k, k ≤ m.length → (putL l (m.take k)).length ≤ l.length + k
  | 0, _ => by simp [putL]
  | k + 1, hk => by
    rw [putL_take_succ l m k (by omega)]
    have h1 := putL_len l m k (by omega)
    have h2 := putA_len m[k] (putL l (m.take k)) false
    simp at h2
    omega

theorem pickTo_all (l : List At) : ∀ k, k ≤ l.length → pickTo (fun _ => true) l k = l.take k
  | 0, _ => by simp [pickTo]
  | k + 1, hk => by
    show (pickTo (fun _ => true) l k ++ if true = true then l[k]?.toList else []) = _
    rw [pickTo_all l k (by omega), if_pos rfl, List.getElem?_eq_getElem (by omega), List.take_succ_eq_append_getElem (by omega)]; rfl
end Go.Proofs.YtnhjebdlcbhkcaeGreat
