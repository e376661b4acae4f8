/- Contract of run.each and its iterator. -/
import Derived.Test.YtlpfnpkmgkbngacRfLaw
import Derived.Test.YtlpfnpkmgkbngacRunCk
import Derived.Test.YtlpfnpkmgkbngacFresh
namespace Go.Proofs.Ytlpfnpkmgkbngac
open Go.RowKit Go.Shelf
attribute [local go_sem] Oper.semAt_some

/-- the i-th atom of a run -/
def runAt (l : List (Int × Int)) (c : Int) (t : ByteArray) (i : Nat) : At := ⟨bump l i, c + i, (t.data.toList.getD i 0).toNat⟩
/-- its atoms -/
def atomsR (l : List (Int × Int)) (c : Int) (t : ByteArray) : List At := (List.range t.size).map (runAt l c t)

theorem bump_len (l : List (Int × Int)) (n : Int) : (bump l n).length = l.length := bump_len' l n
theorem lastS_bump {l : List (Int × Int)} (h : 0 < l.length) (n : Int) : lastS (bump l n) = ((lastS l).1 + n, (lastS l).2) := by
  unfold lastS bump setL
  rw [List.length_set, List.getD_eq_getElem?_getD, List.getElem?_set_self (by omega)]; rfl

theorem okSteps_bump {l : List (Int × Int)} {n m : Int} (h : 0 < l.length) (h0 : okSteps l = true) (hm : okSteps (bump l m) = true) (hn0 : 0 ≤ n) (hnm : n ≤ m) : okSteps (bump l n) = true := by
  refine okSteps_true (fun i hi => ?_)
  rw [bump_len] at hi
  by_cases e : i = l.length - 1
  · subst e
    have h1 := okStep_iff.1 (okSteps_get h0 (i := l.length - 1) (by omega))
    have h2 := okStep_iff.1 (okSteps_get hm (i := l.length - 1) (by rw [bump_len]; omega))
    have e1 : (bump l m)[l.length - 1]'(by rw [bump_len]; omega) = ((lastS l).1 + m, (lastS l).2) := by unfold bump setL; simp
    have e2 : (bump l n)[l.length - 1]'(by rw [bump_len]; omega) = ((lastS l).1 + n, (lastS l).2) := by unfold bump setL; simp
    have e3 : l[l.length - 1]'(by omega) = lastS l := (lastS_eq h).symm
    rw [e1] at h2
    rw [e3] at h1
    rw [e2]
    exact okStep_iff.2 ⟨by simp only; omega, by simp only at h2 ⊢; omega, h2.2.2.1, h2.2.2.2⟩
  · have e2 : (bump l n)[i]'(by rw [bump_len]; omega) = l[i] := by unfold bump setL; rw [List.getElem_set_ne (by omega)]
    rw [e2]
    exact okSteps_get h0 hi

theorem chk_mk {l : List (Int × Int)} {c : Int} (h1 : 0 < l.length) (h2 : l.length ≤ 10) (h3 : okSteps l = true) (h4 : (lastS l).1 ≠ 0) (h5 : 1 ≤ c) (h6 : c ≤ 10000) : chk l c = 0 := by
  unfold chk
  rw [if_neg (by omega), if_neg (by omega), if_pos]
  simp [h3, h4, inB, h5, h6]

theorem chk_bump {l : List (Int × Int)} {c n m : Int} (h : chk l c = 0) (hm : chk (bump l m) (c + m) = 0) (h0 : 0 ≤ n) (hnm : n ≤ m) : chk (bump l n) (c + n) = 0 := by
  obtain ⟨a1, a2, a3, a4, a5, a6⟩ := chk_ok h
  obtain ⟨b1, b2, b3, b4, b5, b6⟩ := chk_ok hm
  refine chk_mk (by rw [bump_len]; exact a1) (by rw [bump_len]; exact a2) (okSteps_bump a1 a3 b3 h0 hnm) ?_ (by omega) (by omega)
  rw [lastS_bump a1]
  have h1 := okStep_iff.1 (okSteps_get a3 (i := l.length - 1) (by omega))
  rw [← lastS_eq a1] at h1
  simp only
  omega

/-- what Check of a run lets through -/
structure OkRun (l : List (Int × Int)) (c : Int) (t : ByteArray) : Prop where
  mark : chk l c = 0
  len0 : 0 < t.size
  len : t.size ≤ 60
  signs : allS t.data.toList = true
  each : ∀ i : Nat, i < t.size → chk (bump l i) (c + i) = 0

theorem okRun_of {l : List (Int × Int)} {c : Int} {t : ByteArray} (h : chkRun l c t = 0) : OkRun l c t := by
  unfold chkRun at h
  by_cases h0 : chk l c = 0
  rotate_left
  · rw [if_pos h0] at h; exact absurd h h0
  rw [if_neg (by omega)] at h
  by_cases h1 : t.size = 0
  · rw [if_pos h1] at h; exact absurd h (by decide)
  rw [if_neg h1] at h
  by_cases h2 : 60 < t.size
  · rw [if_pos h2] at h; exact absurd h (by decide)
  rw [if_neg h2] at h
  cases h3 : allS t.data.toList
  · rw [if_pos h3] at h; exact absurd h (by decide)
  rw [if_neg (by rw [h3]; decide)] at h
  unfold nxt at h
  rw [if_neg (by omega), if_neg (by omega)] at h
  by_cases h4 : chk (bump l ((t.size : Int) - 1)) (c + ((t.size : Int) - 1)) = 0
  rotate_left
  · rw [if_pos h4] at h; exact absurd h (by decide)
  exact ⟨h0, by omega, by omega, h3, fun i hi => chk_bump h0 h4 (by omega) (by omega)⟩

/-- what a round keeps: all below n₀, and every cell that is no atom's and no list's of atoms -/
def KpA (n₀ : Nat) (W W' : World) : Prop := Below n₀ W W' ∧ ∀ (k : Nat) (cur : Array Value) (t : TypeId), t ≠ 50 → t ≠ 29 → W.heap[k]? = some (Obj.cells cur t (0, 0)) → W'.heap[k]? = some (Obj.cells cur t (0, 0))

theorem KpA.trans {n₀ : Nat} {A B C : World} (h : KpA n₀ A B) (k : KpA n₀ B C) : KpA n₀ A C := ⟨h.1.trans k.1, fun i cur t h1 h2 h3 => k.2 i cur t h1 h2 (h.2 i cur t h1 h2 h3)⟩
theorem KpA.put {n₀ B : Nat} (hn : n₀ ≤ B) (W : World) (l : Nat) (o o' : Obj) (hl : B ≤ l) (h : W.heap[l]? = some o) (hc : o.isCells = false) (_ : o.isWalk = false) : KpA n₀ W (W.putObj l o') := by
  refine ⟨⟨rfl, rfl, rfl, by simp [World.putObj], fun k hk => World.putObj_heap_other (by omega)⟩, fun k cur t _ _ hk => ?_⟩
  by_cases e : k = l
  · subst e; rw [h] at hk; cases hk; cases hc
  · rw [World.putObj_heap_other e]; exact hk
theorem PickRaw.keptA {n₀ base : Nat} {W W' : World} {r : Raw} {x : At} (h : PickRaw W base r x) (hk : KpA n₀ W W') : PickRaw W' base r x := by
  obtain ⟨g, cap, rfl, ⟨h1, h2⟩, h3⟩ := h
  refine ⟨g, cap, rfl, ⟨h1, ?_⟩, h3⟩
  rcases h2 with h2 | ⟨g', c', cur, hv, hb, hg, r⟩
  · exact Or.inl h2
  · exact Or.inr ⟨g', c', cur, hv, hb, hk.2 _ _ _ (by decide) (by decide) hg, r⟩
theorem KpA.below {n₀ : Nat} {W W' : World} (hb : Below W.heap.size W W') (hn : n₀ ≤ W.heap.size) : KpA n₀ W W' := by
  refine ⟨hb.mono hn, fun k cur t _ _ hk => ?_⟩
  have hlt : k < W.heap.size := (Array.getElem?_eq_some_iff.1 hk).1
  rw [hb.block k hlt]; exact hk

/-- an atom as one value -/
def encA (r : Raw) : Array Value := #[.agg #[.slice r.p r.n r.cap, .int .i64 r.clock, .int .u8 r.sign]]

theorem cell_of {W : World} {B j : Nat} {cs : Array Value} {t : TypeId} {v : Value} (h : W.heap[B]? = some (.cells cs t (0, 0))) (hj : cs[j]? = some v) : W.cell? ⟨B, j, none⟩ = some v := by
  simp [World.cell?, h, hj]

theorem below_grown {W W' : World} (hb : Below W.heap.size W W') : W.grownBy W' none := ⟨hb.os, hb.tape, hb.output, hb.size, fun k hk _ => hb.block k hk⟩

set_option maxRecDepth 100000 in
set_option maxHeartbeats 4000000 in
theorem each1_in (n : Nat) (hn : 1 ≤ n) (B b off cap n₀ : Nat) (l : List (Int × Int)) (c : Int) (t : ByteArray) (w : World) (ok : OkRun l c t) (hn₀ : n₀ ≤ w.heap.size) (hB : w.heap[B]? = some (.cells #[.slice (some ⟨b, off, none⟩) l.length cap, .int .i64 c, .string t] 63 (0, 0))) (hb : b < n₀) (hs : StepsAt w (some ⟨b, off, none⟩) l) :
    SeqW Fence.wide n Try.prog 150 #[.pointer (some ⟨B, 0, none⟩)] encA (KpA n₀) (fun xs W' => xs.length = t.size ∧ ∀ i (h : i < xs.length), PickRaw W' n₀ xs[i] (runAt l c t i)) t.size w := by
  intro lp J W hbW hJ hY h0
  show CallsIn Fence.wide n Try.prog 150 #[.func (.yield lp) #[] #[], .pointer (some ⟨B, 0, none⟩)] W _
  refine callsIn_of_wp Try.func150 rfl trivial ?_ rfl
  simp only [Try.ntmps150, List.size_toArray, List.length_cons, List.length_nil, Nat.reduceAdd, Nat.reduceSub, Array.replicate_succ, Array.replicate_zero, List.push_toArray, List.append_toArray, List.nil_append, List.cons_append]
  have hBlt : B < w.heap.size := (Array.getElem?_eq_some_iff.1 hB).1
  have hBW : W.heap[B]? = some (.cells #[.slice (some ⟨b, off, none⟩) l.length cap, .int .i64 c, .string t] 63 (0, 0)) := (hbW.block B hBlt).trans hB
  have r2 : W.cell? ⟨B, 2, none⟩ = some (.string t) := cell_of hBW rfl
  have ht60 := ok.len
  have hsW := hs.below hbW (Nat.le_refl _)
  have hWn : n₀ ≤ W.heap.size := Nat.le_trans hn₀ hbW.size
  have HOK := hidE ok
  clear ok hs
  gi_wp2
  gi_loopw [9] (fun i wr => ∃ (k : Nat) (pre : List Raw), k ≤ t.size ∧ i = .int .i64 k ∧ pre.length = k ∧ (∀ i (h : i < pre.length), PickRaw wr n₀ pre[i] (runAt l c t i)) ∧ J pre wr ∧ wr.heap[B]? = some (.cells #[.slice (some ⟨b, off, none⟩) l.length cap, .int .i64 c, .string t] 63 (0, 0)) ∧ Below n₀ W wr) (fun i _ => t.size - (intOf i).toNat)
  case atStart => exact ⟨0, [], Nat.zero_le _, rfl, rfl, fun i h => by simp at h, h0, hBW, Below.refl _ _⟩
  case round =>
    obtain ⟨k, pre, hk, rfl, hpl, hraws, hJk, hBk, hbk⟩ := hrel
    have HR := hidE hraws
    clear hraws r2 hBW h0
    have q0 : wr.cell? ⟨B, 0, none⟩ = some (.slice (some ⟨b, off, none⟩) l.length cap) := cell_of hBk rfl
    have q1 : wr.cell? ⟨B, 1, none⟩ = some (.int .i64 c) := cell_of hBk rfl
    have q2 : wr.cell? ⟨B, 2, none⟩ = some (.string t) := cell_of hBk rfl
    have hBl : B < wr.heap.size := (Array.getElem?_eq_some_iff.1 hBk).1
    have hnr : n₀ ≤ wr.heap.size := Nat.le_trans hWn hbk.size
    by_cases hlt : k < t.size
    · have hi1 : (k : Int) < t.size := by omega
      have hsr : StepsAt wr (some ⟨b, off, none⟩) l := by
        rcases hsW with e | ⟨b', off', e, hbl, hc⟩
        · exact Or.inl e
        · cases e
          refine Or.inr ⟨b, off, rfl, by omega, fun i hi => ?_⟩
          exact ⟨(hbk.cell (p := ⟨b, off + i * 2, none⟩) hb).trans (hc i hi).1, (hbk.cell (p := ⟨b, off + i * 2 + 1, none⟩) hb).trans (hc i hi).2⟩
      gi_wp2_with fail
      refine ⟨trivial, (callsIn_wide.2 (next_own b off _ l c k _ hsr HOK.out.mark (by omega) (by omega) (HOK.out.each k hlt))).mono ?_⟩
      rintro e w2 ⟨g, cap2, rfl, hown, hb2⟩
      gi_upto_region 4 with fail
      have hb3 := hb2.alloc hb2.size (.cells #[.slice (some ⟨g, 0, none⟩) l.length cap2, .int .i64 (c + k)] 41)
      have hown3 := hown.alloc (.cells #[.slice (some ⟨g, 0, none⟩) l.length cap2, .int .i64 (c + k)] 41)
      have m0 : (w2.alloc (.cells #[.slice (some ⟨g, 0, none⟩) l.length cap2, .int .i64 (c + k)] 41)).cell? ⟨w2.heap.size, 0, none⟩ = some (.slice (some ⟨g, 0, none⟩) l.length cap2) := by simp
      have m1 : (w2.alloc (.cells #[.slice (some ⟨g, 0, none⟩) l.length cap2, .int .i64 (c + k)] 41)).cell? ⟨w2.heap.size, 1, none⟩ = some (.int .i64 (c + k)) := by simp
      generalize w2.alloc (.cells #[.slice (some ⟨g, 0, none⟩) l.length cap2, .int .i64 (c + k)] 41) = w3 at hb3 hown3 m0 m1 ⊢
      replace q2 := (hb3.cell (p := ⟨B, 2, none⟩) hBl).trans q2
      have hJ3 := hJ pre wr w3 none hJk (below_grown hb3) (fun r e => by cases e)
      have hBk3 := (hb3.block B hBl).trans hBk
      have hr := u8_range t[k]
      obtain ⟨fn, tmps, assign, body, hy, hR⟩ := hY pre ⟨some ⟨g, 0, none⟩, l.length, cap2, c + k, t[k].toNat⟩ w3.drew (hJ pre w3 w3.drew none hJ3 ⟨rfl, rfl, rfl, Nat.le_refl _, fun _ _ _ => rfl⟩ (fun r e => by cases e)) (by omega)
      dsimp only [encA] at hy
      clear q0 q1 hown hb2
      have hraw : PickRaw w3.drew n₀ ⟨some ⟨g, 0, none⟩, l.length, cap2, c + k, t[k].toNat⟩ (runAt l c t k) := by
        have e : runAt l c t k = ⟨bump l k, c + k, t[k].toNat⟩ := by
          unfold runAt
          rw [List.getD_eq_getElem?_getD, List.getElem?_eq_getElem (by simpa using hlt)]; rfl
        rw [e]
        refine ⟨g, cap2, by rw [bump_len], ?_, ?_, hr.1, hr.2⟩
        · show World.ownsRow _ _ _ _ (.slice _ (bump l k).length _) (bump l k).length (flatS (bump l k))
          rw [bump_len]
          exact owns_base hown3 hnr
        · rw [bump_len]
          have := (chk_ok HOK.out.mark).2.1
          unfold maxLen; omega
      have hkd : KpA n₀ wr w3.drew := KpA.below hb3.drew hnr
      gi_region_with (refine hR.mono ?_; rintro e W4 ⟨rfl, hJ4, hk4⟩)
      all_goals
        gi_wp2
        go_roundw
        case rel =>
          refine ⟨k + 1, pre ++ [⟨some ⟨g, 0, none⟩, l.length, cap2, c + k, t[k].toNat⟩], by omega, by go_num, by simp [hpl], fun i hi => ?_, hJ4, hk4.2 _ _ _ (by decide) (by decide) hBk3, hbk.trans (hkd.trans hk4).1⟩
          by_cases e : i < pre.length
          · rw [List.getElem_append_left e]
            exact ((HR.out i e).keptA hkd).keptA hk4
          · have : i = k := by simp at hi; omega
            subst this
            rw [List.getElem_append_right (by omega)]
            simp only [hpl, Nat.sub_self, List.getElem_cons_zero]
            exact hraw.keptA hk4
        case measure => simp [intOf]; omega
    · have hkt : k = t.size := by omega
      gi_wp2
      go_end0
      exact ⟨⟨_, rfl⟩, pre, ⟨by omega, HR.out⟩, hJk⟩

set_option maxHeartbeats 1000000 in
theorem each_any (v0 v1 v2 : Value) (w : World) :
    Calls Try.prog 144 #[.agg #[v0, v1, v2]] w fun e w' => e = .returned (.func (.func 150) #[] #[.pointer (some ⟨w.heap.size, 0, none⟩)]) ∧ w' = w.alloc (.cells #[v0, v1, v2] 63) := by
  go_enter Try.func144, Try.ntmps144
  go_wp2
  go_ret
  exact ⟨rfl, rfl⟩
end Go.Proofs.Ytlpfnpkmgkbngac
