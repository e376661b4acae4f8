/- A range over a function whose body never leaves: what the iterator says of its list may speak of the world behind the loop. -/
import Derived.Test.YtmnmlojkedlmeabAtomCk
import Derived.RangeFuncNested
import Derived.RangeFuncBound
import Derived.RangeFuncCalls
import Derived.RangeFuncLeaves
import Derived.Shelf.Abstract
import Derived.Shelf.RegionOpen
import Derived.OwnWalkIn
import Derived.TacticsInMore
import Derived.LoopNIn
import Derived.LoopIn
import Derived.Maps.AppendAt
import Derived.Sort.CutIn
import Derived.Test.YtmnmlojkedlmeabRawA
namespace Go.Proofs.Ytmnmlojkedlmeab
open Go.RowKit Go.Shelf

/-- an iterator that goes to its end: S says what came, and how the world lies then -/
def SeqW {α : Type} (F : Fence) (n : Nat) (P : Program) (g : Nat) (lb : Array Value) (encs : α → Array Value) (Kp : World → World → Prop) (S : List α → World → Prop) (N : Nat) (w : World) : Prop :=
  ∀ (l : Nat) (J : List α → World → Prop) (W : World), Below w.heap.size w W → AbidesFrom W.heap.size J →
    (∀ pre x W1, J pre W1 → pre.length < N → YieldAt F (n - 1) P l (encs x) W1 fun e W' => e = .returned (.bool true) ∧ J (pre ++ [x]) W' ∧ Kp W1 W') →
    J [] W → CallsIn F n P g (#[.func (.yield l) #[] #[]] ++ lb) W fun e W' => (∃ v, e = .returned v) ∧ ∃ xs, S xs W' ∧ J xs W'

/-- how a body that never leaves ends -/
def goesOn (B : Nat) (Kp : World → World → Prop) (R : World → Prop) (W : World) : Exit → Act → World → Prop
  | .normal, _, W' => KeepsFrom B W W' ∧ Kp W W' ∧ R W'
  | _, _, _ => False

theorem rangeFunc_w {F : Fence} {n : Nat} {P : Program} {α : Type} {g : Operand} {ps : Array Tmp} {assign body : Code} {Q : Exit → Act → World → Prop} {a : Act} {w : World}
    (hro : F.round = none) (h1 : 1 ≤ n) {gf : Nat} {lb : Array Value} (hg : a.eval g = .func (.func gf) #[] lb) (hFg : F.fn gf) (eg : ∀ args w, (callFunc gf args).run P w = .ok (.enter gf args) w)
    {encs : α → Array Value} {Kp : World → World → Prop} {S : List α → World → Prop} {N : Nat} {w0 : World} (hseq : SeqW F (n - 1) P gf lb encs Kp S N w0)
    (hKt : ∀ {A B C : World}, Kp A B → Kp B C → Kp A C) (hKb : ∀ (W : World) (l : Nat) (o o' : Obj), w.heap.size ≤ l → W.heap[l]? = some o → o.isCells = false → o.isWalk = false → Kp W (W.putObj l o'))
    (hS : OwnFrom w.heap.size S) (hb0 : Below w0.heap.size w0 w) (hps : ∀ x, (encs x).size = ps.size)
    (I : List α → World → Prop) (hI : OwnFrom w.heap.size I) (h0 : I [] w) (Ax : α → Act → World → Prop) (hAx : ∀ x a', OwnFrom w.heap.size (fun (_ : Unit) W => Ax x a' W))
    (hassign : ∀ (l : Nat) (pre : List α) (x : α) (W : World) (K : Act → World → Prop), I pre W → (∀ a' W', KeepsFrom w.heap.size W W' → Kp W W' → I pre W' → Ax x a' W' → K a' W') →
      assign.wpIn (F.inRound l) (n - 1 - 1) P (Exit.then K (fun _ _ _ => False)) { tmps := (ps.zip (encs x)).foldl (fun t (p, v) => t.setIfInBounds p v) a.tmps, defers := [] } W)
    (hbody : ∀ (l : Nat) (pre : List α) (x : α) (a' : Act) (W : World), w.heap.size ≤ l → I pre W → Ax x a' W → pre.length < N → body.wpIn (F.inRound l) (n - 1 - 1) P (goesOn w.heap.size Kp (I (pre ++ [x])) W) a' W)
    (hdone : ∀ (D : Nat) (xs : List α) (W : World), w.heap.size ≤ D → S xs W → I xs W → W.heap[D]? = some (.deferred (some [])) → Q .normal { a with defers := { target := .collected D, args := #[] } :: a.defers } W) :
    (Code.rangeFunc g ps assign body).wpIn F n P Q a w := by
  refine wpIn_rangeFunc ?_
  intro fn hfn
  rw [hro]
  -- the record of the loop, and the world in which the iterator is called
  obtain ⟨rc, hrc⟩ : ∃ rc : LoopState → Loop, rc = fun st => { state := st, pending := none, fn, tmps := a.tmps, params := ps, assign, body, defers := w.heap.size } := ⟨_, rfl⟩
  obtain ⟨W1, hW1⟩ : ∃ W1, (w.alloc (.deferred (some []))).alloc (.loop (rc .ready)) = W1 := ⟨_, rfl⟩
  have hz0 : (w.alloc (.deferred (some []))).heap.size = w.heap.size + 1 := by simp
  have hL1 : W1.heap[w.heap.size + 1]? = some (.loop (rc .ready)) := by
    rw [← hW1, ← hz0]; exact World.alloc_heap_new _ _
  have hK1 : W1.heap[w.heap.size]? = some (.deferred (some [])) := by
    rw [← hW1]; exact (Below.heap_alloc _ _ _ (by simp)).trans (World.alloc_heap_new w _)
  have hI1 : I [] W1 := by rw [← hW1]; exact hI.alloc _ (hI.alloc _ h0)
  have hb1 : Below w0.heap.size w0 W1 := by
    rw [← hW1]; exact hb0.trans ((((Below.refl _ w).alloc (Nat.le_refl _) _).alloc (by simp) _).mono hb0.size)
  have hsz : W1.heap.size = w.heap.size + 2 := by rw [← hW1]; simp
  refine ⟨w.heap.size + 1, [{ target := .collected w.heap.size, args := #[] }], W1, { target := .fn (.func gf) lb, args := #[.func (.yield (w.heap.size + 1)) #[] #[]] }, W1, gf,
    #[.func (.yield (w.heap.size + 1)) #[] #[]] ++ lb, W1, ?_, ?_, ?_, ?_, fun _ => h1, ?_⟩
  · rw [← hW1, hrc]; exact run_enterLoop_outer _ _ _ _ _
  · simp only [resolve, hg]
    simp [go_sem]
  · intro f' hf'; simp [Target.leads] at hf'; subst hf'; exact hFg
  · simp [invoke, go_sem, eg]
  · clear hW1
    have hr' : ∀ {A : World} {row : Option Nat}, (∀ r, row = some r → W1.heap.size ≤ r ∧ ∃ o : Obj, A.heap[r]? = some o ∧ o.isWalk = true) → (∀ r, row = some r → w.heap.size ≤ r ∧ ∃ o : Obj, A.heap[r]? = some o ∧ o.isCells = false) :=
      fun hr r e => by obtain ⟨hB, o, ho, hw⟩ := hr r e; exact ⟨by omega, o, ho, Obj.not_cells_of_walk hw⟩
    refine (hseq (w.heap.size + 1) (fun pre W => I pre W ∧ W.heap[w.heap.size + 1]? = some (.loop (rc .ready)) ∧ W.heap[w.heap.size]? = some (.deferred (some []))) W1 hb1 ?_ ?_ ⟨hI1, hL1, hK1⟩).mono ?_
    · intro s A B row hs hgr hr
      exact ⟨hI s A B row hs.1 hgr (hr' hr), (grownBy_keeps hgr (fun r e => (hr r e).2) hs.2.1 rfl).trans hs.2.1, (grownBy_keeps hgr (fun r e => (hr r e).2) hs.2.2 rfl).trans hs.2.2⟩
    · rintro pre x W ⟨hi, hl, hk⟩ hlen
      have hy := run_yield (P := P) (args := encs x) hl (by rw [hrc]; exact hps x)
      rw [hrc] at hy
      refine ⟨fn, _, assign, body, hy, roundIn_of_wpIn hfn (hassign _ pre x W _ hi ?_)⟩
      intro a' V kv kpv hiv hax
      have hlv := kv.same _ _ (Nat.le_succ _) hl rfl
      have hkv := kv.same _ _ (Nat.le_refl _) hk rfl
      have hlt : w.heap.size + 1 < V.heap.size := (Array.getElem?_eq_some_iff.1 hlv).1
      refine ⟨_, run_beginRound hlv (by rw [hrc]), ?_⟩
      have hl2 : (V.putObj (w.heap.size + 1) (.loop { rc .ready with state := .busy })).heap[w.heap.size + 1]? = some (.loop { rc .ready with state := .busy }) := World.putObj_heap_same hlt
      have hk2 : (V.putObj (w.heap.size + 1) (.loop { rc .ready with state := .busy })).heap[w.heap.size]? = some (.deferred (some [])) := (World.putObj_heap_other (by omega)).trans hkv
      refine wpIn_mono (hbody _ pre x a' _ (Nat.le_succ _) (hI.putObj _ hiv (Nat.le_succ _) hlv rfl) ((hAx x a').putObj (s := ()) _ hax (Nat.le_succ _) hlv rfl) hlen) ?_
      rintro e a3 V3 hp
      cases e with
      | normal =>
        obtain ⟨k3, kp3, hi3⟩ := hp
        have hl3 := k3.same _ _ (Nat.le_succ _) hl2 rfl
        have hk3 := k3.same _ _ (Nat.le_refl _) hk2 rfl
        have hend := run_endRound (P := P) none hl3
        rw [hrc] at hend
        refine ⟨_, _, hend, rfl, ⟨?_, ?_, ?_⟩, ?_⟩
        · exact hI.putObj _ hi3 (Nat.le_succ _) hl3 rfl
        · rw [hrc]; exact World.putObj_heap_same (Array.getElem?_eq_some_iff.1 hl3).1
        · exact (World.putObj_heap_other (by omega)).trans hk3
        · exact hKt kpv (hKt (hKt (hKb _ _ _ _ (Nat.le_succ _) hlv rfl rfl) kp3) (hKb _ _ _ _ (Nat.le_succ _) hl3 rfl rfl))
      | _ => exact hp.elim
    · rintro e W2 ⟨⟨v, rfl⟩, xs, hs, hi, hl, hk⟩
      have hend := run_endLoop (P := P) hl (by rw [hrc]; simp)
      rw [hrc] at hend
      exact ⟨none, _, hend, hdone _ xs _ (Nat.le_refl _) (hS.putObj _ hs (Nat.le_succ _) hl rfl) (hI.putObj _ hi (Nat.le_succ _) hl rfl) ((World.putObj_heap_other (by omega)).trans hk)⟩
end Go.Proofs.Ytmnmlojkedlmeab

namespace Go.Proofs.Ytmnmlojkedlmeab
open Go.RowKit

set_option maxHeartbeats 1000000 in
theorem nextOf_bad (a : Option Addr) (cap : Nat) (l : List (Int × Int)) (c n : Int) (w : World) (hl : l.length ≤ maxLen) (h : StepsAt w a l) (hbad : chk l c ≠ 0) :
    Calls Try.prog 43 #[.agg #[.slice a l.length cap, .int .i64 c], .int .i64 n] w (NextGives w l c n) := by
  have hn : Hid (nxt l c n = ([], 0, chk l c)) := by show _ = _; unfold nxt; rw [if_pos hbad]
  have hx : (chk l c != 0) = true := by rw [bne_iff_ne]; exact hbad
  clear hbad
  go_enter Try.func43, Try.ntmps43
  go_wp2_with (go_at_call 41; refine (checkMark_any _ _ _ _ _ hl (by exact h.below (((Below.refl _ _).alloc (Nat.le_refl _) _).alloc (by simp) _) (Nat.le_refl _))).mono ?_; rintro e w' ⟨rfl, hb⟩; obtain ⟨hcc, hff⟩ := bcellN hb (w.heap.size + 2) (by simp))
  refine bodyPost_ret (v := .tuple #[.agg #[.slice none 0 0, .int .i64 0], .int .i64 (chk l c)]) (by simp [results, Try.results43, go_sem, hcc]) rfl ?_
  refine ⟨none, 0, by rw [hn.out]; rfl, Or.inl (by rw [hn.out]), ?_⟩
  exact ((((Below.refl _ _).alloc (Nat.le_refl _) _).alloc (by simp) _).thru hb (by simp; omega)).setCell (by simp) _ |>.setCell (by simp) _

set_option maxHeartbeats 1000000 in
theorem nextOf_range (a : Option Addr) (cap : Nat) (l : List (Int × Int)) (c n : Int) (w : World) (hl : l.length ≤ maxLen) (h : StepsAt w a l) (hok : chk l c = 0) (hr : n < 0 ∨ 60 < n) :
    Calls Try.prog 43 #[.agg #[.slice a l.length cap, .int .i64 c], .int .i64 n] w (NextGives w l c n) := by
  have hn : Hid (nxt l c n = ([], 0, 3)) := by show _ = _; unfold nxt; rw [if_neg (by omega), if_pos hr]
  have H0 : Hid (chk l c = 0) := hok
  have HI : Hid (inB n 0 60 = false) := by show _ = _; rw [Bool.eq_false_iff]; intro e; simp [inB] at e; omega
  clear hok hr
  go_enter Try.func43, Try.ntmps43
  go_wp2_with (first | (go_at_call 41; refine (checkMark_any _ _ _ _ _ hl (by exact h.below (((Below.refl _ _).alloc (Nat.le_refl _) _).alloc (by simp) _) (Nat.le_refl _))).mono ?_; rintro e w' ⟨rfl, hb⟩; rw [H0.out]; obtain ⟨hcc, hff⟩ := bcellN hb (w.heap.size + 2) (by simp)) | (go_at_call 65; refine (between_any _ _ _ _).mono ?_; rintro e w'' ⟨rfl, rfl⟩; rw [HI.out]))
  refine bodyPost_ret (v := .tuple #[.agg #[.slice none 0 0, .int .i64 0], .int .i64 3]) (by simp [results, Try.results43, go_sem, hcc]) rfl ?_
  refine ⟨none, 0, by rw [hn.out]; rfl, Or.inl (by rw [hn.out]), ?_⟩
  exact ((((Below.refl _ _).alloc (Nat.le_refl _) _).alloc (by simp) _).thru hb (by simp; omega)).setCell (by simp) _ |>.setCell (by simp) _

set_option maxRecDepth 100000 in
set_option maxHeartbeats 1000000 in
theorem nextOf_in (b off : Nat) (cap : Nat) (l : List (Int × Int)) (c n : Int) (w : World) (h : StepsAt w (some ⟨b, off, none⟩) l) (hok : chk l c = 0) (h0 : 0 ≤ n) (h60 : n ≤ 60) :
    Calls Try.prog 43 #[.agg #[.slice (some ⟨b, off, none⟩) l.length cap, .int .i64 c], .int .i64 n] w (NextGives w l c n) := by
  have hn : Hid (nxt l c n = if chk (bump l n) (c + n) ≠ 0 then ([], 0, 3) else (bump l n, c + n, 0)) := by show _ = _; unfold nxt; rw [if_neg (by omega), if_neg (by omega)]
  obtain ⟨hl0, hl10, _, _, hc1, hc2⟩ := chk_ok hok
  have H0 : Hid (chk l c = 0) := hok
  have HI : Hid (inB n 0 60 = true) := by show _ = _; simp [inB]; omega
  have hml : l.length ≤ maxLen := by unfold maxLen; omega
  have HLB : Hid ((bump l n).length = l.length) := by show _ = _; unfold bump setL; simp
  have hmlb : (bump l n).length ≤ maxLen := by rw [HLB.out]; exact hml
  clear hok
  obtain ⟨q0, q1, q3, q4, hz, hb1⟩ := boxes2 w (.slice (some ⟨b, off, none⟩) l.length cap) (.int .i64 c) (.slice none 0 0) (.int .i64 0) 24 24
  have q2 : ∀ o, ((w.alloc (Obj.cells #[.slice (some ⟨b, off, none⟩) l.length cap, .int .i64 c] 24)).alloc (Obj.cells #[.slice none 0 0, .int .i64 0] 24)).frozen? ⟨w.heap.size + 1, o, none⟩ = false := by intro o; go_simp
  go_enter Try.func43, Try.ntmps43
  go_upto_region 1 with fail
  generalize (w.alloc (Obj.cells #[.slice (some ⟨b, off, none⟩) l.length cap, .int .i64 c] 24)).alloc (Obj.cells #[.slice none 0 0, .int .i64 0] 24) = w1 at q0 q1 q2 q3 q4 hz hb1 ⊢
  have z1 : w.heap.size < w1.heap.size := by omega
  have z2 : w.heap.size + 1 < w1.heap.size := by omega
  clear hz
  go_wp2_with fail
  refine (checkMark_any _ _ l _ _ hml (h.below hb1 (Nat.le_refl _))).mono ?_
  rintro e w2 ⟨rfl, hb2⟩
  rw [H0.out]
  have p0 := (hb2.cell (p := ⟨w.heap.size, 0, none⟩) z1).trans q0
  have p1 := (hb2.cell (p := ⟨w.heap.size, 1, none⟩) z1).trans q1
  go_wp2_with fail
  refine (between_any _ _ _ _).mono ?_
  rintro e w2' ⟨rfl, rfl⟩
  rw [HI.out]
  go_wp2_with fail
  have hbb := hb1.thru hb2 hb1.size
  refine (afterOf_any b off _ l c n _ (h.below hbb (Nat.le_refl _)) H0.out h0 h60).mono ?_
  rintro e w3 ⟨g, cap2, rfl, hs3, hb3, _⟩
  have hb4 : Below w1.heap.size w1 (w3.alloc (Obj.cells #[.slice (some ⟨g, 0, none⟩) l.length cap2, .int .i64 (c + n)] 24)) := (hb2.thru hb3 hb2.size).alloc (Nat.le_trans hb2.size hb3.size) _
  have n0 : (w3.alloc (Obj.cells #[.slice (some ⟨g, 0, none⟩) l.length cap2, .int .i64 (c + n)] 24)).cell? ⟨w3.heap.size, 0, none⟩ = some (.slice (some ⟨g, 0, none⟩) l.length cap2) := by go_simp
  have n1 : (w3.alloc (Obj.cells #[.slice (some ⟨g, 0, none⟩) l.length cap2, .int .i64 (c + n)] 24)).cell? ⟨w3.heap.size, 1, none⟩ = some (.int .i64 (c + n)) := by go_simp
  have zN : w3.heap.size < (w3.alloc (Obj.cells #[.slice (some ⟨g, 0, none⟩) l.length cap2, .int .i64 (c + n)] 24)).heap.size := by simp
  have hs4 := hs3.below ((Below.refl _ w3).alloc (Nat.le_refl _) (Obj.cells #[.slice (some ⟨g, 0, none⟩) l.length cap2, .int .i64 (c + n)] 24)) (Nat.le_refl _)
  have gnz : g ≠ w.heap.size + 1 := by
    intro e
    rcases id hs3 with h1 | ⟨b1, o1, he, _, hc1⟩
    · have := HLB.out; rw [h1] at this; simp at this; omega
    · simp only [Option.some.injEq, Addr.mk.injEq] at he
      obtain ⟨rfl, rfl, _⟩ := he
      have hx := (hc1 0 (by rw [HLB.out]; exact hl0)).1
      rw [Nat.zero_mul, Nat.add_zero, e, (hb2.thru hb3 hb2.size).cell (p := ⟨w.heap.size + 1, 0, none⟩) z2, q3] at hx
      simp at hx
  clear hs3 hb3 hb2 p0 p1
  go_wp2_with fail
  generalize w3.alloc (Obj.cells #[.slice (some ⟨g, 0, none⟩) l.length cap2, .int .i64 (c + n)] 24) = V at hb4 n0 n1 zN hs4 ⊢
  refine (checkMark_n _ _ _ (bump l n) _ _ HLB.out.symm hmlb hs4).mono ?_
  rintro e w5 ⟨rfl, hb5⟩
  have hb6 := hb4.thru hb5 hb4.size
  have m0 := (hb5.cell (p := ⟨w3.heap.size, 0, none⟩) zN).trans n0
  have m1 := (hb5.cell (p := ⟨w3.heap.size, 1, none⟩) zN).trans n1
  have y2 := (hb6.cell (p := ⟨w.heap.size + 1, 0, none⟩) z2).trans q3
  have y3 := (hb6.cell (p := ⟨w.heap.size + 1, 1, none⟩) z2).trans q4
  have y4 : ∀ o, w5.frozen? ⟨w.heap.size + 1, o, none⟩ = false := fun o => (hb6.frozen (p := ⟨w.heap.size + 1, o, none⟩) z2).trans (q2 o)
  have hs5 := hs4.below hb5 (Nat.le_refl _)
  clear q0 q1 q2 q3 q4 n0 n1 hs4 hb5
  by_cases hk : chk (bump l n) (c + n) = 0
  · have hn' : Hid (nxt l c n = (bump l n, c + n, 0)) := by show _ = _; rw [hn.out, if_neg (by omega)]
    rw [hk]
    clear hk
    go_wp2_with fail
    refine bodyPost_ret (v := .tuple #[.agg #[.slice (some ⟨g, 0, none⟩) l.length cap2, .int .i64 (c + n)], .int .i64 0]) (by simp [results, Try.results43, go_sem, y2, y3]) rfl ?_
    refine ⟨some ⟨g, 0, none⟩, cap2, by rw [hn'.out]; show _ = Ending.returned (.tuple #[.agg #[.slice _ (bump l n).length _, _], _]); rw [HLB.out], ?_, ?_⟩
    · rw [hn'.out]
      exact (hs5.setOld gnz).setOld gnz
    · exact ((hb1.thru hb6 hb1.size).setCell (by simp) _).setCell (by simp) _
  · have hn' : Hid (nxt l c n = ([], 0, 3)) := by show _ = _; rw [hn.out, if_pos hk]
    have hk' : (chk (bump l n) (c + n) != 0) = true := by rw [bne_iff_ne]; exact hk
    clear hk
    go_wp2_with fail
    refine bodyPost_ret (v := .tuple #[.agg #[.slice none 0 0, .int .i64 0], .int .i64 3]) (by simp [results, Try.results43, go_sem, y2, y3]) rfl ?_
    refine ⟨none, 0, by rw [hn'.out]; rfl, Or.inl (by rw [hn'.out]), ?_⟩
    exact ((hb1.thru hb6 hb1.size).setCell (by simp) _).setCell (by simp) _

theorem nextOf_any (a : Option Addr) (cap : Nat) (l : List (Int × Int)) (c n : Int) (w : World) (hl : l.length ≤ maxLen) (h : StepsAt w a l) :
    Calls Try.prog 43 #[.agg #[.slice a l.length cap, .int .i64 c], .int .i64 n] w (NextGives w l c n) := by
  by_cases hok : chk l c = 0
  · by_cases hr : n < 0 ∨ 60 < n
    · exact nextOf_range a cap l c n w hl h hok hr
    · rcases id h with hs | ⟨b, off, rfl, _⟩
      · have := (chk_ok hok).1
        simp [hs] at this
      · exact nextOf_in b off cap l c n w h hok (by omega) (by omega)
  · exact nextOf_bad a cap l c n w hl h hok
end Go.Proofs.Ytmnmlojkedlmeab
