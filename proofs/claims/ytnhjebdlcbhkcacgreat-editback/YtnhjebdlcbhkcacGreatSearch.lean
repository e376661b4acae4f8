/- A range over a function whose body never leaves: what the iterator says of its list may speak of the world behind the loop. -/
import Derived.Test.YtnhjebdlcbhkcacGreatAtomCk
import Derived.RangeFuncNested
import Derived.RangeFuncBound
import Derived.RangeFuncCalls
import Derived.RangeFuncLeaves
import Derived.Shelf.Abstract
import Derived.Shelf.RegionOpen
import Derived.OwnWalkIn
import Derived.TacticsInMore
import Derived.LoopNIn
import Derived.LoopIn
import Derived.Maps.AppendAt
import Derived.Sort.CutIn
import Derived.Test.YtnhjebdlcbhkcacGreatNextOf
import Derived.Deep.RegionLawGrows
import Derived.Deep.RegionHeldLaw
import Derived.Test.YtnhjebdlcbhkcacGreatThere
namespace Go.Proofs.YtnhjebdlcbhkcacGreat
open Go.RowKit Go.Shelf

/-- an iterator that goes to its end: S says what came, and how the world lies then -/
def SeqW {α : Type} (F : Fence) (n : Nat) (P : Program) (g : Nat) (lb : Array Value) (encs : α → Array Value) (Kp : World → World → Prop) (S : List α → World → Prop) (N : Nat) (w : World) : Prop :=
  ∀ (l : Nat) (J : List α → World → Prop) (W : World), Below w.heap.size w W → AbidesFrom W.heap.size J →
    (∀ pre x W1, J pre W1 → pre.length < N → YieldAt F (n - 1) P l (encs x) W1 fun e W' => e = .returned (.bool true) ∧ J (pre ++ [x]) W' ∧ Kp W1 W') →
    J [] W → CallsIn F n P g (#[.func (.yield l) #[] #[]] ++ lb) W fun e W' => (∃ v, e = .returned v) ∧ ∃ xs, S xs W' ∧ J xs W'

/-- how a body that never leaves ends -/
def goesOn (B : Nat) (Kp : World → World → Prop) (R : World → Prop) (W : World) : Exit → Act → World → Prop
  | .normal, _, W' => KeepsFrom B W W' ∧ Kp W W' ∧ R W'
  | _, _, _ => False

theorem rangeFunc_w {F : Fence} {n : Nat} {P : Program} {α : Type} {g : Operand} {ps : Array Tmp} {assign body : Code} {Q : Exit → Act → World → Prop} {a : Act} {w : World}
    (hro : F.round = none) (h1 : 1 ≤ n) {gf : Nat} {lb : Array Value} (hg : a.eval g = .func (.func gf) #[] lb) (hFg : F.fn gf) (eg : ∀ args w, (callFunc gf args).run P w = .ok (.enter gf args) w)
    {encs : α → Array Value} {Kp : World → World → Prop} {S : List α → World → Prop} {N : Nat} {w0 : World} (hseq : SeqW F (n - 1) P gf lb encs Kp S N w0)
    (hKt : ∀ {A B C : World}, Kp A B → Kp B C → Kp A C) (hKb : ∀ (W : World) (l : Nat) (o o' : Obj), w.heap.size ≤ l → W.heap[l]? = some o → o.isCells = false → o.isWalk = false → Kp W (W.putObj l o'))
    (hS : OwnFrom w.heap.size S) (hb0 : Below w0.heap.size w0 w) (hps : ∀ x, (encs x).size = ps.size)
    (I : List α → World → Prop) (hI : OwnFrom w.heap.size I) (h0 : I [] w) (Ax : α → Act → World → Prop) (hAx : ∀ x a', OwnFrom w.heap.size (fun (_ : Unit) W => Ax x a' W))
    (hassign : ∀ (l : Nat) (pre : List α) (x : α) (W : World) (K : Act → World → Prop), I pre W → (∀ a' W', KeepsFrom w.heap.size W W' → Kp W W' → I pre W' → Ax x a' W' → K a' W') →
      assign.wpIn (F.inRound l) (n - 1 - 1) P (Exit.then K (fun _ _ _ => False)) { tmps := (ps.zip (encs x)).foldl (fun t (p, v) => t.setIfInBounds p v) a.tmps, defers := [] } W)
    (hbody : ∀ (l : Nat) (pre : List α) (x : α) (a' : Act) (W : World), w.heap.size ≤ l → I pre W → Ax x a' W → pre.length < N → body.wpIn (F.inRound l) (n - 1 - 1) P (goesOn w.heap.size Kp (I (pre ++ [x])) W) a' W)
    (hdone : ∀ (D : Nat) (xs : List α) (W : World), w.heap.size ≤ D → S xs W → I xs W → W.heap[D]? = some (.deferred (some [])) → Q .normal { a with defers := { target := .collected D, args := #[] } :: a.defers } W) :
    (Code.rangeFunc g ps assign body).wpIn F n P Q a w := by
  refine wpIn_rangeFunc ?_
  intro fn hfn
  rw [hro]
  -- the record of the loop, and the world in which the iterator is called
  obtain ⟨rc, hrc⟩ : ∃ rc : LoopState → Loop, rc = fun st => { state := st, pending := none, fn, tmps := a.tmps, params := ps, assign, body, defers := w.heap.size } := ⟨_, rfl⟩
  obtain ⟨W1, hW1⟩ : ∃ W1, (w.alloc (.deferred (some []))).alloc (.loop (rc .ready)) = W1 := ⟨_, rfl⟩
  have hz0 : (w.alloc (.deferred (some []))).heap.size = w.heap.size + 1 := by simp
  have hL1 : W1.heap[w.heap.size + 1]? = some (.loop (rc .ready)) := by
    rw [← hW1, ← hz0]; exact World.alloc_heap_new _ _
  have hK1 : W1.heap[w.heap.size]? = some (.deferred (some [])) := by
    rw [← hW1]; exact (Below.heap_alloc _ _ _ (by simp)).trans (World.alloc_heap_new w _)
  have hI1 : I [] W1 := by rw [← hW1]; exact hI.alloc _ (hI.alloc _ h0)
  have hb1 : Below w0.heap.size w0 W1 := by
    rw [← hW1]; exact hb0.trans ((((Below.refl _ w).alloc (Nat.le_refl _) _).alloc (by simp) _).mono hb0.size)
  have hsz : W1.heap.size = w.heap.size + 2 := by rw [← hW1]; simp
  refine ⟨w.heap.size + 1, [{ target := .collected w.heap.size, args := #[] }], W1, { target := .fn (.func gf) lb, args := #[.func (.yield (w.heap.size + 1)) #[] #[]] }, W1, gf,
    #[.func (.yield (w.heap.size + 1)) #[] #[]] ++ lb, W1, ?_, ?_, ?_, ?_, fun _ => h1, ?_⟩
  · rw [← hW1, hrc]; exact run_enterLoop_outer _ _ _ _ _
  · simp only [resolve, hg]
    simp [go_sem]
  · intro f' hf'; simp [Target.leads] at hf'; subst hf'; exact hFg
  · simp [invoke, go_sem, eg]
  · clear hW1
    have hr' : ∀ {A : World} {row : Option Nat}, (∀ r, row = some r → W1.heap.size ≤ r ∧ ∃ o : Obj, A.heap[r]? = some o ∧ o.isWalk = true) → (∀ r, row = some r → w.heap.size ≤ r ∧ ∃ o : Obj, A.heap[r]? = some o ∧ o.isCells = false) :=
      fun hr r e => by obtain ⟨hB, o, ho, hw⟩ := hr r e; exact ⟨by omega, o, ho, Obj.not_cells_of_walk hw⟩
    refine (hseq (w.heap.size + 1) (fun pre W => I pre W ∧ W.heap[w.heap.size + 1]? = some (.loop (rc .ready)) ∧ W.heap[w.heap.size]? = some (.deferred (some []))) W1 hb1 ?_ ?_ ⟨hI1, hL1, hK1⟩).mono ?_
    · intro s A B row hs hgr hr
      exact ⟨hI s A B row hs.1 hgr (hr' hr), (grownBy_keeps hgr (fun r e => (hr r e).2) hs.2.1 rfl).trans hs.2.1, (grownBy_keeps hgr (fun r e => (hr r e).2) hs.2.2 rfl).trans hs.2.2⟩
    · rintro pre x W ⟨hi, hl, hk⟩ hlen
      have hy := run_yield (P := P) (args := encs x) hl (by rw [hrc]; exact hps x)
      rw [hrc] at hy
      refine ⟨fn, _, assign, body, hy, roundIn_of_wpIn hfn (hassign _ pre x W _ hi ?_)⟩
      intro a' V kv kpv hiv hax
      have hlv := kv.same _ _ (Nat.le_succ _) hl rfl
      have hkv := kv.same _ _ (Nat.le_refl _) hk rfl
      have hlt : w.heap.size + 1 < V.heap.size := (Array.getElem?_eq_some_iff.1 hlv).1
      refine ⟨_, run_beginRound hlv (by rw [hrc]), ?_⟩
      have hl2 : (V.putObj (w.heap.size + 1) (.loop { rc .ready with state := .busy })).heap[w.heap.size + 1]? = some (.loop { rc .ready with state := .busy }) := World.putObj_heap_same hlt
      have hk2 : (V.putObj (w.heap.size + 1) (.loop { rc .ready with state := .busy })).heap[w.heap.size]? = some (.deferred (some [])) := (World.putObj_heap_other (by omega)).trans hkv
      refine wpIn_mono (hbody _ pre x a' _ (Nat.le_succ _) (hI.putObj _ hiv (Nat.le_succ _) hlv rfl) ((hAx x a').putObj (s := ()) _ hax (Nat.le_succ _) hlv rfl) hlen) ?_
      rintro e a3 V3 hp
      cases e with
      | normal =>
        obtain ⟨k3, kp3, hi3⟩ := hp
        have hl3 := k3.same _ _ (Nat.le_succ _) hl2 rfl
        have hk3 := k3.same _ _ (Nat.le_refl _) hk2 rfl
        have hend := run_endRound (P := P) none hl3
        rw [hrc] at hend
        refine ⟨_, _, hend, rfl, ⟨?_, ?_, ?_⟩, ?_⟩
        · exact hI.putObj _ hi3 (Nat.le_succ _) hl3 rfl
        · rw [hrc]; exact World.putObj_heap_same (Array.getElem?_eq_some_iff.1 hl3).1
        · exact (World.putObj_heap_other (by omega)).trans hk3
        · exact hKt kpv (hKt (hKt (hKb _ _ _ _ (Nat.le_succ _) hlv rfl rfl) kp3) (hKb _ _ _ _ (Nat.le_succ _) hl3 rfl rfl))
      | _ => exact hp.elim
    · rintro e W2 ⟨⟨v, rfl⟩, xs, hs, hi, hl, hk⟩
      have hend := run_endLoop (P := P) hl (by rw [hrc]; simp)
      rw [hrc] at hend
      exact ⟨none, _, hend, hdone _ xs _ (Nat.le_refl _) (hS.putObj _ hs (Nat.le_succ _) hl rfl) (hI.putObj _ hi (Nat.le_succ _) hl rfl) ((World.putObj_heap_other (by omega)).trans hk)⟩
end Go.Proofs.YtnhjebdlcbhkcacGreat

namespace Go.Proofs.YtnhjebdlcbhkcacGreat
open Go.RowKit

set_option maxRecDepth 100000 in
set_option maxHeartbeats 2000000 in
theorem freshMark_ok (b off n c : Nat) (l : List (Int × Int)) (ck : Int) (w : World) (hn : n = l.length) (hl : l.length ≤ maxLen) (hbig : l.length * 16 ≤ 140737488355328) (h : StepsAt w (some ⟨b, off, none⟩) l) :
    Calls Tryz.prog 78 #[.agg #[.slice (some ⟨b, off, none⟩) n c, .int .i64 ck]] w fun e w' => ∃ g cap, e = .returned (.agg #[.slice (some ⟨g, 0, none⟩) n cap, .int .i64 ck]) ∧ w'.ownsRow w.heap.size 99 2 (.slice (some ⟨g, 0, none⟩) n cap) n (flatS l) ∧ Below w.heap.size w w' := by
  subst hn
  obtain ⟨q0, q1, q3, q4, hz, hb1⟩ := boxes2 w (.slice (some ⟨b, off, none⟩) l.length c) (.int .i64 ck) (.slice none 0 0) (.int .i64 0) 46 46
  have q2 : ∀ o, ((w.alloc (Obj.cells #[.slice (some ⟨b, off, none⟩) l.length c, .int .i64 ck] 46)).alloc (Obj.cells #[.slice none 0 0, .int .i64 0] 46)).frozen? ⟨w.heap.size + 1, o, none⟩ = false := fun o => by go_simp
  go_enter Tryz.func78, Tryz.ntmps78
  go_upto_region 1 with fail
  generalize (w.alloc (Obj.cells #[.slice (some ⟨b, off, none⟩) l.length c, .int .i64 ck] 46)).alloc (Obj.cells #[.slice none 0 0, .int .i64 0] 46) = w1 at q0 q1 q2 q3 q4 hz hb1 ⊢
  have z1 : w.heap.size < w1.heap.size := by omega
  have z2 : w.heap.size + 1 < w1.heap.size := by omega
  clear hz
  have hBd : Below w1.heap.size w1 w1.drew := (Below.refl _ _).drew
  have hs1 := h.below hb1 (Nat.le_refl _)
  go_region_held_law (fun w' => w'.cell? ⟨w.heap.size, 0, none⟩ = some (.slice (some ⟨b, off, none⟩) l.length c) ∧ w'.cell? ⟨w.heap.size, 1, none⟩ = some (.int .i64 ck))
      (first | exact ⟨q0, q1⟩ | exact ⟨t0, t1⟩ | exact ⟨cell_other (by omega) (cell_other (by omega) t0), cell_other (by omega) (cell_other (by omega) t1)⟩)
      ((go_at_call 113; refine (clone_any b off _ _ l _ rfl hl hbig (hs1.below hBd (Nat.le_refl _))).mono ?_; rintro e w3 ⟨g, cap2, rfl, hown, hb3⟩; have hb3' : Below w1.heap.size w1 w3 := hBd.thru hb3 (Nat.le_refl _); have t0 := (hb3'.cell (p := ⟨w.heap.size, 0, none⟩) z1).trans q0; have t1 := (hb3'.cell (p := ⟨w.heap.size, 1, none⟩) z1).trans q1; have t3 := (hb3'.cell (p := ⟨w.heap.size + 1, 0, none⟩) z2).trans q3; have t4 := (hb3'.cell (p := ⟨w.heap.size + 1, 1, none⟩) z2).trans q4; have t2 := fun o => (hb3'.frozen (p := ⟨w.heap.size + 1, o, none⟩) z2).trans (q2 o)))
  go_wp2_with fail
  have hg := hown.lt g rfl
  have hgz : w1.heap.size ≤ g := hg.1
  have s3 : (w3.setCell ⟨w.heap.size + 1, 0, none⟩ (.slice (some ⟨g, 0, none⟩) l.length cap2)).cell? ⟨w.heap.size + 1, 1, none⟩ = some (.int .i64 0) := (World.cell?_setCell_other _ _ _ _ (by simp)).trans t4
  refine bodyPost_ret (v := .agg #[.slice (some ⟨g, 0, none⟩) l.length cap2, .int .i64 ck]) (by simp [results, Tryz.results78, go_sem, t3, s3]) rfl ⟨g, cap2, rfl, ?_, ?_⟩
  · exact ownsRow_setCell_other (ownsRow_setCell_other (owns_base hown (by simp; omega)) (by simp [Value.ownBlock]; omega) _) (by simp [Value.ownBlock]; omega) _
  · exact ((hb1.thru hb3' hb1.size).setCell (by simp) _).setCell (by simp) _

end Go.Proofs.YtnhjebdlcbhkcacGreat

namespace Go.Proofs.YtnhjebdlcbhkcacGreat
open Go.RowKit

set_option maxHeartbeats 1000000 in
theorem take1_any (a a' : Option Addr) (cap cap' : Nat) (l m : List (Int × Int)) (c d s : Int) (w : World) (hl : l.length ≤ maxLen) (hm : m.length ≤ maxLen) (h : StepsAt w a l) (h' : StepsAt w a' m) :
    Calls Tryz.prog 132 #[.agg #[.slice a l.length cap, .int .i64 c, .int .u8 s], .agg #[.slice a' m.length cap', .int .i64 d]] w fun e w' => e = .returned (.int .i64 (ordM l c m d)) ∧ Below w.heap.size w w' := by
  have hb0 : Below w.heap.size w ((w.alloc (Obj.cells #[.slice a l.length cap, .int .i64 c, .int .u8 s] 66)).alloc (Obj.cells #[.slice a' m.length cap', .int .i64 d] 46)) := ((Below.refl _ _).alloc (Nat.le_refl _) _).alloc (by simp) _
  go_enter Tryz.func132, Tryz.ntmps132
  go_wp2_with (go_at_call 46; refine (order_any _ _ _ _ l m _ _ _ hl hm (by exact h.below hb0 (Nat.le_refl _)) (by exact h'.below hb0 (Nat.le_refl _))).mono ?_; rintro e w' ⟨rfl, hb⟩)
  go_ret
  exact ⟨rfl, hb0.thru hb hb0.size⟩

set_option maxRecDepth 100000 in
set_option maxHeartbeats 2000000 in
theorem search_any (a a' : Option Addr) (cap cap' : Nat) (l : List At) (m : List (Int × Int)) (d : Int) (w : World) (hl : l.length ≤ 1000) (hm : m.length ≤ maxLen) (h : AtomsAt w a l) (h' : StepsAt w a' m) (hp : Parts l m d) :
    Calls Tryz.prog 87 #[.slice a l.length cap, .agg #[.slice a' m.length cap', .int .i64 d], .func (.func 132) #[] #[]] w fun e w' => ∃ i : Nat, i ≤ l.length ∧ Cut l m d i i ∧ ∃ f : Bool, e = .returned (.tuple #[.int .i64 i, .bool f]) ∧ (f = true ↔ ∃ h : i < l.length, ordM l[i].path l[i].clock m d = 0) ∧ Below w.heap.size w w' := by
  have HP := hidE hp
  clear hp
  go_enter Tryz.func87, Tryz.ntmps87
  go_upto_region 1 with fail
  have hbA : Below w.heap.size w (w.alloc (Obj.cells #[.slice a' m.length cap', .int .i64 d] 46)) := (Below.refl _ _).alloc (Nat.le_refl _) _
  have q0 : (w.alloc (Obj.cells #[.slice a' m.length cap', .int .i64 d] 46)).cell? ⟨w.heap.size, 0, none⟩ = some (.slice a' m.length cap') := by simp
  have q1 : (w.alloc (Obj.cells #[.slice a' m.length cap', .int .i64 d] 46)).cell? ⟨w.heap.size, 1, none⟩ = some (.int .i64 d) := by simp
  have z1 : w.heap.size < (w.alloc (Obj.cells #[.slice a' m.length cap', .int .i64 d] 46)).heap.size := by simp
  generalize w.alloc (Obj.cells #[.slice a' m.length cap', .int .i64 d] 46) = w1 at hbA q0 q1 z1 ⊢
  go_wp2_with fail
  go_loopw [9, 10] (fun i j wr => ∃ x y : Nat, x ≤ y ∧ y ≤ l.length ∧ i = .int .i64 x ∧ j = .int .i64 y ∧ Cut l m d x y ∧ Below w1.heap.size w1 wr) (fun i j _ => (intOf j).toNat - (intOf i).toNat)
  case atStart => exact ⟨0, l.length, Nat.zero_le _, Nat.le_refl _, rfl, rfl, ⟨fun t _ h => by omega, fun t h h' => by omega⟩, Below.refl _ _⟩
  case round =>
    obtain ⟨x, y, hxy, hy, rfl, rfl, hcut, hb⟩ := hrel
    have HCut := hidE hcut
    clear hcut
    have hbW := hbA.thru hb hbA.size
    by_cases hlt : x < y
    · have hi1 : (x : Int) < y := by omega
      have hh : (x + y) / 2 < l.length := by omega
      go_upto_region 5 with fail
      rw [show ((x : Int) + y) / 2 = (((x + y) / 2 : Nat) : Int) by omega]
      have hz1 : x ≤ (x + y) / 2 := by omega
      have hz2 : (x + y) / 2 < y := by omega
      generalize (x + y) / 2 = z at hz1 hz2 hh ⊢
      rcases h.below hbW (Nat.le_refl _) with hs | ⟨ab, ao, rfl, hab, hc⟩
      · simp [hs] at hh
      obtain ⟨p, cp, c0, c1, c2, hst, hle, _⟩ := hc z hh
      have hi2 : (z : Int) < l.length := by omega
      have HZ : Hid (∀ o, o = ordM l[z].path l[z].clock m d → (o < 0 → Cut l m d (z + 1) y) ∧ (0 ≤ o → Cut l m d x z)) := by
        intro o ho
        subst ho
        refine ⟨fun h0 => ⟨fun t ht htz => ?_, HCut.out.2⟩, fun h0 => ⟨HCut.out.1, fun t ht htz => ?_⟩⟩
        · by_cases e : t = z
          · subst e; exact h0
          · exact HP.out t z hh (by omega) h0
        · by_cases e : t = z
          · subst e; exact h0
          · rcases Int.lt_or_le (ordM l[t].path l[t].clock m d) 0 with hn | hn
            · have := HP.out z t ht (by omega) hn
              omega
            · exact hn
      generalize l[z].path = pk at *
      generalize l[z].clock = ck at *
      generalize l[z].sign = sk at *
      have k0 := cell_regrown c0
      have k1 := cell_regrown c1
      have k2 := cell_regrown c2
      have k3 := cell_regrown ((hb.cell (p := ⟨w.heap.size, 0, none⟩) z1).trans q0)
      have k4 := cell_regrown ((hb.cell (p := ⟨w.heap.size, 1, none⟩) z1).trans q1)
      have S1 := hidE (fun d os => hst.below (below_regrown wr d os) (Nat.le_refl _))
      have S2 := hidE (fun d os => (h'.below hbW (Nat.le_refl _)).below (below_regrown wr d os) (Nat.le_refl _))
      clear hc h hst h'
      refine wp_region_quiet_below (by kernel_rfl) (by kernel_rfl) ?_
      repeat (first | go_big_quiet_step ((go_at_call 132; exact Calls.regrown_of (take1_any _ _ _ _ pk m _ _ _ _ hle hm (S1.out _ _) (S2.out _ _)))) | quiet_step ((go_at_call 132; exact Calls.regrown_of (take1_any _ _ _ _ pk m _ _ _ _ hle hm (S1.out _ _) (S2.out _ _)))))
      refine wpQuiet_nil ?_
      intro _ hw'
      obtain ⟨⟨dq, osq⟩, hw''⟩ := hw'
      subst hw''
      obtain ⟨HZ1, HZ2⟩ := HZ.out _ rfl
      by_cases ho : ordM pk ck m d < 0
      · have HC2 := hidE (HZ1 ho)
        clear HZ1 HZ2
        go_wp2
        go_roundw
        case rel => exact ⟨z + 1, y, by omega, hy, by go_num, rfl, HC2.out, hb.thru (below_regrown _ _ _) hb.size⟩
        case measure => simp [intOf]; omega
      · have HC2 := hidE (HZ2 (by omega))
        clear HZ1 HZ2
        go_wp2
        go_roundw
        case rel => exact ⟨x, z, by omega, by omega, rfl, rfl, HC2.out, hb.thru (below_regrown _ _ _) hb.size⟩
        case measure => simp [intOf]; omega
    · have hxe : x = y := by omega
      subst hxe
      by_cases hlen : x < l.length
      · rcases h.below hbW (Nat.le_refl _) with hs | ⟨ab, ao, rfl, hab, hc⟩
        · simp [hs] at hlen
        obtain ⟨p, cp, c0, c1, c2, hst, hle, _⟩ := hc x hlen
        have HO : Hid (∃ o, o = ordM l[x].path l[x].clock m d) := ⟨_, rfl⟩
        have HE : Hid ((∃ h : x < l.length, ordM l[x].path l[x].clock m d = 0) ↔ ordM l[x].path l[x].clock m d = 0) := by
          constructor
          · rintro ⟨_, h⟩; exact h
          · intro h; exact ⟨hlen, h⟩
        have hi1 : decide ((x : Int) < l.length) = true := by simpa using hlen
        have hi2 : (x : Int) < l.length := by omega
        generalize hpk : l[x].path = pk at *
        generalize hck : l[x].clock = ck at *
        generalize l[x].sign = sk at *
        have HPK := hidE hpk
        have HCK := hidE hck
        have k0 := cell_regrown c0
        have k1 := cell_regrown c1
        have k2 := cell_regrown c2
        have k3 := cell_regrown ((hb.cell (p := ⟨w.heap.size, 0, none⟩) z1).trans q0)
        have k4 := cell_regrown ((hb.cell (p := ⟨w.heap.size, 1, none⟩) z1).trans q1)
        have S1 := hidE (fun d os => hst.below (below_regrown wr d os) (Nat.le_refl _))
        have S2 := hidE (fun d os => (h'.below hbW (Nat.le_refl _)).below (below_regrown wr d os) (Nat.le_refl _))
        clear hc h hst h' hpk hck
        go_wp2_with fail
        refine wp_region_quiet_below (by kernel_rfl) (by kernel_rfl) ?_
        repeat (first | go_big_quiet_step ((go_at_call 132; exact Calls.regrown_of (take1_any _ _ _ _ pk m _ _ _ _ hle hm (S1.out _ _) (S2.out _ _)))) | quiet_step ((go_at_call 132; exact Calls.regrown_of (take1_any _ _ _ _ pk m _ _ _ _ hle hm (S1.out _ _) (S2.out _ _)))))
        refine wpQuiet_nil ?_
        intro _ hw'
        obtain ⟨⟨dq, osq⟩, hw''⟩ := hw'
        subst hw''
        go_wp2
        refine bodyPost_ret (v := .tuple #[.int .i64 x, .bool (ordM pk ck m d == 0)]) (by simp [results, Tryz.results87, go_sem]) rfl ?_
        refine ⟨x, by omega, HCut.out, _, rfl, ?_, hbW.thru (below_regrown _ _ _) hbW.size⟩
        rw [beq_iff_eq]
        constructor
        · intro e; exact ⟨hlen, by rw [HPK.out, HCK.out]; exact e⟩
        · rintro ⟨_, e⟩; rw [HPK.out, HCK.out] at e; exact e
      · have hi1 : decide ((x : Int) < l.length) = false := by simpa using hlen
        have HN : Hid ((false = true) ↔ ∃ h : x < l.length, ordM l[x].path l[x].clock m d = 0) := by
          constructor
          · intro h; cases h
          · rintro ⟨h, _⟩; exact absurd h hlen
        go_wp2_with fail
        refine wp_region_quiet_below (by kernel_rfl) (by kernel_rfl) ?_
        repeat (first | go_big_quiet_step (fail) | quiet_step (fail))
        refine wpQuiet_nil ?_
        intro _ hw'
        obtain ⟨⟨dq, osq⟩, hw''⟩ := hw'
        subst hw''
        go_wp2
        refine bodyPost_ret (v := .tuple #[.int .i64 x, .bool false]) (by simp [results, Tryz.results87, go_sem]) rfl ?_
        exact ⟨x, by omega, HCut.out, _, rfl, HN.out, hbW.thru (below_regrown _ _ _) hbW.size⟩
end Go.Proofs.YtnhjebdlcbhkcacGreat
