/- Contract of the reference's SameInts. -/
import Derived.Test.YtnhjebdlcbhkcafIntsC
import Derived.Test.YtnhjebdlcbhkcafOwnsF
import Derived.Test.YtnhjebdlcbhkcafPutPu
import Derived.Test.YtnhjebdlcbhkcafRunCk
import Derived.Test.YtnhjebdlcbhkcafPutC
import Derived.Test.YtnhjebdlcbhkcafWrNote
import Derived.Test.YtnhjebdlcbhkcafRfLaw
namespace Go.Proofs.Ytnhjebdlcbhkcaf
open Go.RowKit

set_option maxRecDepth 100000 in
set_option maxHeartbeats 1000000 in
theorem sameInts_any (a a' : Option Addr) (cap cap' : Nat) (l m : List Int) (w : World) (hl : l.length ≤ maxLen) (hl' : m.length ≤ maxLen) (h : IntsAt w a l) (h' : IntsAt w a' m) :
    Calls Try.prog 33 #[.slice a l.length cap, .slice a' m.length cap'] w fun e w' => e = .returned (.bool (decide (l = m))) ∧ Below w.heap.size w w' := by
  unfold maxLen at hl hl'
  by_cases hlm : l.length = m.length
  case neg =>
    have HF : Hid (decide (l = m) = false) := decide_eq_false (fun e => hlm (by rw [e]))
    have hd : ((l.length : Int) != m.length) = true := by rw [bne_iff_ne]; omega
    go_enter Try.func33, Try.ntmps33
    go_wp2_with fail
    go_ret
    exact ⟨ret_bool HF.out.symm, Below.refl _ _⟩
  have HL := hidE hlm
  go_enter Try.func33, Try.ntmps33
  generalize hmn : m.length = mn at hlm hl'
  have HM := hidE hmn
  clear hmn
  subst hlm
  go_wp2_with fail
  go_loopw [5] (fun i wr => ∃ k : Nat, k ≤ l.length ∧ i = .int .i64 k ∧ l.take k = m.take k ∧ Below w.heap.size w wr) (fun i _ => l.length - (intOf i).toNat)
  case atStart => exact ⟨0, Nat.zero_le _, rfl, by simp, Below.refl _ _⟩
  case round =>
    obtain ⟨k, hk, rfl, hck, hb⟩ := hrel
    have HK := hidE hck
    clear hck
    by_cases hlt : k < l.length
    · have hlt' : k < m.length := by have := HM.out; omega
      rcases h.below hb with e | ⟨b, o, rfl, hbl, hc⟩
      · rw [e] at hlt; simp at hlt
      rcases h'.below hb with e | ⟨b', o', rfl, hbl', hc'⟩
      · rw [e] at hlt'; simp at hlt'
      have c0 := hc k hlt
      have c1 := hc' k hlt'
      have HN : Hid (l[k] = m[k] → l.take (k + 1) = m.take (k + 1)) := fun e => by
        rw [List.take_succ_eq_append_getElem hlt, List.take_succ_eq_append_getElem hlt', HK.out, e]
      have HX : Hid (l[k] ≠ m[k] → decide (l = m) = false) := fun e => decide_eq_false (fun e1 => e (by simp [e1]))
      have hi1 : (k : Int) < l.length := by omega
      clear hc hc' h h'
      generalize l[k] = x at c0 HN HX
      generalize m[k] = y at c1 HN HX
      have k0 := cell_regrown c0
      have k1 := cell_regrown c1
      go_upto_region 6 with fail
      refine wp_region_quiet_below (by kernel_rfl) (by kernel_rfl) ?_
      repeat (first | go_big_quiet_step (fail) | quiet_step (fail))
      refine wpQuiet_nil ?_
      intro _ hw'
      obtain ⟨⟨dq, osq⟩, hw''⟩ := hw'
      subst hw''
      replace hb := hb.thru (below_regrown wr dq osq) hb.size
      by_cases hxy : x = y
      · subst hxy
        go_wp2_with fail
        go_roundw
        case rel => exact ⟨k + 1, by omega, by go_num, HN.out rfl, hb⟩
        case measure => simp [intOf]; omega
      · have hd : (x != y) = true := by rw [bne_iff_ne]; exact hxy
        have HF := hidE (HX.out hxy)
        clear hxy HX HN
        go_wp2_with fail
        go_ret
        exact ⟨ret_bool HF.out.symm, hb⟩
    · have HF : Hid (decide (l = m) = true) := decide_eq_true (by
        have := HK.out
        rw [List.take_of_length_le (by omega), List.take_of_length_le (by have := HM.out; omega)] at this
        exact this)
      go_wp2_with fail
      go_ret
      exact ⟨ret_bool HF.out.symm, hb⟩
end Go.Proofs.Ytnhjebdlcbhkcaf

namespace Go.Proofs.Ytnhjebdlcbhkcaf

theorem okL_chk {l : List At} (h : OkL l) : chkL l = 0 := by
  have key : ∀ (l : List At) (prev : Option At), (∀ x ∈ l, chk x.path x.clock = 0 ∧ isSignB x.sign = true) → l.Pairwise (fun x y => ordA x y < 0) → (∀ y, prev = some y → ∀ x ∈ l, ordA y x < 0) → chkFrom prev l = 0 := by
    intro l
    induction l with
    | nil => intro _ _ _ _; rfl
    | cons x l ih =>
      intro prev h1 h2 h3
      have p := List.pairwise_cons.1 h2
      have hx := h1 x (List.mem_cons_self ..)
      have hc : chkAt prev x = 0 := by
        unfold chkAt
        rw [if_neg (by rw [hx.1]; decide), if_neg (by rw [hx.2]; decide)]
        cases prev with
        | none => rfl
        | some y =>
          have := h3 y rfl x (List.mem_cons_self ..)
          simp only
          rw [if_neg (by omega)]
      rw [chkFrom_cons, if_neg (by rw [hc]; decide)]
      exact ih (some x) (fun y hy => h1 y (List.mem_cons_of_mem _ hy)) p.2 (fun y hy z hz => by cases hy; exact p.1 z hz)
  unfold chkL
  have := h.len
  rw [if_neg (by omega)]
  exact key l none h.each h.rise (fun y hy => by cases hy)

theorem putL_ok {l m : List At} (h : OkL l) (h' : OkL m) (hn : (putL l m).length ≤ 300) : OkL (putL l m) := by
  obtain ⟨a1, a2⟩ := putL_least h.rise m
  refine ⟨hn, fun x hx => ?_, a1⟩
  rcases List.mem_append.1 ((a2 x).1 hx).1 with g | g
  · exact h.each x g
  · exact h'.each x g
end Go.Proofs.Ytnhjebdlcbhkcaf

namespace Go.Proofs.Ytnhjebdlcbhkcaf
open Go.RowKit

/-- is the second mark what comes next behind the first? -/
def flw (pa : List (Int × Int)) (ca : Int) (pb : List (Int × Int)) (cb : Int) : Bool := ordM (bump pa 1) (ca + 1) pb cb == 0

end Go.Proofs.Ytnhjebdlcbhkcaf

namespace Go.Proofs.Ytnhjebdlcbhkcaf
open Go.RowKit

/-- the part of a list from f, so many -/
def part (l : List At) (f n : Nat) : List At := (l.drop f).take n

theorem part_len {l : List At} {f n : Nat} (h : f + n ≤ l.length) : (part l f n).length = n := by unfold part; simp; omega
theorem part_get {l : List At} {f n i : Nat} (h : f + n ≤ l.length) (hi : i < n) : (part l f n)[i]'(by rw [part_len h]; exact hi) = l[f + i] := by unfold part; simp

theorem AtomsAt.part {w : World} {b off : Nat} {l : List At} {f n : Nat} (h : AtomsAt w (some ⟨b, off, none⟩) l) (hfn : f + n ≤ l.length) : AtomsAt w (some ⟨b, off + f * 3, none⟩) (part l f n) := by
  rcases h with e | ⟨b', off', e, hb, hc⟩
  · left; unfold Go.Proofs.Ytnhjebdlcbhkcaf.part; rw [e]; simp
  · cases e
    refine Or.inr ⟨b, off + f * 3, rfl, hb, fun i hi => ?_⟩
    rw [part_len hfn] at hi
    rw [part_get hfn hi]
    have := hc (f + i) (by omega)
    rwa [show off + (f + i) * 3 = off + f * 3 + i * 3 by omega] at this

theorem OkL.part {l : List At} (h : OkL l) (f n : Nat) : OkL (part l f n) := by
  refine ⟨?_, fun x hx => h.each x (List.mem_of_mem_drop (List.mem_of_mem_take hx)), List.Pairwise.sublist ((List.take_sublist _ _).trans (List.drop_sublist _ _)) h.rise⟩
  have := h.len
  unfold Go.Proofs.Ytnhjebdlcbhkcaf.part
  simp; omega

end Go.Proofs.Ytnhjebdlcbhkcaf

namespace Go.Proofs.Ytnhjebdlcbhkcaf
open Go.RowKit Go.Shelf
attribute [local go_sem] Oper.semAt_some

/-- does the piece from f go on behind place k? -/
def goesB (l : List At) (f k : Nat) : Bool := decide (k + 1 < l.length) && (decide (k + 1 - f < 60) && (match l[k]?, l[k + 1]? with
  | some x, some y => flw x.path x.clock y.path y.clock
  | _, _ => false))
/-- behind k places: the pieces that are shut, and where the open one begins -/
def pst (l : List At) : Nat → List (Nat × Nat) × Nat
  | 0 => ([], 0)
  | k + 1 => if goesB l (pst l k).2 k = true then pst l k else ((pst l k).1 ++ [((pst l k).2, k + 1)], k + 1)

theorem pst_le (l : List At) : ∀ k, (pst l k).2 ≤ k
  | 0 => Nat.le_refl _
  | k + 1 => by
    have := pst_le l k
    unfold pst
    split
    · omega
    · exact Nat.le_refl _

/-- a piece of the list -/
abbrev Pc (l : List At) := { p : Nat × Nat // p.1 < p.2 ∧ p.2 ≤ l.length }
def encP (b off cap : Nat) {l : List At} (x : Pc l) : Array Value := #[.slice (some ⟨b, off + x.1.1 * 3, none⟩) (x.1.2 - x.1.1) (cap - x.1.1)]

/-- what a round keeps: all below n₀, and every cell but those of two types -/
def KpX (t1 t2 : TypeId) (n₀ : Nat) (W W' : World) : Prop := Below n₀ W W' ∧ ∀ (k : Nat) (cur : Array Value) (t : TypeId), t ≠ t1 → t ≠ t2 → W.heap[k]? = some (Obj.cells cur t (0, 0)) → W'.heap[k]? = some (Obj.cells cur t (0, 0))

theorem KpX.trans {t1 t2 : TypeId} {n₀ : Nat} {A B C : World} (h : KpX t1 t2 n₀ A B) (k : KpX t1 t2 n₀ B C) : KpX t1 t2 n₀ A C := ⟨h.1.trans k.1, fun i cur t h1 h2 h3 => k.2 i cur t h1 h2 (h.2 i cur t h1 h2 h3)⟩
theorem KpX.put {t1 t2 : TypeId} {n₀ B : Nat} (hn : n₀ ≤ B) (W : World) (l : Nat) (o o' : Obj) (hl : B ≤ l) (h : W.heap[l]? = some o) (hc : o.isCells = false) (_ : o.isWalk = false) : KpX t1 t2 n₀ W (W.putObj l o') := by
  refine ⟨⟨rfl, rfl, rfl, by simp [World.putObj], fun k hk => World.putObj_heap_other (by omega)⟩, fun k cur t _ _ hk => ?_⟩
  by_cases e : k = l
  · subst e; rw [h] at hk; cases hk; cases hc
  · rw [World.putObj_heap_other e]; exact hk
theorem KpX.below {t1 t2 : TypeId} {n₀ : Nat} {W W' : World} (hb : Below W.heap.size W W') (hn : n₀ ≤ W.heap.size) : KpX t1 t2 n₀ W W' := by
  refine ⟨hb.mono hn, fun k cur t _ _ hk => ?_⟩
  have hlt : k < W.heap.size := (Array.getElem?_eq_some_iff.1 hk).1
  rw [hb.block k hlt]; exact hk
theorem cell_ofX {W : World} {B j : Nat} {cs : Array Value} {t : TypeId} {v : Value} (h : W.heap[B]? = some (.cells cs t (0, 0))) (hj : cs[j]? = some v) : W.cell? ⟨B, j, none⟩ = some v := by
  simp [World.cell?, h, hj]
theorem below_grownX {W W' : World} (hb : Below W.heap.size W W') : W.grownBy W' none := ⟨hb.os, hb.tape, hb.output, hb.size, fun k hk _ => hb.block k hk⟩

/-- atoms that lie below n₀ lie as they lay -/
theorem AtomsAt.low {n₀ : Nat} {w w' : World} {a : Option Addr} {l : List At} (h : ∀ W, Below n₀ w W → AtomsAt W a l) (hb : Below n₀ w w') : AtomsAt w' a l := h w' hb

end Go.Proofs.Ytnhjebdlcbhkcaf
