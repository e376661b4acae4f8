/- Contract of mark.Next and of slices.Clone at steps. -/
import Derived.Test.YtnhjebdlcbhkcafOrderC
import Derived.Deep.DeepCutAuto
namespace Go.Proofs.Ytnhjebdlcbhkcaf
open Go.RowKit

def flatS (l : List (Int × Int)) : List Value := l.flatMap fun s => [.int .i64 s.1, .int .i64 s.2]
theorem flatS_length (l : List (Int × Int)) : (flatS l).length = l.length * 2 := by
  unfold flatS; induction l with
  | nil => rfl
  | cons s l ih => simp only [List.flatMap_cons, List.length_append, ih, List.length_cons, List.length_nil]; omega
theorem flatS_get (l : List (Int × Int)) : ∀ i (h : i < l.length), (flatS l)[i * 2]? = some (.int .i64 l[i].1) ∧ (flatS l)[i * 2 + 1]? = some (.int .i64 l[i].2) := by
  induction l with
  | nil => intro i h; simp at h
  | cons s l ih =>
    intro i h
    match i with
    | 0 => exact ⟨rfl, rfl⟩
    | i + 1 =>
      have := ih i (by simpa using h)
      have e : (i + 1) * 2 = i * 2 + 2 := by omega
      rw [e]
      exact this
theorem flatS_one (l : List (Int × Int)) : ∀ u ∈ flatS l, u.oneCell' = true := by
  intro u hu
  unfold flatS at hu
  rw [List.mem_flatMap] at hu
  obtain ⟨s, _, hs⟩ := hu
  simp at hs
  rcases hs with rfl | rfl <;> rfl

theorem flatS_set (l : List (Int × Int)) : ∀ i (h : i < l.length) (d : Int), (flatS l).set (i * 2) (.int .i64 d) = flatS (l.set i (d, l[i].2)) := by
  induction l with
  | nil => intro i h; simp at h
  | cons s l ih =>
    intro i h d
    match i with
    | 0 => rfl
    | i + 1 =>
      have := ih i (by simpa using h) d
      have e : (i + 1) * 2 = i * 2 + 2 := by omega
      rw [e]
      show (Value.int .i64 s.1 :: .int .i64 s.2 :: flatS l).set (i * 2 + 2) (.int .i64 d) = _
      simp only [List.set_cons_succ, this, List.getElem_cons_succ]
      rfl

theorem owns_base {w : World} {base base' : Nat} {e : TypeId} {size : Nat} {v : Value} {n : Nat} {xs : List Value} (h : w.ownsRow base e size v n xs) (hb : base' ≤ base) : w.ownsRow base' e size v n xs := by
  obtain ⟨h1, h2⟩ := h
  refine ⟨h1, ?_⟩
  rcases h2 with h2 | ⟨g, cap, cur, hv, hg, r⟩
  · exact Or.inl h2
  · exact Or.inr ⟨g, cap, cur, hv, Nat.le_trans hb hg, r⟩

theorem StepsAt.cells {w : World} {b off : Nat} {l : List (Int × Int)} (h : StepsAt w (some ⟨b, off, none⟩) l) : ∀ j u, (flatS l)[j]? = some u → w.cell? ⟨b, off + j, none⟩ = some u := by
  intro j u hj
  rcases h with rfl | ⟨b', off', he, hlt, hc⟩
  · simp [flatS] at hj
  · simp only [Option.some.injEq, Addr.mk.injEq] at he
    obtain ⟨rfl, rfl, _⟩ := he
    have hjl : j < (flatS l).length := by
      rcases Nat.lt_or_ge j (flatS l).length with h | h
      · exact h
      · rw [List.getElem?_eq_none h] at hj; simp at hj
    rw [flatS_length] at hjl
    have g := flatS_get l (j / 2) (by omega)
    have c := hc (j / 2) (by omega)
    rcases Nat.mod_two_eq_zero_or_one j with h2 | h2
    · have e : j / 2 * 2 = j := by omega
      rw [e] at g c
      rw [g.1] at hj
      rw [← hj]; exact c.1
    · have e : j / 2 * 2 + 1 = j := by omega
      rw [show off + j / 2 * 2 + 1 = off + j from by omega] at c
      rw [e] at g
      rw [g.2] at hj
      rw [← hj]; exact c.2

theorem stepsAt_owns {w : World} {base g n cap : Nat} {l : List (Int × Int)} (h : w.ownsRow base 77 2 (.slice (some ⟨g, 0, none⟩) n cap) n (flatS l)) (hn : n = l.length) : StepsAt w (some ⟨g, 0, none⟩) l := by
  subst hn
  by_cases e : l = []
  · exact Or.inl e
  refine Or.inr ⟨g, 0, rfl, (h.lt g rfl).2, fun i hi => ?_⟩
  have c := flatS_get l i hi
  rw [Nat.zero_add]
  exact ⟨(h.cellAt _ (by omega)).trans c.1, (h.cellAt _ (by omega)).trans c.2⟩

theorem Try.info77 : ∃ i, Try.prog.info? 77 = some i ∧ i.zero = some (.agg #[.int .i64 0, .int .i64 0]) ∧ i.size = 2 ∧ i.bytes = 16 := by
  have h : (Try.prog.info? 77).map (fun i => (i.zero, i.size, i.bytes)) = some (some (.agg #[.int .i64 0, .int .i64 0]), 2, 16) := by kernel_rfl
  rw [Option.map_eq_some_iff] at h
  obtain ⟨i, hi, he⟩ := h
  simp only [Prod.mk.injEq] at he
  exact ⟨i, hi, he⟩

set_option maxHeartbeats 400000 in
theorem clone_any (b off n c : Nat) (l : List (Int × Int)) (w : World) (hn : n = l.length) (hl : l.length ≤ maxLen) (hbig : l.length * 16 ≤ 140737488355328) (h : StepsAt w (some ⟨b, off, none⟩) l) :
    Calls Try.prog 49 #[.slice (some ⟨b, off, none⟩) n c] w fun e w' => ∃ g cap, e = .returned (.slice (some ⟨g, 0, none⟩) n cap) ∧ w'.ownsRow w.heap.size 77 2 (.slice (some ⟨g, 0, none⟩) n cap) n (flatS l) ∧ Below w.heap.size w w' := by
  subst hn
  obtain ⟨i0, hi, hz0, hz1, hz2⟩ := Try.info77
  have A : Hid (∀ j u, (flatS l)[j]? = some u → w.cell? ⟨b, off + j, none⟩ = some u) := h.cells
  have q22 : ∀ (w : World) (a : Option Addr) (n c n' c' : Nat), (binOp .eql 48 (.slice a n c) (.slice none n' c')).run Try.prog w = .ok (.bool a.isNone) w := fun w a n c n' c' => Lib.run_eql_slice_nil w _ _ a n c n' c' Try.underlying48
  clear h
  go_enter Try.func49, Try.ntmps49
  go_wp2_with (at_builtin; refine wpList_append_own _ rfl _ _ 48 rfl w.heap.size 77 i0 (.agg #[.int .i64 0, .int .i64 0]) 2 16 Try.underlying48 hi hz0 hz1 hz2 rfl (by decide) _ _ _ rfl (World.ownsRow_made w #[] 0 (Nat.le_refl _) (Nat.zero_le _) (by simp)) ⟨b, off, none⟩ l.length c (flatS l) rfl ?qc1 ?qc2 ?qc3 ?qc4 ?qc5 ?qc6 ?_)
  case qc1 => exact flatS_length l
  case qc2 =>
    intro j u hj
    rw [Addr.add_lit]
    exact Lib.cell?_alloc_some _ (A.out j u hj)
  case qc3 => exact flatS_one l
  case qc4 => rw [Nat.zero_add]; exact hl
  case qc5 => rw [Nat.zero_add]; exact hbig
  case qc6 => simp
  intro v' w1 hown hgrow hnil
  go_wp2
  go_ret
  have hb : Below w.heap.size w w1 := ((Below.refl _ w).alloc (Nat.le_refl _) _).grown hgrow (by simp) (by intro k hk; simp [Value.ownBlock] at hk; omega)
  have hown' := hown
  obtain ⟨_, h2⟩ := hown'
  rcases h2 with ⟨h2, _⟩ | ⟨g, cap, cur, hv, _⟩
  · exact absurd h2 hnil
  · subst hv
    exact ⟨g, cap, rfl, hown, hb⟩

def setL (l : List (Int × Int)) (s : Int × Int) : List (Int × Int) := l.set (l.length - 1) s
def bump (l : List (Int × Int)) (n : Int) : List (Int × Int) := setL l ((lastS l).1 + n, (lastS l).2)
/-- what Next of a mark answers -/
def nxt (l : List (Int × Int)) (c n : Int) : List (Int × Int) × Int × Int :=
  if chk l c ≠ 0 then ([], 0, chk l c) else if n < 0 ∨ 60 < n then ([], 0, 3) else if chk (bump l n) (c + n) ≠ 0 then ([], 0, 3) else (bump l n, c + n, 0)

theorem chk_ok {l : List (Int × Int)} {c : Int} (h : chk l c = 0) : 0 < l.length ∧ l.length ≤ 10 ∧ okSteps l = true ∧ (lastS l).1 ≠ 0 ∧ 1 ≤ c ∧ c ≤ 10000 := by
  unfold chk at h
  split at h
  · omega
  · split at h
    · omega
    · split at h
      · rename_i h1 h2 h3
        simp [inB] at h3
        exact ⟨by omega, by omega, h3.1.1, h3.1.2, h3.2.1, h3.2.2⟩
      · omega
theorem lastS_eq {l : List (Int × Int)} (h : 0 < l.length) : lastS l = l[l.length - 1] := by
  unfold lastS; rw [List.getD_eq_getElem?_getD, List.getElem?_eq_getElem (by omega)]; rfl
theorem okSteps_get {l : List (Int × Int)} (h : okSteps l = true) {i : Nat} (hi : i < l.length) : okStep l[i] = true := by
  unfold okSteps at h; rw [List.all_eq_true] at h; exact h _ (List.getElem_mem hi)
theorem okStep_iff {s : Int × Int} : okStep s = true ↔ 0 ≤ s.1 ∧ s.1 ≤ 200 ∧ 0 ≤ s.2 ∧ s.2 ≤ 4 := by
  simp [okStep, inB, and_assoc]

def markV (a : Option Addr) (n cap : Nat) (c : Int) : Value := .agg #[.slice a n cap, .int .i64 c]

theorem bcellN {B : Nat} {W w1 : World} (hb : Below B W w1) (n : Nat) (hn : n ≤ B) : (∀ b o, b < n → w1.cell? ⟨b, o, none⟩ = W.cell? ⟨b, o, none⟩) ∧ (∀ b o, b < n → w1.frozen? ⟨b, o, none⟩ = W.frozen? ⟨b, o, none⟩) :=
  ⟨fun b o h => hb.cell (p := ⟨b, o, none⟩) (Nat.lt_of_lt_of_le h hn), fun b o h => hb.frozen (p := ⟨b, o, none⟩) (Nat.lt_of_lt_of_le h hn)⟩

/-- Next where Check fails or the distance is none -/
def NextGives (w : World) (l : List (Int × Int)) (c n : Int) (e : Ending) (w' : World) : Prop :=
  ∃ a cap, e = .returned (.tuple #[.agg #[.slice a (nxt l c n).1.length cap, .int .i64 (nxt l c n).2.1], .int .i64 (nxt l c n).2.2]) ∧ StepsAt w' a (nxt l c n).1 ∧ Below w.heap.size w w'

/-- .. and the path, where there is no error, is the call's own -/
def NextGivesO (w : World) (l : List (Int × Int)) (c n : Int) (e : Ending) (w' : World) : Prop :=
  ∃ a cap, e = .returned (.tuple #[.agg #[.slice a (nxt l c n).1.length cap, .int .i64 (nxt l c n).2.1], .int .i64 (nxt l c n).2.2]) ∧ StepsAt w' a (nxt l c n).1 ∧ Below w.heap.size w w' ∧ ((nxt l c n).2.2 = 0 → w'.ownsRow w.heap.size 77 2 (.slice a (nxt l c n).1.length cap) (nxt l c n).1.length (flatS (nxt l c n).1))

theorem owns_below {w w' : World} {base : Nat} {e : TypeId} {size : Nat} {v : Value} {n : Nat} {xs : List Value} (h : w.ownsRow base e size v n xs) (hb : Below w.heap.size w w') : w'.ownsRow base e size v n xs := by
  have hg : w.grownBy w' none := ⟨hb.os, hb.tape, hb.output, hb.size, fun k hk _ => hb.block k hk⟩
  refine h.kept hg ?_
  cases v.ownBlock with
  | none => exact Or.inl rfl
  | some k => exact Or.inr (by simp)

theorem StepsAt.setOld {w : World} {g off : Nat} {l : List (Int × Int)} {p : Addr} {u : Value} (h : StepsAt w (some ⟨g, off, none⟩) l) (hp : g ≠ p.block) : StepsAt (w.setCell p u) (some ⟨g, off, none⟩) l := by
  rcases h with h | ⟨b, o, he, hlt, hc⟩
  · exact Or.inl h
  · simp only [Option.some.injEq, Addr.mk.injEq] at he
    obtain ⟨rfl, rfl, _⟩ := he
    refine Or.inr ⟨g, off, rfl, by simpa [World.setCell] using hlt, fun i hi => ?_⟩
    rw [World.cell?_setCell_other _ _ _ _ (fun e => hp (congrArg Addr.block e).symm), World.cell?_setCell_other _ _ _ _ (fun e => hp (congrArg Addr.block e).symm)]
    exact hc i hi

theorem cell_other {w : World} {b o b' o' : Nat} {u v : Value} (hb : b ≠ b') (h : w.cell? ⟨b, o, none⟩ = some v) : (w.setCell ⟨b', o', none⟩ u).cell? ⟨b, o, none⟩ = some v := by
  rw [World.cell?_setCell_other _ _ _ _ (fun e => hb (congrArg Addr.block e).symm)]; exact h

theorem check_n (a : Option Addr) (cap n : Nat) (l : List (Int × Int)) (c : Int) (w : World) (hn : n = l.length) (hl : l.length ≤ maxLen) (h : StepsAt w a l) :
    Calls Try.prog 47 #[.agg #[.slice a n cap, .int .i64 c]] w fun e w' => e = .returned (.int .i64 (chk l c)) ∧ Below w.heap.size w w' := by
  subst hn; exact check_any a cap l c w hl h

set_option maxHeartbeats 1000000 in
theorem next_bad (a : Option Addr) (cap : Nat) (l : List (Int × Int)) (c n : Int) (w : World) (hl : l.length ≤ maxLen) (h : StepsAt w a l) (hbad : chk l c ≠ 0) :
    Calls Try.prog 48 #[.agg #[.slice a l.length cap, .int .i64 c], .int .i64 n] w (NextGives w l c n) := by
  have hn : Hid (nxt l c n = ([], 0, chk l c)) := by show _ = _; unfold nxt; rw [if_pos hbad]
  have hx : (chk l c != 0) = true := by rw [bne_iff_ne]; exact hbad
  clear hbad
  go_enter Try.func48, Try.ntmps48
  go_wp2_with (go_at_call 47; refine (check_any _ _ _ _ _ hl (by exact h.below (((Below.refl _ _).alloc (Nat.le_refl _) _).alloc (by simp) _) (Nat.le_refl _))).mono ?_; rintro e w' ⟨rfl, hb⟩; obtain ⟨hcc, hff⟩ := bcellN hb (w.heap.size + 2) (by simp))
  refine bodyPost_ret (v := .tuple #[.agg #[.slice none 0 0, .int .i64 0], .int .i64 (chk l c)]) (by simp [results, Try.results48, go_sem, hcc]) rfl ?_
  refine ⟨none, 0, by rw [hn.out]; rfl, Or.inl (by rw [hn.out]), ?_⟩
  exact ((((Below.refl _ _).alloc (Nat.le_refl _) _).alloc (by simp) _).thru hb (by simp; omega)).setCell (by simp) _ |>.setCell (by simp) _

set_option maxHeartbeats 1000000 in
theorem next_range (a : Option Addr) (cap : Nat) (l : List (Int × Int)) (c n : Int) (w : World) (hl : l.length ≤ maxLen) (h : StepsAt w a l) (hok : chk l c = 0) (hr : n < 0 ∨ 60 < n) :
    Calls Try.prog 48 #[.agg #[.slice a l.length cap, .int .i64 c], .int .i64 n] w (NextGives w l c n) := by
  have hn : Hid (nxt l c n = ([], 0, 3)) := by show _ = _; unfold nxt; rw [if_neg (by omega), if_pos hr]
  have H0 : Hid (chk l c = 0) := hok
  clear hok
  have hneg : decide (n < 0) = true ∨ decide (n < 0) = false := by cases decide (n < 0) <;> simp
  have h60 : n < 0 ∨ ¬ n < 0 ∧ 60 < n := by omega
  clear hneg hr
  rcases h60 with h60 | ⟨h61, h60⟩
  all_goals
    go_enter Try.func48, Try.ntmps48
    go_wp2_with (go_at_call 47; refine (check_any _ _ _ _ _ hl (by exact h.below (((Below.refl _ _).alloc (Nat.le_refl _) _).alloc (by simp) _) (Nat.le_refl _))).mono ?_; rintro e w' ⟨rfl, hb⟩; rw [H0.out]; obtain ⟨hcc, hff⟩ := bcellN hb (w.heap.size + 2) (by simp))
    refine bodyPost_ret (v := .tuple #[.agg #[.slice none 0 0, .int .i64 0], .int .i64 3]) (by simp [results, Try.results48, go_sem, hcc]) rfl ?_
    refine ⟨none, 0, by rw [hn.out]; rfl, Or.inl (by rw [hn.out]), ?_⟩
    exact ((((Below.refl _ _).alloc (Nat.le_refl _) _).alloc (by simp) _).thru hb (by simp; omega)).setCell (by simp) _ |>.setCell (by simp) _

set_option maxHeartbeats 1000000 in
theorem next_in (b off : Nat) (cap : Nat) (l : List (Int × Int)) (c n : Int) (w : World) (h : StepsAt w (some ⟨b, off, none⟩) l) (hok : chk l c = 0) (h0 : 0 ≤ n) (h60 : n ≤ 60) :
    Calls Try.prog 48 #[.agg #[.slice (some ⟨b, off, none⟩) l.length cap, .int .i64 c], .int .i64 n] w (NextGivesO w l c n) := by
  have hn : Hid (nxt l c n = if chk (bump l n) (c + n) ≠ 0 then ([], 0, 3) else (bump l n, c + n, 0)) := by show _ = _; unfold nxt; rw [if_neg (by omega), if_neg (by omega)]
  obtain ⟨hl0, hl10, hoks, _, hc1, hc2⟩ := chk_ok hok
  have hd := okStep_iff.1 (okSteps_get hoks (i := l.length - 1) (by omega))
  have H0 : Hid (chk l c = 0) := hok
  clear hok
  have hml : l.length ≤ maxLen := by unfold maxLen; omega
  go_enter Try.func48, Try.ntmps48
  go_wp2_with (go_at_call 47; refine (check_any _ _ _ _ _ hml (by exact h.below (((Below.refl _ _).alloc (Nat.le_refl _) _).alloc (by simp) _) (Nat.le_refl _))).mono ?_; rintro e w1 ⟨rfl, hb⟩; rw [H0.out]; obtain ⟨hcc, hff⟩ := bcellN hb (w.heap.size + 2) (by simp))
  have hb1 : Below w.heap.size w w1 := (((Below.refl _ _).alloc (Nat.le_refl _) _).alloc (by simp) _).thru hb (by simp; omega)
  have hz1 : w.heap.size + 2 ≤ w1.heap.size := by have := hb.size; simp at this; omega
  have z1 : w.heap.size < w1.heap.size := by omega
  have z2 : w.heap.size + 1 < w1.heap.size := by omega
  have zn : w.heap.size ≠ w1.heap.size := by omega
  have zn' : w1.heap.size ≠ w.heap.size := by omega
  have q0 : w1.cell? ⟨w.heap.size, 0, none⟩ = some (.slice (some ⟨b, off, none⟩) l.length cap) := by simp [hcc]
  have q1 : w1.cell? ⟨w.heap.size, 1, none⟩ = some (.int .i64 c) := by simp [hcc]
  have q2 : ∀ o, w1.frozen? ⟨w.heap.size + 1, o, none⟩ = false := by intro o; simp [hff]
  have q3 : w1.cell? ⟨w.heap.size + 1, 0, none⟩ = some (.slice none 0 0) := by simp [hcc]
  have q4 : w1.cell? ⟨w.heap.size + 1, 1, none⟩ = some (.int .i64 0) := by simp [hcc]
  clear hcc hff hb
  have hwr : IntKind.i64.wrap (c + n) = c + n := by rw [IntKind.wrap_i64]; omega
  go_cut [7] (fun t wc => ∃ N g cap2, t = .pointer (some ⟨N, 0, none⟩) ∧ w1.heap.size ≤ N ∧ N < wc.heap.size ∧ w1.heap.size ≤ g ∧ g ≠ N ∧ wc.cell? ⟨N, 0, none⟩ = some (.slice (some ⟨g, 0, none⟩) l.length cap2) ∧ wc.cell? ⟨N, 1, none⟩ = some (.int .i64 (c + n)) ∧ wc.ownsRow w1.heap.size 77 2 (.slice (some ⟨g, 0, none⟩) l.length cap2) l.length (flatS l) ∧ Below w1.heap.size w1 wc)
  case first =>
    go_region_held3 (fun w' => w'.cell? ⟨w.heap.size, 0, none⟩ = some (.slice (some ⟨b, off, none⟩) l.length cap) ∧ w'.cell? ⟨w.heap.size, 1, none⟩ = some (.int .i64 c)) (go_keep)
      (first | (go_at_call 49; refine (clone_any _ _ _ _ l _ rfl hml (by omega) (by first | exact h.below hb1.drew (Nat.le_refl _) | exact h.below (hb1.alloc hb1.size _).drew (Nat.le_refl _))).mono ?_; rintro e w2 ⟨g, cap2, rfl, hown, hb2⟩; obtain ⟨hcc, hff⟩ := bcellN hb2 w1.heap.size (by simp); have hcn := (bcell hb2).1 w1.heap.size; have hfn := (bcell hb2).2 w1.heap.size; simp at hcn hfn; have zm : w.heap.size ≠ w2.heap.size := (by have := hb2.size; simp at this; omega); have zm' : w2.heap.size ≠ w.heap.size := zm.symm))
    · go_wp2_with fail
      go_meet
      have hz2 : w1.heap.size ≤ w2.heap.size := by have := hb2.size; simpa using this
      have hg := hown.lt g rfl
      simp at hg
      refine ⟨w2.heap.size, g, cap2, rfl, hz2, by simp, hg.1, by omega, by simp, by simp, (owns_base hown (Nat.le_refl _)).alloc _, ?_⟩
      exact ((Below.refl _ _).drew.thru hb2 (Nat.le_refl _)).alloc hz2 _
    · go_wp2_with fail
      go_meet
      have hz2 : w1.heap.size + 1 ≤ w2.heap.size := by have := hb2.size; simpa using this
      have hg := hown.lt g rfl
      simp at hg
      refine ⟨w1.heap.size, g, cap2, rfl, Nat.le_refl _, by simp [World.setCell]; omega, by omega, by omega, by go_simp, by go_simp, ownsRow_setCell_other (ownsRow_setCell_other (owns_base hown (by simp)) (by simp [Value.ownBlock]; omega) _) (by simp [Value.ownBlock]; omega) _, ?_⟩
      exact ((((Below.refl _ _).alloc (Nat.le_refl _) _).drew.thru hb2 (by simp)).setCell (by simp) _).setCell (by simp) _
  case rest =>
    obtain ⟨N, g, cap2, rfl, hN1, hN2, hg1, hgN, e0, e1, hown, hb2⟩ := hcut
    have hgl := (hown.lt g rfl).2
    have fc := (hown.cellAt ((l.length - 1) * 2) (by omega)).trans (flatS_get l (l.length - 1) (by omega)).1
    have ff := hown.frozenAt ((l.length - 1) * 2)
    have hst := hown.stored ((l.length - 1) * 2) (.int .i64 (l[l.length - 1].1 + n))
    rw [flatS_set l _ (by omega)] at hst
    have hbump : l.set (l.length - 1) (l[l.length - 1].1 + n, l[l.length - 1].2) = bump l n := by unfold bump setL; rw [lastS_eq hl0]
    rw [hbump] at hst
    have hlb : (bump l n).length = l.length := by unfold bump setL; simp
    have HLB : Hid ((bump l n).length = l.length) := hlb
    have hsa := stepsAt_owns hst.1 hlb.symm
    clear hbump hlb
    obtain ⟨hcc, hff⟩ := bcellN hb2 w1.heap.size (Nat.le_refl _)
    have p3 : wc.cell? ⟨w.heap.size + 1, 0, none⟩ = some (.slice none 0 0) := (hcc _ _ z2).trans q3
    have p4 : wc.cell? ⟨w.heap.size + 1, 1, none⟩ = some (.int .i64 0) := (hcc _ _ z2).trans q4
    have p2 : ∀ o, wc.frozen? ⟨w.heap.size + 1, o, none⟩ = false := fun o => (hff _ _ z2).trans (q2 o)
    clear hcc hff q0 q1 q2 q3 q4
    have hgn' : N ≠ g := fun e => hgN e.symm
    have hg2 : w.heap.size + 1 ≠ g := by omega
    have hg3 : g ≠ w.heap.size + 1 := by omega
    have hN3 : N ≠ w.heap.size + 1 := by omega
    have hN4 : w.heap.size + 1 ≠ N := by omega
    obtain ⟨d1, d2, d3, d4⟩ := hd
    generalize l[l.length - 1].1 = dl at fc hst d1 d2 hsa
    have hmlb : (bump l n).length ≤ maxLen := by rw [HLB.out]; exact hml
    by_cases hk : chk (bump l n) (c + n) = 0
    · have hn' : Hid (nxt l c n = (bump l n, c + n, 0)) := by show _ = _; rw [hn.out, if_neg (by omega)]
      have HK : Hid (chk (bump l n) (c + n) = 0) := hk
      clear hk
      go_wp2_with fail
      refine (check_n _ _ _ (bump l n) _ _ HLB.out.symm hmlb hsa).mono ?_
      rintro e w3 ⟨rfl, hb3⟩
      rw [HK.out]
      obtain ⟨hcc, hff⟩ := bcellN hb3 wc.heap.size (by simp [World.setCell])
      have y0 : w3.cell? ⟨N, 0, none⟩ = some (.slice (some ⟨g, 0, none⟩) l.length cap2) := (hcc _ _ hN2).trans (cell_other hgn' e0)
      have y1 : w3.cell? ⟨N, 1, none⟩ = some (.int .i64 (c + n)) := (hcc _ _ hN2).trans (cell_other hgn' e1)
      have y2 : w3.cell? ⟨w.heap.size + 1, 0, none⟩ = some (.slice none 0 0) := (hcc _ _ (by omega)).trans (cell_other hg2 p3)
      have y3 : w3.cell? ⟨w.heap.size + 1, 1, none⟩ = some (.int .i64 0) := (hcc _ _ (by omega)).trans (cell_other hg2 p4)
      have y4 : ∀ o, w3.frozen? ⟨w.heap.size + 1, o, none⟩ = false := fun o => (hff _ _ (by omega)).trans (by simp [p2])
      clear hcc hff
      go_wp2_with fail
      refine bodyPost_ret (v := .tuple #[.agg #[.slice (some ⟨g, 0, none⟩) l.length cap2, .int .i64 (c + n)], .int .i64 0]) (by simp [results, Try.results48, go_sem, y2, y3]) rfl ?_
      refine ⟨some ⟨g, 0, none⟩, cap2, by rw [hn'.out]; show _ = Ending.returned (.tuple #[.agg #[.slice _ (bump l n).length _, _], _]); rw [HLB.out], ?_, ?_, ?_⟩
      · rw [hn'.out]
        exact ((hsa.below hb3 (Nat.le_refl _)).setOld (by simp; omega)).setOld (by simp; omega)
      · exact (((((hb1.thru (hb2.mono (Nat.le_refl _)) (by omega)).setCell (by show _ ≤ g; omega) _).thru hb3 (by simp [World.setCell]; omega)).setCell (by simp) _).setCell (by simp) _)
      · intro _
        rw [hn'.out]
        show World.ownsRow _ _ _ _ (.slice _ (bump l n).length _) (bump l n).length (flatS (bump l n))
        rw [HLB.out]
        exact ownsRow_setCell_other (ownsRow_setCell_other (owns_base (owns_below hst.1 hb3) (by omega)) (by simp [Value.ownBlock]; omega) _) (by simp [Value.ownBlock]; omega) _
    · have hn' : Hid (nxt l c n = ([], 0, 3)) := by show _ = _; rw [hn.out, if_pos hk]
      have hk' : (chk (bump l n) (c + n) != 0) = true := by rw [bne_iff_ne]; exact hk
      clear hk
      go_wp2_with fail
      refine (check_n _ _ _ (bump l n) _ _ HLB.out.symm hmlb hsa).mono ?_
      rintro e w3 ⟨rfl, hb3⟩
      obtain ⟨hcc, hff⟩ := bcellN hb3 wc.heap.size (by simp [World.setCell])
      have y2 : w3.cell? ⟨w.heap.size + 1, 0, none⟩ = some (.slice none 0 0) := (hcc _ _ (by omega)).trans (cell_other hg2 p3)
      have y3 : w3.cell? ⟨w.heap.size + 1, 1, none⟩ = some (.int .i64 0) := (hcc _ _ (by omega)).trans (cell_other hg2 p4)
      have y4 : ∀ o, w3.frozen? ⟨w.heap.size + 1, o, none⟩ = false := fun o => (hff _ _ (by omega)).trans (by simp [p2])
      clear hcc hff
      go_wp2_with fail
      refine bodyPost_ret (v := .tuple #[.agg #[.slice none 0 0, .int .i64 0], .int .i64 3]) (by simp [results, Try.results48, go_sem, y2, y3]) rfl ?_
      refine ⟨none, 0, by rw [hn'.out]; rfl, Or.inl (by rw [hn'.out]), ?_, fun h => by rw [hn'.out] at h; cases h⟩
      exact (((((hb1.thru (hb2.mono (Nat.le_refl _)) (by omega)).setCell (by show _ ≤ g; omega) _).thru hb3 (by simp [World.setCell]; omega)).setCell (by simp) _).setCell (by simp) _)

theorem next_any (a : Option Addr) (cap : Nat) (l : List (Int × Int)) (c n : Int) (w : World) (hl : l.length ≤ maxLen) (h : StepsAt w a l) :
    Calls Try.prog 48 #[.agg #[.slice a l.length cap, .int .i64 c], .int .i64 n] w (NextGives w l c n) := by
  by_cases hok : chk l c = 0
  · by_cases hr : n < 0 ∨ 60 < n
    · exact next_range a cap l c n w hl h hok hr
    · rcases id h with hs | ⟨b, off, rfl, _⟩
      · have := (chk_ok hok).1
        simp [hs] at this
      · refine (next_in b off cap l c n w h hok (by omega) (by omega)).mono ?_
        rintro e w' ⟨a, cap, he, hs, hb, _⟩
        exact ⟨a, cap, he, hs, hb⟩
  · exact next_bad a cap l c n w hl h hok

/-- Next of a mark that has one -/
theorem next_own (b off cap : Nat) (l : List (Int × Int)) (c n : Int) (w : World) (h : StepsAt w (some ⟨b, off, none⟩) l) (hok : chk l c = 0) (h0 : 0 ≤ n) (h60 : n ≤ 60) (hk : chk (bump l n) (c + n) = 0) :
    Calls Try.prog 48 #[.agg #[.slice (some ⟨b, off, none⟩) l.length cap, .int .i64 c], .int .i64 n] w fun e w' => ∃ g cap', e = .returned (.tuple #[.agg #[.slice (some ⟨g, 0, none⟩) l.length cap', .int .i64 (c + n)], .int .i64 0]) ∧ w'.ownsRow w.heap.size 77 2 (.slice (some ⟨g, 0, none⟩) l.length cap') l.length (flatS (bump l n)) ∧ Below w.heap.size w w' := by
  have hn : nxt l c n = (bump l n, c + n, 0) := by unfold nxt; rw [if_neg (by omega), if_neg (by omega), if_neg (by omega)]
  have hlb : (bump l n).length = l.length := by unfold bump setL; simp
  refine (next_in b off cap l c n w h hok h0 h60).mono ?_
  rintro e w' ⟨a, cap', he, _, hb, ho⟩
  rw [hn] at he ho
  replace ho := ho rfl
  simp only at he ho
  rw [hlb] at he ho
  have hl := (chk_ok hok).1
  rcases ho.2 with ⟨hc, _⟩ | ⟨g, c2, cur, hv, _⟩
  · simp at hc; omega
  · simp only [Value.slice.injEq, true_and] at hv
    obtain ⟨rfl, rfl⟩ := hv
    exact ⟨g, cap', he, ho, hb⟩

end Go.Proofs.Ytnhjebdlcbhkcaf
