/- slices.BinarySearchFunc over marks. -/
import Derived.Test.YtlpfnpkmgkbngacHolds
import Derived.Test.YtlpfnpkmgkbngacTakeOf
import Derived.Test.YtlpfnpkmgkbngacMkRow
import Derived.Test.YtlpfnpkmgkbngacSortP
namespace Go.Proofs.Ytlpfnpkmgkbngac
open Go.RowKit

/-- the place where a mark is looked for -/
def CutM (l : List (List (Int × Int) × Int)) (m : List (Int × Int)) (d : Int) (i j : Nat) : Prop := (∀ t (h : t < l.length), t < i → ordM l[t].1 l[t].2 m d < 0) ∧ (∀ t (h : t < l.length), j ≤ t → 0 ≤ ordM l[t].1 l[t].2 m d)
/-- the marks stand so that a mark parts them -/
def PartsM (l : List (List (Int × Int) × Int)) (m : List (Int × Int)) (d : Int) : Prop := ∀ s t (h : t < l.length) (hs : s < t), ordM l[t].1 l[t].2 m d < 0 → ordM (l[s]'(by omega)).1 (l[s]'(by omega)).2 m d < 0

set_option maxRecDepth 100000 in
set_option maxHeartbeats 2000000 in
theorem searchM_any (a a' : Option Addr) (cap cap' : Nat) (l : List (List (Int × Int) × Int)) (m : List (Int × Int)) (d : Int) (w : World) (hl : l.length ≤ 1000) (hm : m.length ≤ maxLen) (h : MarksAt w a l) (h' : StepsAt w a' m) (hp : PartsM l m d) :
    Calls Try.prog 145 #[.slice a l.length cap, .agg #[.slice a' m.length cap', .int .i64 d], .func (.func 54) #[] #[]] w fun e w' => ∃ i : Nat, i ≤ l.length ∧ CutM l m d i i ∧ ∃ f : Bool, e = .returned (.tuple #[.int .i64 i, .bool f]) ∧ (f = true ↔ ∃ h : i < l.length, ordM l[i].1 l[i].2 m d = 0) ∧ Below w.heap.size w w' := by
  have HP := hidE hp
  clear hp
  go_enter Try.func145, Try.ntmps145
  go_upto_region 1 with fail
  have hbA : Below w.heap.size w (w.alloc (Obj.cells #[.slice a' m.length cap', .int .i64 d] 41)) := (Below.refl _ _).alloc (Nat.le_refl _) _
  have q0 : (w.alloc (Obj.cells #[.slice a' m.length cap', .int .i64 d] 41)).cell? ⟨w.heap.size, 0, none⟩ = some (.slice a' m.length cap') := by simp
  have q1 : (w.alloc (Obj.cells #[.slice a' m.length cap', .int .i64 d] 41)).cell? ⟨w.heap.size, 1, none⟩ = some (.int .i64 d) := by simp
  have z1 : w.heap.size < (w.alloc (Obj.cells #[.slice a' m.length cap', .int .i64 d] 41)).heap.size := by simp
  generalize w.alloc (Obj.cells #[.slice a' m.length cap', .int .i64 d] 41) = w1 at hbA q0 q1 z1 ⊢
  go_wp2_with fail
  go_loopw [9, 10] (fun i j wr => ∃ x y : Nat, x ≤ y ∧ y ≤ l.length ∧ i = .int .i64 x ∧ j = .int .i64 y ∧ CutM l m d x y ∧ Below w1.heap.size w1 wr) (fun i j _ => (intOf j).toNat - (intOf i).toNat)
  case atStart => exact ⟨0, l.length, Nat.zero_le _, Nat.le_refl _, rfl, rfl, ⟨fun t _ h => by omega, fun t h h' => by omega⟩, Below.refl _ _⟩
  case round =>
    obtain ⟨x, y, hxy, hy, rfl, rfl, hcut, hb⟩ := hrel
    have HCut := hidE hcut
    clear hcut
    have hbW := hbA.thru hb hbA.size
    by_cases hlt : x < y
    · have hi1 : (x : Int) < y := by omega
      have hh : (x + y) / 2 < l.length := by omega
      go_upto_region 5 with fail
      rw [show ((x : Int) + y) / 2 = (((x + y) / 2 : Nat) : Int) by omega]
      have hz1 : x ≤ (x + y) / 2 := by omega
      have hz2 : (x + y) / 2 < y := by omega
      generalize (x + y) / 2 = z at hz1 hz2 hh ⊢
      rcases h.below hbW (Nat.le_refl _) with hs | ⟨ab, ao, rfl, hab, hc⟩
      · simp [hs] at hh
      obtain ⟨p, cp, c0, c1, hst, hle⟩ := hc z hh
      have hi2 : (z : Int) < l.length := by omega
      have HZ : Hid (∀ o, o = ordM l[z].1 l[z].2 m d → (o < 0 → CutM l m d (z + 1) y) ∧ (0 ≤ o → CutM l m d x z)) := by
        intro o ho
        subst ho
        refine ⟨fun h0 => ⟨fun t ht htz => ?_, HCut.out.2⟩, fun h0 => ⟨HCut.out.1, fun t ht htz => ?_⟩⟩
        · by_cases e : t = z
          · subst e; exact h0
          · exact HP.out t z hh (by omega) h0
        · by_cases e : t = z
          · subst e; exact h0
          · rcases Int.lt_or_le (ordM l[t].1 l[t].2 m d) 0 with hn | hn
            · have := HP.out z t ht (by omega) hn
              omega
            · exact hn
      generalize l[z].1 = pk at *
      generalize l[z].2 = ck at *
      have k0 := cell_regrown c0
      have k1 := cell_regrown c1
      have k3 := cell_regrown ((hb.cell (p := ⟨w.heap.size, 0, none⟩) z1).trans q0)
      have k4 := cell_regrown ((hb.cell (p := ⟨w.heap.size, 1, none⟩) z1).trans q1)
      have S1 := hidE (fun d os => hst.below (below_regrown wr d os) (Nat.le_refl _))
      have S2 := hidE (fun d os => (h'.below hbW (Nat.le_refl _)).below (below_regrown wr d os) (Nat.le_refl _))
      clear hc h hst h'
      refine wp_region_quiet_below (by kernel_rfl) (by kernel_rfl) ?_
      repeat (first | go_big_quiet_step ((go_at_call 54; exact Calls.regrown_of (order_any _ _ _ _ pk m _ _ _ hle hm (S1.out _ _) (S2.out _ _)))) | quiet_step ((go_at_call 54; exact Calls.regrown_of (order_any _ _ _ _ pk m _ _ _ hle hm (S1.out _ _) (S2.out _ _)))))
      refine wpQuiet_nil ?_
      intro _ hw'
      obtain ⟨⟨dq, osq⟩, hw''⟩ := hw'
      subst hw''
      obtain ⟨HZ1, HZ2⟩ := HZ.out _ rfl
      by_cases ho : ordM pk ck m d < 0
      · have HC2 := hidE (HZ1 ho)
        clear HZ1 HZ2
        go_wp2
        go_roundw
        case rel => exact ⟨z + 1, y, by omega, hy, by go_num, rfl, HC2.out, hb.thru (below_regrown _ _ _) hb.size⟩
        case measure => simp [intOf]; omega
      · have HC2 := hidE (HZ2 (by omega))
        clear HZ1 HZ2
        go_wp2
        go_roundw
        case rel => exact ⟨x, z, by omega, by omega, rfl, rfl, HC2.out, hb.thru (below_regrown _ _ _) hb.size⟩
        case measure => simp [intOf]; omega
    · have hxe : x = y := by omega
      subst hxe
      by_cases hlen : x < l.length
      · rcases h.below hbW (Nat.le_refl _) with hs | ⟨ab, ao, rfl, hab, hc⟩
        · simp [hs] at hlen
        obtain ⟨p, cp, c0, c1, hst, hle⟩ := hc x hlen
        have HO : Hid (∃ o, o = ordM l[x].1 l[x].2 m d) := ⟨_, rfl⟩
        have HE : Hid ((∃ h : x < l.length, ordM l[x].1 l[x].2 m d = 0) ↔ ordM l[x].1 l[x].2 m d = 0) := by
          constructor
          · rintro ⟨_, h⟩; exact h
          · intro h; exact ⟨hlen, h⟩
        have hi1 : decide ((x : Int) < l.length) = true := by simpa using hlen
        have hi2 : (x : Int) < l.length := by omega
        generalize hpk : l[x].1 = pk at *
        generalize hck : l[x].2 = ck at *
        have HPK := hidE hpk
        have HCK := hidE hck
        have k0 := cell_regrown c0
        have k1 := cell_regrown c1
        have k3 := cell_regrown ((hb.cell (p := ⟨w.heap.size, 0, none⟩) z1).trans q0)
        have k4 := cell_regrown ((hb.cell (p := ⟨w.heap.size, 1, none⟩) z1).trans q1)
        have S1 := hidE (fun d os => hst.below (below_regrown wr d os) (Nat.le_refl _))
        have S2 := hidE (fun d os => (h'.below hbW (Nat.le_refl _)).below (below_regrown wr d os) (Nat.le_refl _))
        clear hc h hst h' hpk hck
        go_wp2_with fail
        refine wp_region_quiet_below (by kernel_rfl) (by kernel_rfl) ?_
        repeat (first | go_big_quiet_step ((go_at_call 54; exact Calls.regrown_of (order_any _ _ _ _ pk m _ _ _ hle hm (S1.out _ _) (S2.out _ _)))) | quiet_step ((go_at_call 54; exact Calls.regrown_of (order_any _ _ _ _ pk m _ _ _ hle hm (S1.out _ _) (S2.out _ _)))))
        refine wpQuiet_nil ?_
        intro _ hw'
        obtain ⟨⟨dq, osq⟩, hw''⟩ := hw'
        subst hw''
        go_wp2
        refine bodyPost_ret (v := .tuple #[.int .i64 x, .bool (ordM pk ck m d == 0)]) (by simp [results, Try.results145, go_sem]) rfl ?_
        refine ⟨x, by omega, HCut.out, _, rfl, ?_, hbW.thru (below_regrown _ _ _) hbW.size⟩
        rw [beq_iff_eq]
        constructor
        · intro e; exact ⟨hlen, by rw [HPK.out, HCK.out]; exact e⟩
        · rintro ⟨_, e⟩; rw [HPK.out, HCK.out] at e; exact e
      · have hi1 : decide ((x : Int) < l.length) = false := by simpa using hlen
        have HN : Hid ((false = true) ↔ ∃ h : x < l.length, ordM l[x].1 l[x].2 m d = 0) := by
          constructor
          · intro h; cases h
          · rintro ⟨h, _⟩; exact absurd h hlen
        go_wp2_with fail
        refine wp_region_quiet_below (by kernel_rfl) (by kernel_rfl) ?_
        repeat (first | go_big_quiet_step (fail) | quiet_step (fail))
        refine wpQuiet_nil ?_
        intro _ hw'
        obtain ⟨⟨dq, osq⟩, hw''⟩ := hw'
        subst hw''
        go_wp2
        refine bodyPost_ret (v := .tuple #[.int .i64 x, .bool false]) (by simp [results, Try.results145, go_sem]) rfl ?_
        exact ⟨x, by omega, HCut.out, _, rfl, HN.out, hbW.thru (below_regrown _ _ _) hbW.size⟩
end Go.Proofs.Ytlpfnpkmgkbngac

namespace Go.Proofs.Ytlpfnpkmgkbngac
open Go.RowKit

/-- marks that rise -/
def Up (g : List (List (Int × Int) × Int)) : Prop := g.Pairwise (fun x y => ordM x.1 x.2 y.1 y.2 < 0)
theorem Up.get {g : List (List (Int × Int) × Int)} (h : Up g) {i j : Nat} (hj : j < g.length) (hij : i < j) : ordM (g[i]'(by omega)).1 (g[i]'(by omega)).2 g[j].1 g[j].2 < 0 := List.pairwise_iff_getElem.1 h i j (by omega) hj hij

/-- how many stand ahead of a mark -/
def lowM (g : List (List (Int × Int) × Int)) (m : List (Int × Int)) (d : Int) : Nat := g.countP fun x => decide (ordM x.1 x.2 m d < 0)

theorem lowM_cut {g : List (List (Int × Int) × Int)} {m : List (Int × Int)} {d : Int} {i : Nat} (hi : i ≤ g.length) (h : CutM g m d i i) : lowM g m d = i := by
  have e1 : (g.take i).countP (fun x => decide (ordM x.1 x.2 m d < 0)) = (g.take i).length := by
    rw [List.countP_eq_length]
    intro x hx
    obtain ⟨j, hj, rfl⟩ := List.getElem_of_mem hx
    have hj' : j < i ∧ j < g.length := by simp at hj; omega
    simpa using h.1 j hj'.2 hj'.1
  have e2 : (g.drop i).countP (fun x => decide (ordM x.1 x.2 m d < 0)) = 0 := by
    rw [List.countP_eq_zero]
    intro x hx
    obtain ⟨j, hj, rfl⟩ := List.getElem_of_mem hx
    have hj' : i + j < g.length := by simp at hj; omega
    have := h.2 (i + j) hj' (by omega)
    simp; omega
  unfold lowM
  rw [← List.take_append_drop i g, List.countP_append, e1, e2]
  simp; omega

theorem partsM_of {g : List (List (Int × Int) × Int)} (h : Up g) (m : List (Int × Int)) (d : Int) : PartsM g m d := by
  intro s t ht hs hn
  have h1 := h.get ht hs
  exact cmpM.le_lt (a := g[s]'(by omega)) (b := g[t]) (c := (m, d)) (Int.le_of_lt h1) hn

theorem found_gone {g : List (List (Int × Int) × Int)} (hu : Up g) {m : List (Int × Int)} {d : Int} {i : Nat} {f : Bool} (hc : CutM g m d i i) (hf : f = true ↔ ∃ h : i < g.length, ordM g[i].1 g[i].2 m d = 0) : f = hasGone g m d := by
  cases f with
  | true =>
    obtain ⟨h, h0⟩ := hf.1 rfl
    symm
    unfold hasGone
    rw [List.any_eq_true]
    exact ⟨g[i], List.getElem_mem h, by simpa using h0⟩
  | false =>
    have hn : ¬ ∃ h : i < g.length, ordM g[i].1 g[i].2 m d = 0 := fun h => by simpa using hf.2 h
    symm
    unfold hasGone
    rw [List.any_eq_false]
    intro x hx
    obtain ⟨j, hj, rfl⟩ := List.getElem_of_mem hx
    rw [beq_iff_eq]
    intro h0
    rcases Nat.lt_or_ge j i with hlt | hge
    · have := hc.1 j hj hlt; omega
    · by_cases e : i = j
      · subst e; exact hn ⟨hj, h0⟩
      · have h1 := hu.get hj (show i < j by omega)
        have h2 : ordM (g[i]'(by omega)).1 (g[i]'(by omega)).2 g[j].1 g[j].2 = ordM (g[i]'(by omega)).1 (g[i]'(by omega)).2 m d := cmpM.eqv' (g[i]'(by omega)) g[j] (m, d) h0
        have h5 := hc.2 i (by omega) (Nat.le_refl _)
        rw [h2] at h1
        omega
end Go.Proofs.Ytlpfnpkmgkbngac

namespace Go.Proofs.Ytlpfnpkmgkbngac
open Go.RowKit

/-- who does deeds lies at D, with its atoms and the marks that are gone -/
structure DoerAt (w : World) (base D : Nat) (vA vG : Value) (l : List At) (g : List Mk) : Prop where
  ty : ∃ cur, w.heap[D]? = some (.cells cur 100 (0, 0))
  c0 : w.cell? ⟨D, 0, none⟩ = some vA
  c1 : w.cell? ⟨D, 1, none⟩ = some vG
  free : ∀ o, w.frozen? ⟨D, o, none⟩ = false
  lt : D < w.heap.size
  le : base ≤ D
  atoms : PickRow w base vA l
  gone : MkRow w base vG g

theorem heap_below {w w' : World} {B b : Nat} (hb : Below B w w') (h : b < B) : w'.heap[b]? = w.heap[b]? := hb.block b h

theorem DoerAt.below {w w' : World} {base D : Nat} {vA vG : Value} {l : List At} {g : List Mk} (h : DoerAt w base D vA vG l g) (hb : Below w.heap.size w w') : DoerAt w' base D vA vG l g := by
  obtain ⟨⟨cur, h1⟩, h2, h3, h4, h5, h6, h7, h8⟩ := h
  exact ⟨⟨cur, (hb.block D h5).trans h1⟩, (hb.cell (p := ⟨D, 0, none⟩) h5).trans h2, (hb.cell (p := ⟨D, 1, none⟩) h5).trans h3, fun o => (hb.frozen (p := ⟨D, o, none⟩) h5).trans (h4 o), Nat.lt_of_lt_of_le h5 hb.size, h6, h7.below hb, h8.below hb⟩

theorem owns_setD {w : World} {base D o : Nat} {e : TypeId} {size : Nat} {v u : Value} {n : Nat} {xs : List Value} (he : e ≠ 100) (hD : ∃ cur, w.heap[D]? = some (.cells cur 100 (0, 0))) (h : w.ownsRow base e size v n xs) : (w.setCell ⟨D, o, none⟩ u).ownsRow base e size v n xs := by
  obtain ⟨cur, hD⟩ := hD
  refine ownsRow_setCell_other h ?_ u
  rcases h.2 with ⟨rfl, _⟩ | ⟨g1, c1, cur1, rfl, _, h2, _⟩
  · simp [Value.ownBlock]
  · intro e1
    simp [Value.ownBlock] at e1
    subst e1
    rw [hD] at h2
    simp at h2
    exact he h2.2.symm

theorem PickRow.setD {w : World} {base D o : Nat} {v u : Value} {xs : List At} (hD : ∃ cur, w.heap[D]? = some (.cells cur 100 (0, 0))) (h : PickRow w base v xs) : PickRow (w.setCell ⟨D, o, none⟩ u) base v xs := by
  obtain ⟨rs, h1, h2, h3⟩ := h
  refine ⟨rs, h1, owns_setD (by decide) hD h2, fun i h h' => ?_⟩
  obtain ⟨g, cap, e, hown, h4⟩ := h3 i h h'
  exact ⟨g, cap, e, owns_setD (by decide) hD hown, h4⟩
theorem MkRow.setD {w : World} {base D o : Nat} {v u : Value} {xs : List Mk} (hD : ∃ cur, w.heap[D]? = some (.cells cur 100 (0, 0))) (h : MkRow w base v xs) : MkRow (w.setCell ⟨D, o, none⟩ u) base v xs := by
  obtain ⟨rs, h1, h2, h3⟩ := h
  refine ⟨rs, h1, owns_setD (by decide) hD h2, fun i h h' => ?_⟩
  obtain ⟨g, cap, e, hown, h4⟩ := h3 i h h'
  exact ⟨g, cap, e, owns_setD (by decide) hD hown, h4⟩

/-- the search answers the same in every world -/
theorem searchM_det (a a' : Option Addr) (cap cap' : Nat) (g : List Mk) (m : List (Int × Int)) (d : Int) (w : World) (hl : g.length ≤ 1000) (hm : m.length ≤ maxLen) (h : MarksAt w a g) (h' : StepsAt w a' m) (hu : Up g) :
    Calls Try.prog 145 #[.slice a g.length cap, .agg #[.slice a' m.length cap', .int .i64 d], .func (.func 54) #[] #[]] w fun e w' => e = .returned (.tuple #[.int .i64 (lowM g m d), .bool (hasGone g m d)]) ∧ Below w.heap.size w w' := by
  refine (searchM_any a a' cap cap' g m d w hl hm h h' (partsM_of hu m d)).mono ?_
  rintro e w1 ⟨i, hi, hc, f, rfl, hf, hb⟩
  exact ⟨by rw [lowM_cut hi hc, found_gone hu hc hf], hb⟩

set_option maxRecDepth 100000 in
set_option maxHeartbeats 4000000 in
theorem doerFind_any (D : Nat) (b a' : Option Addr) (cap cap' : Nat) (g : List Mk) (m : List (Int × Int)) (d : Int) (w : World) (hl : g.length ≤ 1000) (hm : m.length ≤ maxLen) (c1 : w.cell? ⟨D, 1, none⟩ = some (.slice b g.length cap)) (hD : D < w.heap.size) (h : MarksAt w b g) (h' : StepsAt w a' m) (hu : Up g) :
    Calls Try.prog 129 #[.pointer (some ⟨D, 0, none⟩), .agg #[.slice a' m.length cap', .int .i64 d]] w fun e w' => e = .returned (.tuple #[.int .i64 (lowM g m d), .bool (hasGone g m d)]) ∧ Below w.heap.size w w' := by
  have hb1 : Below w.heap.size w (w.alloc (Obj.cells #[.slice a' m.length cap', .int .i64 d] 41)) := (Below.refl _ _).alloc (Nat.le_refl _) _
  have c1' := (hb1.cell (p := ⟨D, 1, none⟩) hD).trans c1
  have m0 : (w.alloc (Obj.cells #[.slice a' m.length cap', .int .i64 d] 41)).cell? ⟨w.heap.size, 0, none⟩ = some (.slice a' m.length cap') := by simp
  have m1 : (w.alloc (Obj.cells #[.slice a' m.length cap', .int .i64 d] 41)).cell? ⟨w.heap.size, 1, none⟩ = some (.int .i64 d) := by simp
  have HU := hidE hu
  clear hu
  go_enter Try.func129, Try.ntmps129
  go_upto_region 1 with fail
  replace h := h.below hb1 (Nat.le_refl _)
  replace h' := h'.below hb1 (Nat.le_refl _)
  generalize w.alloc (Obj.cells #[.slice a' m.length cap', .int .i64 d] 41) = w1 at hb1 c1' m0 m1 h h' ⊢
  have k0 := cell_regrown c1'
  have k1 := cell_regrown m0
  have k2 := cell_regrown m1
  have S1 := hidE (fun d os => h.below (below_regrown w1 d os) (Nat.le_refl _))
  have S2 := hidE (fun d os => h'.below (below_regrown w1 d os) (Nat.le_refl _))
  refine wp_region_quiet_below (by kernel_rfl) (by kernel_rfl) ?_
  repeat (first | go_big_quiet_step ((go_at_call 145; exact Calls.regrown_of (searchM_det _ _ _ _ g m _ _ hl hm (S1.out _ _) (S2.out _ _) HU.out))) | quiet_step ((go_at_call 145; exact Calls.regrown_of (searchM_det _ _ _ _ g m _ _ hl hm (S1.out _ _) (S2.out _ _) HU.out))))
  refine wpQuiet_nil ?_
  intro _ hw'
  obtain ⟨⟨dq, osq⟩, hw''⟩ := hw'
  subst hw''
  go_wp2
  go_ret2
  exact ⟨rfl, hb1.thru (below_regrown _ _ _) hb1.size⟩
end Go.Proofs.Ytlpfnpkmgkbngac
