/- Contract of run.Atoms. -/
import Derived.Test.YtnhjebdlcbhkcacGreatEach
import Derived.Test.YtnhjebdlcbhkcacGreatJoin
import Derived.Test.YtnhjebdlcbhkcacGreatSearch
namespace Go.Proofs.YtnhjebdlcbhkcacGreat
open Go.RowKit Go.Shelf
attribute [local go_sem] Oper.semAt_some

set_option maxRecDepth 100000 in
set_option maxHeartbeats 2000000 in
theorem runAtoms_bad (a : Option Addr) (cap : Nat) (l : List (Int × Int)) (c : Int) (t : ByteArray) (w : World) (hl : l.length ≤ maxLen) (ht : t.size ≤ maxLen) (h : StepsAt w a l) (h0 : chkRun l c t ≠ 0) :
    Calls Tryz.prog 114 #[.agg #[.slice a l.length cap, .int .i64 c, .string t]] w fun e w' => e = .returned (.tuple #[.slice none 0 0, .int .i64 (chkRun l c t)]) ∧ Below w.heap.size w w' := by
  have hx : (chkRun l c t != 0) = true := bne_iff_ne.2 h0
  clear h0
  have hbA : Below w.heap.size w (w.alloc (Obj.cells #[.slice a l.length cap, .int .i64 c, .string t] 48)) := (Below.refl _ _).alloc (Nat.le_refl _) _
  go_enter Tryz.func114, Tryz.ntmps114
  go_wp2_with fail
  refine (runCheck_any _ _ l _ t _ hl ht (h.below hbA (Nat.le_refl _))).mono ?_
  rintro e w2 ⟨rfl, hb2⟩
  go_wp2_with fail
  refine bodyPost_ret (v := .tuple #[.slice none 0 0, .int .i64 (chkRun l c t)]) (by simp [results, Tryz.results114, go_sem]) rfl ?_
  exact ⟨rfl, hbA.thru hb2 hbA.size⟩

theorem ownS (n₀ B : Nat) (l : List (Int × Int)) (c : Int) (t : ByteArray) : OwnFrom B (fun (xs : List Raw) W' => xs.length = t.size ∧ ∀ i (h : i < xs.length), PickRaw W' n₀ xs[i] (runAt l c t i)) := by
  rintro xs W W' row ⟨h1, h2⟩ hg hr
  refine ⟨h1, fun i hi => ?_⟩
  refine (h2 i hi).kept hg (fun g cap _ ho e => ?_)
  obtain ⟨_, o, ho', hc⟩ := hr g e.symm
  rcases ho.2 with ⟨h', _⟩ | ⟨g', _, cur, h', _, hh, _⟩
  · simp at h'
  · simp at h'
    obtain ⟨rfl, _⟩ := h'
    rw [hh] at ho'; cases ho'; cases hc

theorem KpA.append {W w1 : World} {n₀ Bo k : Nat} {v v' : Value} {xs : List Value} {tmp : Obj} (hv : Boxed W Bo 22 v) (hrow : W.ownsRow n₀ 66 3 v k xs) (hgrow : (W.alloc tmp).grownBy w1 v.ownBlock) (hB : Below n₀ W (w1.setCell ⟨Bo, 0, none⟩ v')) : KpA n₀ W (w1.setCell ⟨Bo, 0, none⟩ v') := by
  refine ⟨hB, fun j cur t h1 h2 hj => ?_⟩
  have hlt : j < W.heap.size := (Array.getElem?_eq_some_iff.1 hj).1
  have hne : j ≠ Bo := by
    rintro rfl
    rw [show W.heap[j]? = _ from hv] at hj
    cases hj
    exact h2 rfl
  have hno : some j ≠ v.ownBlock := by
    intro e
    rcases hrow.2 with ⟨rfl, _⟩ | ⟨g, c, cur', rfl, _, hh, _⟩
    · simp [Value.ownBlock] at e
    · simp [Value.ownBlock] at e
      subst e
      rw [hh] at hj
      cases hj
      exact h1 rfl
  have e1 : (W.alloc tmp).heap[j]? = W.heap[j]? := Below.heap_alloc _ _ _ hlt
  have e2 := hgrow.block j (by simp; omega) hno
  have e3 : (w1.setCell ⟨Bo, 0, none⟩ v').heap[j]? = w1.heap[j]? := Below.heap_setCell _ _ _ j (fun e => hne e)
  rw [e3, e2, e1]; exact hj

theorem cells_list (r : Raw) : r.cells.toArray = #[.slice r.p r.n r.cap, .int .i64 r.clock, .int .u8 r.sign] := rfl

set_option maxRecDepth 100000 in
set_option maxHeartbeats 4000000 in
theorem runAtoms_ok (a : Option Addr) (cap : Nat) (l : List (Int × Int)) (c : Int) (t : ByteArray) (w : World) (h : StepsAt w a l) (h0 : chkRun l c t = 0) :
    Calls Tryz.prog 114 #[.agg #[.slice a l.length cap, .int .i64 c, .string t]] w fun e w' => ∃ p k, e = .returned (.tuple #[.slice p (atomsR l c t).length k, .int .i64 0]) ∧ AtomsAt w' p (atomsR l c t) ∧ PickRow w' w.heap.size (.slice p (atomsR l c t).length k) (atomsR l c t) ∧ Below w.heap.size w w' := by
  have ok := okRun_of h0
  obtain ⟨hl0, hl10, _⟩ := chk_ok ok.mark
  have hl : l.length ≤ maxLen := by unfold maxLen; omega
  have ht : t.size ≤ maxLen := by have := ok.len; unfold maxLen; omega
  have ht60 := ok.len
  have HOK := hidE ok
  have H0 := hidE h0
  clear ok h0
  obtain ⟨b, off, rfl, hbw⟩ : ∃ b off, a = some ⟨b, off, none⟩ ∧ b < w.heap.size := by
    rcases h with e | ⟨b, off, rfl, hb, _⟩
    · rw [e] at hl0; simp at hl0
    · exact ⟨b, off, rfl, hb⟩
  obtain ⟨i0, hi0, hz0, hz1, hz2⟩ := Tryz.info66
  have hbA : Below w.heap.size w (w.alloc (Obj.cells #[.slice (some ⟨b, off, none⟩) l.length cap, .int .i64 c, .string t] 48)) := (Below.refl _ _).alloc (Nat.le_refl _) _
  refine (callsIn_wide (n := 3)).1 ?_
  refine callsIn_of_wp_marks Tryz.func114 rfl trivial ?_ rfl
  simp only [Tryz.ntmps114, List.size_toArray, List.length_cons, List.length_nil, Nat.reduceAdd, Nat.reduceSub, Array.replicate_succ, Array.replicate_zero, List.push_toArray, List.append_toArray, List.nil_append, List.cons_append]
  gi_wp2_with fail
  refine ⟨trivial, (callsIn_wide.2 (runCheck_any _ _ l _ t _ hl ht (h.below hbA (Nat.le_refl _)))).mono ?_⟩
  rintro e w2 ⟨rfl, hb2⟩
  rw [H0.out]
  have q0 : w2.cell? ⟨w.heap.size, 0, none⟩ = some (.slice (some ⟨b, off, none⟩) l.length cap) := (hb2.cell (p := ⟨w.heap.size, 0, none⟩) (by simp)).trans (by simp)
  have q1 : w2.cell? ⟨w.heap.size, 1, none⟩ = some (.int .i64 c) := (hb2.cell (p := ⟨w.heap.size, 1, none⟩) (by simp)).trans (by simp)
  have q2 : w2.cell? ⟨w.heap.size, 2, none⟩ = some (.string t) := (hb2.cell (p := ⟨w.heap.size, 2, none⟩) (by simp)).trans (by simp)
  have hz2' : w.heap.size < w2.heap.size := by have := hb2.size; simp at this; omega
  have hb := hbA.thru hb2 hbA.size
  clear hb2 hbA
  gi_wp2_with fail
  refine ⟨trivial, (callsIn_wide.2 (each_any _ _ _ _)).mono ?_⟩
  rintro e w4 ⟨rfl, rfl⟩
  have bO : Boxed ((w2.alloc (Obj.cells #[.slice none 0 0] 22)).alloc (Obj.cells #[.slice (some ⟨b, off, none⟩) l.length cap, .int .i64 c, .string t] 48)) w2.heap.size 22 (.slice none 0 0) := (Boxed.new w2 _ _).alloc _
  have hBx : ((w2.alloc (Obj.cells #[.slice none 0 0] 22)).alloc (Obj.cells #[.slice (some ⟨b, off, none⟩) l.length cap, .int .i64 c, .string t] 48)).heap[w2.heap.size + 1]? = some (.cells #[.slice (some ⟨b, off, none⟩) l.length cap, .int .i64 c, .string t] 48 (0, 0)) := by
    have := World.alloc_heap_new (w2.alloc (Obj.cells #[.slice none 0 0] 22)) (Obj.cells #[.slice (some ⟨b, off, none⟩) l.length cap, .int .i64 c, .string t] 48)
    rwa [World.size_alloc] at this
  have hbV := (hb.alloc hb.size (Obj.cells #[.slice none 0 0] 22)).alloc (by have := hb.size; simp; omega) (Obj.cells #[.slice (some ⟨b, off, none⟩) l.length cap, .int .i64 c, .string t] 48)
  have hVs : ((w2.alloc (Obj.cells #[.slice none 0 0] 22)).alloc (Obj.cells #[.slice (some ⟨b, off, none⟩) l.length cap, .int .i64 c, .string t] 48)).heap.size = w2.heap.size + 2 := by simp
  gi_wp2_with fail
  generalize (w2.alloc (Obj.cells #[.slice none 0 0] 22)).alloc (Obj.cells #[.slice (some ⟨b, off, none⟩) l.length cap, .int .i64 c, .string t] 48) = V at bO hBx hbV hVs ⊢
  clear q0 q1 q2 hb
  have hw2 : w.heap.size ≤ w2.heap.size := by omega
  refine rangeFunc_w rfl (by decide) (gf := 141) (lb := #[.pointer (some ⟨w2.heap.size + 1, 0, none⟩)]) rfl trivial (enters_of Tryz.func141 (by kernel_rfl) rfl)
    (each1_in 2 (by decide) (w2.heap.size + 1) b off cap w.heap.size l c t V HOK.out hbV.size hBx hbw (h.below hbV (Nat.le_refl _))) (fun h k => KpA.trans h k) (KpA.put hbV.size) (ownS _ _ l c t) (Below.refl _ _) (fun _ => rfl)
    (fun pre W => (∃ v, Boxed W w2.heap.size 22 v ∧ W.ownsRow w.heap.size 66 3 v pre.length (flatR pre) ∧ True) ∧ Below w.heap.size w W)
    (OwnFrom.and (Own.from (holdsRow_own w.heap.size _ _ _ 3 (fun pre => pre.length) (fun pre => flatR pre) (fun _ _ => True)) _) (ownFrom_below (Nat.le_refl _) hbV.size))
    ⟨⟨_, bO, World.ownsRow_nil _ _ _ _, trivial⟩, hbV⟩
    (fun x a' W => ∃ Bx, w2.heap.size < Bx ∧ W.heap[Bx]? = some (.cells #[.slice x.p x.n x.cap, .int .i64 x.clock, .int .u8 x.sign] 66 (0, 0)) ∧ a' = { tmps := #[.agg #[.slice (some ⟨b, off, none⟩) l.length cap, .int .i64 c, .string t], .pointer (some ⟨w.heap.size, 0, none⟩), .slice none 0 0, .int .i64 0, .int .i64 0, .pointer (some ⟨w2.heap.size, 0, none⟩), .pointer (some ⟨Bx, 0, none⟩), .agg #[.slice (some ⟨b, off, none⟩) l.length cap, .int .i64 c, .string t], .int .i64 0, .int .i64 0, .bool false, undef, .agg #[.slice (some ⟨b, off, none⟩) l.length cap, .int .i64 c, .string t], .func (.func 141) #[] #[.pointer (some ⟨w2.heap.size + 1, 0, none⟩)], .agg #[.slice x.p x.n x.cap, .int .i64 x.clock, .int .u8 x.sign], undef, undef, undef, undef, undef], defers := [] })
    ?hAx ?assign ?body ?done
  case hAx =>
    rintro x a' s A B row ⟨Bx, h1, h2, h3⟩ hg hr
    refine ⟨Bx, h1, ?_, h3⟩
    rw [hg.block Bx (Array.getElem?_eq_some_iff.1 h2).1 (fun e => by
      obtain ⟨_, o, ho, hc⟩ := hr Bx e.symm
      rw [h2] at ho; cases ho; cases hc)]
    exact h2
  case assign =>
    rintro lp pre x W K ⟨⟨v, hv, hrow, _⟩, hB⟩ hK
    dsimp only [encA]
    gi_wp2
    refine hK _ _ ((KeepsOthers.alloc _ _).from _) (KpA.below ((Below.refl _ W).alloc (Nat.le_refl _) _) hB.size) ⟨⟨v, hv.alloc _, hrow.alloc _, trivial⟩, hB.alloc hB.size _⟩ ⟨W.heap.size, hv.lt, World.alloc_heap_new _ _, rfl⟩
  case body =>
    rintro lp pre x a' W hlp ⟨⟨v, hv, hrow, _⟩, hB⟩ ⟨Bx, hBx1, hx, rfl⟩ hlen
    have x0 : W.cell? ⟨Bx, 0, none⟩ = some (.slice x.p x.n x.cap) := cell_of hx rfl
    have x1 : W.cell? ⟨Bx, 1, none⟩ = some (.int .i64 x.clock) := cell_of hx rfl
    have x2 : W.cell? ⟨Bx, 2, none⟩ = some (.int .u8 x.sign) := cell_of hx rfl
    have hvc := hv.cell
    have hvf := hv.frozen
    have hBs := hB.size
    gi_wp2_with (gi_at_builtin; refine wpListIn_append_own _ rfl _ _ 22 rfl w.heap.size 66 i0 (.agg #[.slice none 0 0, .int .i64 0, .int .u8 0]) 3 40 Tryz.underlying22 hi0 hz0 hz1 hz2 rfl (by decide) _ _ _ rfl (hrow.alloc _) ⟨W.heap.size, 0, none⟩ 1 1 x.cells rfl rfl (by intro j u hj; rw [Addr.add_lit, Nat.zero_add]; exact raw_new W x j u hj) (fun u hu => flatR_one [x] u (by simpa [flatR] using hu)) (by unfold maxLen; omega) (by omega) (by simp; omega) ?_; intro v' w1 hown' hgrow _; obtain ⟨g', cap', rfl⟩ := ownsRow_succ hown'; obtain ⟨hv1, hv2, hr2, hk2, hb2⟩ := hv.appended (by decide) hrow hB.size hw2 hown' hgrow; have hc1 := hv1.cell; have hf1 := hv1.frozen)
    refine ⟨hk2.from _, KpA.append hv hrow hgrow hb2, ⟨_, hv2, ?_, trivial⟩, hB.trans hb2⟩
    rw [flatR_append]
    simpa [flatR] using hr2
  case done =>
    rintro D xs W hD ⟨hxl, hxs⟩ ⟨⟨v, hv, hrow, _⟩, hB⟩ hK
    have hvc := hv.cell
    have HAL : Hid ((atomsR l c t).length = t.size) := by show _ = _; simp [atomsR]
    have hB2 : Below w.heap.size w (W.putObj D (.deferred none)) := hB.trans (belowK_b (w := w) (Nat.le_refl _) W D _ _ (by have := hbV.size; omega) hK rfl rfl)
    have hrow2 : PickRow (W.putObj D (.deferred none)) w.heap.size v (atomsR l c t) := by
      refine ⟨xs, by rw [HAL.out]; exact hxl, ?_, fun i hi hi' => ?_⟩
      · rw [HAL.out, ← hxl]
        exact ownsRow_putObj hrow _ hK rfl
      · have e : (atomsR l c t)[i] = runAt l c t i := by simp [atomsR]
        rw [e]
        exact (ownS w.heap.size 0 l c t xs W (W.putObj D (.deferred none)) (some D) ⟨hxl, hxs⟩ (grownBy_putObj' _ _ _) (fun r e => by cases e; exact ⟨Nat.zero_le _, _, hK, rfl⟩)).2 i hi'
    obtain ⟨p, k, rfl, hat, _⟩ := hrow2.owns.atoms (Below.refl _ _)
    gi_wp2
    refine ⟨by simp, .inl ⟨_, _, rfl, run_takeDeferred hK, ?_⟩⟩
    exact ⟨_, results_tmp2 rfl _ _ _, p, k, rfl, hat, hrow2, hB2⟩
end Go.Proofs.YtnhjebdlcbhkcacGreat

namespace Go.Proofs.YtnhjebdlcbhkcacGreat

theorem putA_none {a : At} : ∀ (l : List At) (i : Nat), i ≤ l.length → (∀ t (h : t < l.length), t < i → ordA l[t] a < 0) → (∀ t (h : t < l.length), i ≤ t → 0 < ordA l[t] a) → putA a l false = l.take i ++ a :: l.drop i
  | [], i, hi, _, _ => by simp [putA]
  | x :: l, 0, _, _, h2 => by
    have h0 : 0 < ordA x a := h2 0 (by simp) (Nat.le_refl _)
    have hs : stepPut a x false = ([a, x], true) := by unfold stepPut; rw [if_pos h0]; rfl
    show (stepPut a x false).1 ++ putA a l (stepPut a x false).2 = _
    rw [hs]
    show [a, x] ++ putA a l true = _
    rw [putA_true a l (fun y hy => by
      obtain ⟨t, ht, rfl⟩ := List.getElem_of_mem hy
      have := h2 (t + 1) (by simpa using ht) (Nat.zero_le _)
      have h3 := cmpA.anti a l[t]
      simp only [List.getElem_cons_succ] at this
      omega)]
    rfl
  | x :: l, i + 1, hi, h1, h2 => by
    have h0 : ordA x a < 0 := h1 0 (by simp) (by omega)
    have hs : stepPut a x false = ([x], false) := by unfold stepPut; rw [if_neg (by omega), if_neg (by omega)]
    show (stepPut a x false).1 ++ putA a l (stepPut a x false).2 = _
    rw [hs]
    show [x] ++ putA a l false = _
    rw [putA_none l i (by simpa using hi) (fun t ht hti => h1 (t + 1) (by simpa using ht) (by omega)) (fun t ht hti => h2 (t + 1) (by simpa using ht) (by omega))]
    rfl

theorem putA_found {a : At} : ∀ (l : List At) (i : Nat) (hi : i < l.length), l.Pairwise (fun x y => ordA x y < 0) → ordA l[i] a = 0 → putA a l false = l.set i (lessSign a l[i])
  | [], i, hi, _, _ => by simp at hi
  | x :: l, 0, _, hr, h0 => by
    have h0' : ordA x a = 0 := h0
    have p := List.pairwise_cons.1 hr
    have hs : stepPut a x false = ([lessSign a x], true) := by unfold stepPut; rw [if_neg (by omega), if_pos h0']
    show (stepPut a x false).1 ++ putA a l (stepPut a x false).2 = _
    rw [hs]
    show [lessSign a x] ++ putA a l true = _
    rw [putA_true a l (fun y hy => by
      have h1 := p.1 y hy
      have h2 := cmpA.eqv x a y h0'
      omega)]
    rfl
  | x :: l, i + 1, hi, hr, h0 => by
    have p := List.pairwise_cons.1 hr
    have hil : i < l.length := by simpa using hi
    have h0' : ordA l[i] a = 0 := by simpa using h0
    have hx : ordA x a < 0 := by
      have h1 := p.1 l[i] (List.getElem_mem hil)
      have h2 := cmpA.eqv' x l[i] a h0'
      omega
    have hs : stepPut a x false = ([x], false) := by unfold stepPut; rw [if_neg (by omega), if_neg (by omega)]
    show (stepPut a x false).1 ++ putA a l (stepPut a x false).2 = _
    rw [hs]
    show [x] ++ putA a l false = _
    rw [putA_found l i hil p.2 h0']
    simp

theorem parts_rise {l : List At} (h : l.Pairwise (fun x y => ordA x y < 0)) (m : List (Int × Int)) (d : Int) : Parts l m d := by
  intro s t ht hs hn
  exact ordA_trans (c := ⟨m, d, 0⟩) (List.pairwise_iff_getElem.1 h s t (by omega) ht hs) hn

theorem putA_cut {a : At} {l : List At} {i : Nat} (hr : l.Pairwise (fun x y => ordA x y < 0)) (hi : i ≤ l.length) (hc : Cut l a.path a.clock i i) (hn : ¬ ∃ h : i < l.length, ordM l[i].path l[i].clock a.path a.clock = 0) : putA a l false = l.take i ++ a :: l.drop i := by
  refine putA_none l i hi (fun t ht hti => hc.1 t ht hti) (fun t ht hti => ?_)
  have h1 : 0 ≤ ordA l[t] a := hc.2 t ht hti
  rcases Int.lt_or_eq_of_le h1 with h | h
  · exact h
  · exfalso
    by_cases e : t = i
    · subst e; exact hn ⟨ht, h.symm⟩
    · have h2 : ordA (l[i]'(by omega)) l[t] < 0 := List.pairwise_iff_getElem.1 hr i t (by omega) ht (by omega)
      have h3 := cmpA.eqv' (l[i]'(by omega)) l[t] a h.symm
      have h4 := hc.2 i (by omega) (Nat.le_refl _)
      have h5 : ordA (l[i]'(by omega)) a = ordM (l[i]'(by omega)).path (l[i]'(by omega)).clock a.path a.clock := rfl
      omega

/-- atoms that rise, each right, however many -/
structure OkE (l : List At) : Prop where
  each : ∀ x ∈ l, chk x.path x.clock = 0 ∧ isSignB x.sign = true
  rise : l.Pairwise (fun x y => ordA x y < 0)

theorem OkL.okE {l : List At} (h : OkL l) : OkE l := ⟨h.each, h.rise⟩
theorem OkE.okL {l : List At} (h : OkE l) (hl : l.length ≤ 300) : OkL l := ⟨hl, h.each, h.rise⟩

theorem putA_okE {l : List At} {a : At} (h : OkE l) (ha : chk a.path a.clock = 0 ∧ isSignB a.sign = true) : OkE (putA a l false) := by
  obtain ⟨h1, h2⟩ := putA_least a l h.rise
  refine ⟨fun x hx => ?_, h1⟩
  rcases List.mem_cons.1 ((h2 x).1 hx).1 with rfl | hx'
  · exact ha
  · exact h.each x hx'

theorem putL_take_succ (l m : List At) (k : Nat) (h : k < m.length) : putL l (m.take (k + 1)) = putA m[k] (putL l (m.take k)) false := by
  unfold putL
  rw [List.take_succ_eq_append_getElem h, List.foldl_append]; rfl

theorem putL_okE {l m : List At} (h : OkE l) (h' : OkE m) : ∀ k, k ≤ m.length → OkE (putL l (m.take k))
  | 0, _ => by simpa [putL] using h
  | k + 1, hk => by
    rw [putL_take_succ l m k (by omega)]
    exact putA_okE (putL_okE h h' k (by omega)) (h'.each _ (List.getElem_mem _))

theorem putL_len (l m : List At) : ∀ k, k ≤ m.length → (putL l (m.take k)).length ≤ l.length + k
  | 0, _ => by simp [putL]
  | k + 1, hk => by
    rw [putL_take_succ l m k (by omega)]
    have h1 := putL_len l m k (by omega)
    have h2 := putA_len m[k] (putL l (m.take k)) false
    simp at h2
    omega

theorem pickTo_all (l : List At) : ∀ k, k ≤ l.length → pickTo (fun _ => true) l k = l.take k
  | 0, _ => by simp [pickTo]
  | k + 1, hk => by
    show (pickTo (fun _ => true) l k ++ if true = true then l[k]?.toList else []) = _
    rw [pickTo_all l k (by omega), if_pos rfl, List.getElem?_eq_getElem (by omega), List.take_succ_eq_append_getElem (by omega)]; rfl
end Go.Proofs.YtnhjebdlcbhkcacGreat
