/- Contract of run.Runs: what is right. -/
import Derived.Test.YtnhjebdlcbhkcaeGreatRunsC
import Derived.Test.YtnhjebdlcbhkcaeGreatEditPu
import Derived.Test.YtnhjebdlcbhkcaeGreatShapeC
namespace Go.Proofs.YtnhjebdlcbhkcaeGreat
open Go.RowKit Go.Shelf
attribute [local go_sem] Oper.semAt_some

theorem ownRuns {β : Type} (n₀ B Bo : Nat) (f : β → List Rn) : OwnFrom B (fun (s : β) W => ∃ v, Boxed W Bo 44 v ∧ RunRow W n₀ v (f s)) := by
  rintro s W W' row ⟨v, hv, hr⟩ hg hrow
  refine ⟨v, hv.kept hg (fun e => ?_), hr.kept hg (fun g cur t hh _ e => ?_)⟩
  · obtain ⟨_, o, ho, hc⟩ := hrow Bo e.symm
    rw [show W.heap[Bo]? = _ from hv] at ho; cases ho; cases hc
  · obtain ⟨_, o, ho, hc⟩ := hrow g e.symm
    rw [hh] at ho; cases ho; cases hc

theorem rawN_new (w : World) (r : RawN) : ∀ j u, r.cells[j]? = some u → (w.alloc (.cells #[.slice r.p r.n r.cap, .int .i64 r.clock, .string r.text] 59)).cell? ⟨w.heap.size, j, none⟩ = some u := by
  intro j u hj
  rw [World.cell?_alloc_new]
  simpa [RawN.cells] using hj

theorem KpX.append {W w1 : World} {n₀ Bo k : Nat} {v v' : Value} {xs : List Value} {tmp : Obj} (hv : Boxed W Bo 44 v) (hrow : W.ownsRow n₀ 59 3 v k xs) (hgrow : (W.alloc tmp).grownBy w1 v.ownBlock) (hB : Below n₀ W (w1.setCell ⟨Bo, 0, none⟩ v')) : KpX 59 44 n₀ W (w1.setCell ⟨Bo, 0, none⟩ v') := by
  refine ⟨hB, fun j cur t h1 h2 hj => ?_⟩
  have hlt : j < W.heap.size := (Array.getElem?_eq_some_iff.1 hj).1
  have hne : j ≠ Bo := by
    rintro rfl
    rw [show W.heap[j]? = _ from hv] at hj
    cases hj
    exact h2 rfl
  have e1 : (W.alloc tmp).heap[j]? = W.heap[j]? := Below.heap_alloc _ _ _ hlt
  have e2 := hgrow.block j (by simp; omega) (row_typed hrow hj h1)
  have e3 : (w1.setCell ⟨Bo, 0, none⟩ v').heap[j]? = w1.heap[j]? := Below.heap_setCell _ _ _ j (fun e => hne e)
  rw [e3, e2, e1]; exact hj

theorem anyIn_step {F : Fence} {n : Nat} {P : Program} {md : Region.Mode} {ops : Array Oper} {Q : Exit → Act → World → Prop} {fuel : Nat} {listed : Array Bool} {a : Act} {w : World} {rdy : List Nat} (hr : Region.ready md ops listed = rdy) (hne : rdy ≠ []) (h : ∀ i ∈ rdy, wpOpIn F n P ops Q i (wpAnyIn F n P md ops Q fuel (listed.setIfInBounds i true)) a w) : wpAnyIn F n P md ops Q (fuel + 1) listed a w := by
  subst hr
  exact ⟨fun h0 => absurd h0 hne, h⟩

theorem opIn_value {lp n : Nat} {P : Program} {ops : Array Oper} {Q : Exit → Act → World → Prop} {i : Nat} {o : Oper} {a : Act} {w w' : World} {v : Value} {K : Act → World → Prop} (hi : ops[i]? = some o) (hg : o.guard = none) (hd : ∀ c, o.op ≠ .defer c) (hrun : (execOp a.eval o).run P w = .ok (.value v) w') (h : K (a.put o.dst v) w') : wpOpIn (Fence.wide.inRound lp) n P ops Q i K a w := by
  unfold wpOpIn
  rw [hi]
  simp only [Region.wanted, hg, if_true]
  refine ⟨fun _ _ => trivial, ?_⟩
  rw [Oper.semAt_eq _ _ _ hd, hrun]
  exact h

theorem opIn_skip {lp n : Nat} {P : Program} {ops : Array Oper} {Q : Exit → Act → World → Prop} {i : Nat} {o : Oper} {a : Act} {w w' : World} {K : Act → World → Prop} (hi : ops[i]? = some o) (hg : o.guard = none) (hd : ∀ c, o.op ≠ .defer c) (hrun : (execOp a.eval o).run P w = .ok .skip w') (h : K (a.put o.dst undef) w') : wpOpIn (Fence.wide.inRound lp) n P ops Q i K a w := by
  unfold wpOpIn
  rw [hi]
  simp only [Region.wanted, hg, if_true]
  refine ⟨fun _ _ => trivial, ?_⟩
  rw [Oper.semAt_eq _ _ _ hd, hrun]
  exact h

theorem opIn_enter {lp n : Nat} {P : Program} {ops : Array Oper} {Q : Exit → Act → World → Prop} {i : Nat} {o : Oper} {a : Act} {w w' : World} {f : FuncId} {args : Array Value} {R : Ending → World → Prop} {K : Act → World → Prop} (hi : ops[i]? = some o) (hg : o.guard = none) (hd : ∀ c, o.op ≠ .defer c) (hrun : (execOp a.eval o).run P w = .ok (.enter f args) w') (hc : Calls P f args w' R) (h : ∀ e w2, R e w2 → ∃ v, e = .returned v ∧ K (a.put o.dst v) w2) : wpOpIn (Fence.wide.inRound lp) n P ops Q i K a w := by
  unfold wpOpIn
  rw [hi]
  simp only [Region.wanted, hg, if_true]
  refine ⟨fun _ _ => trivial, ?_⟩
  rw [Oper.semAt_eq _ _ _ hd, hrun, Oper.uponIn_enter]
  refine ⟨fun h => by simp [Fence.wide, Fence.inRound] at h, ?_⟩
  refine (CallsIn.inRound lp (callsIn_wide.2 hc)).mono ?_
  intro e w2 hr
  obtain ⟨v, rfl, hk⟩ := h e w2 hr
  exact hk

set_option maxRecDepth 100000 in
set_option maxHeartbeats 4000000 in
theorem runs_ok (a : Option Addr) (cap : Nat) (l : List At) (w : World) (hcap : l.length ≤ cap) (hcm : cap ≤ maxLen) (h : AtomsAt w a l) (h0 : chkL l = 0) :
    Calls Tryz.prog 24 #[.slice a l.length cap] w fun e w' => ∃ p k, e = .returned (.tuple #[.slice p (runsL l).length k, .int .i64 0]) ∧ RunsAt w' p (runsL l) ∧ RunRow w' w.heap.size (.slice p (runsL l).length k) (runsL l) ∧ Below w.heap.size w w' := by
  have ok := okL_of h0
  have h300 := ok.len
  have hl : l.length ≤ maxLen := by unfold maxLen; omega
  have HOK := hidE ok
  have H0 := hidE h0
  clear ok h0
  obtain ⟨i0, hi0, hz0, hz1, hz2⟩ := Tryz.info59
  refine (callsIn_wide (n := 3)).1 ?_
  refine callsIn_of_wp_marks Tryz.func24 rfl trivial ?_ rfl
  simp only [Tryz.ntmps24, List.size_toArray, List.length_cons, List.length_nil, Nat.reduceAdd, Nat.reduceSub, Array.replicate_succ, Array.replicate_zero, List.push_toArray, List.append_toArray, List.nil_append, List.cons_append]
  gi_wp2_with fail
  refine ⟨trivial, (callsIn_wide.2 (atomCheck_any _ _ l _ hl h)).mono ?_⟩
  rintro e w2 ⟨rfl, hb⟩
  rw [H0.out]
  gi_wp2_with fail
  refine ⟨trivial, (callsIn_wide.2 (pieces_any _ a l.length cap rfl _)).mono ?_⟩
  rintro e w4 ⟨rfl, rfl⟩
  have bO : Boxed ((w2.alloc (Obj.cells #[.slice none 0 0] 44)).alloc (Obj.cells #[.slice a l.length cap] 22)) w2.heap.size 44 (.slice none 0 0) := (Boxed.new w2 _ _).alloc _
  have hBx : ((w2.alloc (Obj.cells #[.slice none 0 0] 44)).alloc (Obj.cells #[.slice a l.length cap] 22)).heap[w2.heap.size + 1]? = some (.cells #[.slice a l.length cap] 22 (0, 0)) := by
    have := World.alloc_heap_new (w2.alloc (Obj.cells #[.slice none 0 0] 44)) (Obj.cells #[.slice a l.length cap] 22)
    rwa [World.size_alloc] at this
  have hbV := (hb.alloc hb.size (Obj.cells #[.slice none 0 0] 44)).alloc (by have := hb.size; simp; omega) (Obj.cells #[.slice a l.length cap] 22)
  have hVs : ((w2.alloc (Obj.cells #[.slice none 0 0] 44)).alloc (Obj.cells #[.slice a l.length cap] 22)).heap.size = w2.heap.size + 2 := by simp
  gi_wp2_with fail
  generalize (w2.alloc (Obj.cells #[.slice none 0 0] 44)).alloc (Obj.cells #[.slice a l.length cap] 22) = V at bO hBx hbV hVs ⊢
  have hw2 : w.heap.size ≤ w2.heap.size := hb.size
  clear hb
  obtain ⟨enc, hseq, hpart⟩ := pieces_seq 2 (by decide) (w2.heap.size + 1) a cap w.heap.size l V HOK.out hcap hcm hbV.size hBx (fun W hW => h.below (hbV.trans hW) (Nat.le_refl _))
  refine rangeFunc_w rfl (by decide) (gf := 167) (lb := #[.pointer (some ⟨w2.heap.size + 1, 0, none⟩)]) rfl trivial (enters_of Tryz.func167 (by kernel_rfl) rfl)
    hseq (fun h k => KpX.trans h k) (KpX.put hbV.size) (ownFrom_pure _ (fun (xs : List (Pc l)) => xs.map (·.1) = (pst l l.length).1)) (Below.refl _ _) (fun _ => rfl)
    (fun pre W => (∃ v, Boxed W w2.heap.size 44 v ∧ RunRow W w.heap.size v (pre.map (fun x => runOf l x.1))) ∧ Below w.heap.size w W)
    (OwnFrom.and (ownRuns w.heap.size _ _ (fun (pre : List (Pc l)) => pre.map (fun x => runOf l x.1))) (ownFrom_below (Nat.le_refl _) hbV.size))
    ⟨⟨_, bO, [], rfl, World.ownsRow_nil _ _ _ _, fun i h => by simp at h⟩, hbV⟩
    (fun x a' _ => a' = { tmps := #[.slice a l.length cap, undef, .slice none 0 0, .int .i64 0, .int .i64 0, .pointer (some ⟨w2.heap.size, 0, none⟩), .slice (some ⟨(enc x).1, (enc x).2.1, none⟩) (x.1.2 - x.1.1) (enc x).2.2, .slice a l.length cap, .int .i64 0, .int .i64 0, .bool false, undef, .slice a l.length cap, .func (.func 167) #[] #[.pointer (some ⟨w2.heap.size + 1, 0, none⟩)], .slice (some ⟨(enc x).1, (enc x).2.1, none⟩) (x.1.2 - x.1.1) (enc x).2.2, undef, undef, undef, undef, undef, undef], defers := [] })
    (fun x a' s A B row hs _ _ => hs) ?assign ?body ?done
  case assign =>
    rintro lp pre x W K hi hK
    gi_wp2
    exact hK _ _ (KeepsFrom.refl _ _) (KpX.below (Below.refl _ _) hi.2.size) hi rfl
  case body =>
    rintro lp pre x a' W hlp ⟨⟨v, hv, rs, hrl, hrow, hrr⟩, hB⟩ rfl hlen
    have hvc := hv.cell
    have hvf := hv.frozen
    have hBs := hB.size
    have hBd : Below W.heap.size W W.drew := (Below.refl _ _).drew
    have hx1 := x.2.1
    have hx2 := x.2.2
    have hpl := part_len (l := l) (f := x.1.1) (n := x.1.2 - x.1.1) (by omega)
    have hp0 : (part l x.1.1 (x.1.2 - x.1.1))[0]? = some (l[x.1.1]'(by omega)) := by
      rw [List.getElem?_eq_getElem (by omega), part_get (by omega) (by omega)]; rfl
    have HP0 := hidE hp0
    have hjoin := join_ok (enc x).1 (enc x).2.1 (enc x).2.2 (part l x.1.1 (x.1.2 - x.1.1)) W.drew _ HP0.out (HOK.out.part _ _) (hpart x W.drew ((h.below hB (Nat.le_refl _)).below hBd (Nat.le_refl _)))
    rw [hpl] at hjoin
    clear hp0 hpl
    gi_upto_region 7 with fail
    have hlr : (pre.map (fun x => runOf l x.1)).length = pre.length := by simp
    have hrunOf : runOf l x.1 = ⟨(l[x.1.1]'(by omega)).path, (l[x.1.1]'(by omega)).clock, txtS (part l x.1.1 (x.1.2 - x.1.1))⟩ := by
      unfold runOf; rw [List.getElem?_eq_getElem (by omega)]; rfl
    have hyp := okPath HOK.out x.1.1 (by omega)
    have htx : (txtS (part l x.1.1 (x.1.2 - x.1.1))).size ≤ maxLen := by
      have : (txtS (part l x.1.1 (x.1.2 - x.1.1))).size = (part l x.1.1 (x.1.2 - x.1.1)).length := by unfold txtS; rw [strOfNums_size, List.length_map]
      rw [this, part_len (by omega)]; unfold maxLen; omega
    have HRO := hidE hrunOf
    clear hrunOf HP0
    generalize (l[x.1.1]'(by omega)) = y at hjoin HRO hyp
    generalize txtS (part l x.1.1 (x.1.2 - x.1.1)) = tx at hjoin HRO htx
    have hml : y.path.length ≤ maxLen := by unfold maxLen; omega
    have FIN : Hid (∀ w5 g cap2, w5.ownsRow W.drew.heap.size 124 2 (.slice (some ⟨g, 0, none⟩) y.path.length cap2) y.path.length (flatS y.path) → Below W.drew.heap.size W.drew w5 →
        ∃ g' cap' w6, (Builtin.append_ #[44, 44] 44 #[v, .slice (some ⟨w5.heap.size, 0, none⟩) 1 1]).run Tryz.prog (w5.alloc (Obj.cells #[.slice (some ⟨g, 0, none⟩) y.path.length cap2, .int .i64 y.clock, .string tx] 59)) = .ok (.slice (some ⟨g', 0, none⟩) (pre.length + 1) cap') w6 ∧ w5.cell? ⟨w2.heap.size, 0, none⟩ = some v ∧ (w5.alloc (Obj.cells #[.slice (some ⟨g, 0, none⟩) y.path.length cap2, .int .i64 y.clock, .string tx] 59)).cell? ⟨w2.heap.size, 0, none⟩ = some v ∧ w6.cell? ⟨w2.heap.size, 0, none⟩ = some v ∧ w6.frozen? ⟨w2.heap.size, 0, none⟩ = false ∧
          goesOn V.heap.size (KpX 59 44 w.heap.size) (fun W' => (∃ v, Boxed W' w2.heap.size 44 v ∧ RunRow W' w.heap.size v ((pre ++ [x]).map (fun x => runOf l x.1))) ∧ Below w.heap.size w W') W .normal { tmps := #[], defers := [] } (w6.setCell ⟨w2.heap.size, 0, none⟩ (.slice (some ⟨g', 0, none⟩) (pre.length + 1) cap'))) := by
      intro w5 g cap2 hownS hb5
      have hbW5 : Below W.heap.size W w5 := hBd.thru hb5 (Nat.le_refl _)
      have hrow5 := owns_below hrow hbW5
      have hv5 := hv.kept (below_grownX hbW5) (by simp)
      have hs5 := hbW5.size
      obtain ⟨v', w6, hrun, hown6, hgrow, _⟩ := run_append_own (P := Tryz.prog) (w5.alloc (Obj.cells #[.slice (some ⟨g, 0, none⟩) y.path.length cap2, .int .i64 y.clock, .string tx] 59)) w.heap.size 44 44 59 i0 (.agg #[.slice none 0 0, .int .i64 0, .string ⟨#[]⟩]) 3 48 Tryz.underlying44 hi0 hz0 hz1 hz2 rfl (by decide) v _ _ (hrow5.alloc _) ⟨w5.heap.size, 0, none⟩ 1 1 (⟨some ⟨g, 0, none⟩, y.path.length, cap2, y.clock, tx⟩ : RawN).cells rfl (by intro j u hj; rw [Addr.add_lit, Nat.zero_add]; exact rawN_new w5 (⟨some ⟨g, 0, none⟩, y.path.length, cap2, y.clock, tx⟩ : RawN) j u hj) (fun u hu => flatN_one [(⟨some ⟨g, 0, none⟩, y.path.length, cap2, y.clock, tx⟩ : RawN)] u (by simpa [flatN] using hu)) (by rw [hlr]; unfold maxLen; omega) (by rw [hlr]; omega) (by simp; omega)
      obtain ⟨g', cap', rfl⟩ := ownsRow_succ hown6
      rw [hlr] at hrun hown6
      obtain ⟨hv1, hv2, hr2, hk2, hb2⟩ := hv5.appended (by decide) hrow5 (by omega) hw2 hown6 hgrow
      refine ⟨g', cap', w6, hrun, hv5.cell, (hv5.alloc _).cell, hv1.cell, hv1.frozen, ?_⟩
      have hne : ∀ g cur, (w5.alloc (Obj.cells #[.slice (some ⟨g, 0, none⟩) y.path.length cap2, .int .i64 y.clock, .string tx] 59)).heap[g]? = some (.cells cur 124 (0, 0)) → some g ≠ v.ownBlock := fun g cur e => row_typed (hrow5.alloc _) e (by decide)
      have hrr6 : RunRow w6 w.heap.size (.slice (some ⟨g', 0, none⟩) (pre.length + 1) cap') (pre.map (fun x => runOf l x.1) ++ [runOf l x.1]) := by
        refine RunRow.snoc (w := w5.alloc (Obj.cells #[.slice (some ⟨g, 0, none⟩) y.path.length cap2, .int .i64 y.clock, .string tx] 59)) (r := (⟨some ⟨g, 0, none⟩, y.path.length, cap2, y.clock, tx⟩ : RawN)) hrl (hrow5.alloc _) (fun i hi hi' => ?_) ?_ hgrow (by rw [hlr]; exact hown6)
        · exact ((hrr i hi hi').kept (below_grownX hbW5) (by simp)).kept (World.grownBy_alloc _ _ none) (by simp)
        · rw [HRO.out]
          exact ⟨g, cap2, rfl, (owns_base hownS hBs).alloc _, hml, htx⟩
      have hk7 : KeepsOthers W (w6.setCell ⟨w2.heap.size, 0, none⟩ (.slice (some ⟨g', 0, none⟩) (pre.length + 1) cap')) := (KeepsOthers.of_grownBy (below_grownX hbW5) (fun j o e => by cases e)).trans hk2
      refine ⟨hk7.from _, (KpX.below hbW5 hBs).trans (KpX.append hv5 hrow5 hgrow hb2), ⟨_, hv2, ?_⟩, (hB.thru hbW5 hBs).trans hb2⟩
      rw [List.map_append]
      exact hrr6.kept (grownBy_setCell' _ _ _) (fun g cur t hh ht e => by
        cases e
        rw [show w6.heap[w2.heap.size]? = _ from hv1] at hh
        cases hh
        rcases ht with h | h <;> exact absurd h (by decide))
    have mixed : Tryz.prog.follows Departure.mixedOrders = true := by kernel_rfl
    refine wpIn_region_any mixed ?_
    refine anyIn_step (rdy := [0, 1]) (by kernel_rfl) (by simp) ?_
    intro i hi
    rcases (show i = 0 ∨ i = 1 by simpa using hi) with rfl | rfl
    · clear hi
      refine opIn_value rfl rfl (by intro c h; cases h) (v := v) (w' := W.drew) (by go_simp) ?_
      refine anyIn_step (rdy := [1]) (by kernel_rfl) (by simp) ?_
      intro i hi
      obtain rfl : i = 1 := by simpa using hi
      clear hi
      refine opIn_value rfl rfl (by intro c h; cases h) (v := .slice (some ⟨(enc x).1, (enc x).2.1, none⟩) (x.1.2 - x.1.1) (enc x).2.2) (w' := W.drew) (by go_simp) ?_
      refine anyIn_step (rdy := [2]) (by kernel_rfl) (by simp) ?_
      intro i hi
      obtain rfl : i = 2 := by simpa using hi
      clear hi
      refine opIn_enter rfl rfl (by intro c h; cases h) (f := 79) (args := #[.slice (some ⟨(enc x).1, (enc x).2.1, none⟩) (x.1.2 - x.1.1) (enc x).2.2]) (w' := W.drew) (by go_simp) hjoin ?_
      rintro e w5 ⟨g, cap2, rfl, hownS, hb5⟩
      obtain ⟨g', cap', w6, hrun, hc5, hc5', hc6, hf6, hfin⟩ := FIN.out w5 g cap2 hownS hb5
      refine ⟨_, rfl, ?_⟩
      refine anyIn_step (rdy := [3]) (by kernel_rfl) (by simp) ?_
      intro i hi
      obtain rfl : i = 3 := by simpa using hi
      clear hi
      refine opIn_value rfl rfl (by intro c h; cases h) (v := .slice (some ⟨w5.heap.size, 0, none⟩) 1 1) (w' := w5.alloc (Obj.cells #[.slice (some ⟨g, 0, none⟩) y.path.length cap2, .int .i64 y.clock, .string tx] 59)) (by go_simp) ?_
      refine anyIn_step (rdy := [4]) (by kernel_rfl) (by simp) ?_
      intro i hi
      obtain rfl : i = 4 := by simpa using hi
      clear hi
      refine opIn_value rfl rfl (by intro c h; cases h) (v := .slice (some ⟨g', 0, none⟩) (pre.length + 1) cap') (w' := w6) (by simp [execOp, resolve, invoke, builtin, Act.eval, Act.put, hrun, Result.andThen]) ?_
      refine anyIn_step (rdy := [5]) (by kernel_rfl) (by simp) ?_
      intro i hi
      obtain rfl : i = 5 := by simpa using hi
      clear hi
      refine opIn_skip rfl rfl (by intro c h; cases h) (w' := w6.setCell ⟨w2.heap.size, 0, none⟩ (.slice (some ⟨g', 0, none⟩) (pre.length + 1) cap')) (by go_simp) ?_
      exact ⟨by kernel_rfl, hfin⟩
    · clear hi
      refine opIn_value rfl rfl (by intro c h; cases h) (v := .slice (some ⟨(enc x).1, (enc x).2.1, none⟩) (x.1.2 - x.1.1) (enc x).2.2) (w' := W.drew) (by go_simp) ?_
      refine anyIn_step (rdy := [0, 2]) (by kernel_rfl) (by simp) ?_
      intro i hi
      rcases (show i = 0 ∨ i = 2 by simpa using hi) with rfl | rfl
      · clear hi
        refine opIn_value rfl rfl (by intro c h; cases h) (v := v) (w' := W.drew) (by go_simp) ?_
        refine anyIn_step (rdy := [2]) (by kernel_rfl) (by simp) ?_
        intro i hi
        obtain rfl : i = 2 := by simpa using hi
        clear hi
        refine opIn_enter rfl rfl (by intro c h; cases h) (f := 79) (args := #[.slice (some ⟨(enc x).1, (enc x).2.1, none⟩) (x.1.2 - x.1.1) (enc x).2.2]) (w' := W.drew) (by go_simp) hjoin ?_
        rintro e w5 ⟨g, cap2, rfl, hownS, hb5⟩
        obtain ⟨g', cap', w6, hrun, hc5, hc5', hc6, hf6, hfin⟩ := FIN.out w5 g cap2 hownS hb5
        refine ⟨_, rfl, ?_⟩
        refine anyIn_step (rdy := [3]) (by kernel_rfl) (by simp) ?_
        intro i hi
        obtain rfl : i = 3 := by simpa using hi
        clear hi
        refine opIn_value rfl rfl (by intro c h; cases h) (v := .slice (some ⟨w5.heap.size, 0, none⟩) 1 1) (w' := w5.alloc (Obj.cells #[.slice (some ⟨g, 0, none⟩) y.path.length cap2, .int .i64 y.clock, .string tx] 59)) (by go_simp) ?_
        refine anyIn_step (rdy := [4]) (by kernel_rfl) (by simp) ?_
        intro i hi
        obtain rfl : i = 4 := by simpa using hi
        clear hi
        refine opIn_value rfl rfl (by intro c h; cases h) (v := .slice (some ⟨g', 0, none⟩) (pre.length + 1) cap') (w' := w6) (by simp [execOp, resolve, invoke, builtin, Act.eval, Act.put, hrun, Result.andThen]) ?_
        refine anyIn_step (rdy := [5]) (by kernel_rfl) (by simp) ?_
        intro i hi
        obtain rfl : i = 5 := by simpa using hi
        clear hi
        refine opIn_skip rfl rfl (by intro c h; cases h) (w' := w6.setCell ⟨w2.heap.size, 0, none⟩ (.slice (some ⟨g', 0, none⟩) (pre.length + 1) cap')) (by go_simp) ?_
        exact ⟨by kernel_rfl, hfin⟩
      · clear hi
        refine opIn_enter rfl rfl (by intro c h; cases h) (f := 79) (args := #[.slice (some ⟨(enc x).1, (enc x).2.1, none⟩) (x.1.2 - x.1.1) (enc x).2.2]) (w' := W.drew) (by go_simp) hjoin ?_
        rintro e w5 ⟨g, cap2, rfl, hownS, hb5⟩
        obtain ⟨g', cap', w6, hrun, hc5, hc5', hc6, hf6, hfin⟩ := FIN.out w5 g cap2 hownS hb5
        refine ⟨_, rfl, ?_⟩
        refine anyIn_step (rdy := [0, 3]) (by kernel_rfl) (by simp) ?_
        intro i hi
        rcases (show i = 0 ∨ i = 3 by simpa using hi) with rfl | rfl
        · clear hi
          refine opIn_value rfl rfl (by intro c h; cases h) (v := v) (w' := w5) (by go_simp) ?_
          refine anyIn_step (rdy := [3]) (by kernel_rfl) (by simp) ?_
          intro i hi
          obtain rfl : i = 3 := by simpa using hi
          clear hi
          refine opIn_value rfl rfl (by intro c h; cases h) (v := .slice (some ⟨w5.heap.size, 0, none⟩) 1 1) (w' := w5.alloc (Obj.cells #[.slice (some ⟨g, 0, none⟩) y.path.length cap2, .int .i64 y.clock, .string tx] 59)) (by go_simp) ?_
          refine anyIn_step (rdy := [4]) (by kernel_rfl) (by simp) ?_
          intro i hi
          obtain rfl : i = 4 := by simpa using hi
          clear hi
          refine opIn_value rfl rfl (by intro c h; cases h) (v := .slice (some ⟨g', 0, none⟩) (pre.length + 1) cap') (w' := w6) (by simp [execOp, resolve, invoke, builtin, Act.eval, Act.put, hrun, Result.andThen]) ?_
          refine anyIn_step (rdy := [5]) (by kernel_rfl) (by simp) ?_
          intro i hi
          obtain rfl : i = 5 := by simpa using hi
          clear hi
          refine opIn_skip rfl rfl (by intro c h; cases h) (w' := w6.setCell ⟨w2.heap.size, 0, none⟩ (.slice (some ⟨g', 0, none⟩) (pre.length + 1) cap')) (by go_simp) ?_
          exact ⟨by kernel_rfl, hfin⟩
        · clear hi
          refine opIn_value rfl rfl (by intro c h; cases h) (v := .slice (some ⟨w5.heap.size, 0, none⟩) 1 1) (w' := w5.alloc (Obj.cells #[.slice (some ⟨g, 0, none⟩) y.path.length cap2, .int .i64 y.clock, .string tx] 59)) (by go_simp) ?_
          refine anyIn_step (rdy := [0]) (by kernel_rfl) (by simp) ?_
          intro i hi
          obtain rfl : i = 0 := by simpa using hi
          clear hi
          refine opIn_value rfl rfl (by intro c h; cases h) (v := v) (w' := (w5.alloc (Obj.cells #[.slice (some ⟨g, 0, none⟩) y.path.length cap2, .int .i64 y.clock, .string tx] 59))) (by go_simp) ?_
          refine anyIn_step (rdy := [4]) (by kernel_rfl) (by simp) ?_
          intro i hi
          obtain rfl : i = 4 := by simpa using hi
          clear hi
          refine opIn_value rfl rfl (by intro c h; cases h) (v := .slice (some ⟨g', 0, none⟩) (pre.length + 1) cap') (w' := w6) (by simp [execOp, resolve, invoke, builtin, Act.eval, Act.put, hrun, Result.andThen]) ?_
          refine anyIn_step (rdy := [5]) (by kernel_rfl) (by simp) ?_
          intro i hi
          obtain rfl : i = 5 := by simpa using hi
          clear hi
          refine opIn_skip rfl rfl (by intro c h; cases h) (w' := w6.setCell ⟨w2.heap.size, 0, none⟩ (.slice (some ⟨g', 0, none⟩) (pre.length + 1) cap')) (by go_simp) ?_
          exact ⟨by kernel_rfl, hfin⟩
  case done =>
    rintro D xs W hD hxs ⟨⟨v, hv, hrow⟩, hB⟩ hK
    have hvc := hv.cell
    have HXS : Hid (xs.map (fun x => runOf l x.1) = runsL l) := by
      show _ = _
      unfold runsL
      rw [← hxs, List.map_map]; rfl
    have hB2 : Below w.heap.size w (W.putObj D (.deferred none)) := hB.trans (belowK_b (w := w) (Nat.le_refl _) W D _ _ (by have := hbV.size; omega) hK rfl rfl)
    have hrow2 : RunRow (W.putObj D (.deferred none)) w.heap.size v (runsL l) := by
      rw [← HXS.out]
      exact hrow.kept (grownBy_putObj' _ _ _) (fun g cur t hh _ e => by cases e; rw [hK] at hh; cases hh)
    obtain ⟨p, k, rfl, hat, _⟩ := hrow2.runs
    gi_wp2
    refine ⟨by simp, .inl ⟨_, _, rfl, run_takeDeferred hK, ?_⟩⟩
    exact ⟨_, results_tmp2 rfl _ _ _, p, k, rfl, hat, hrow2, hB2⟩
end Go.Proofs.YtnhjebdlcbhkcaeGreat

namespace Go.Proofs.YtnhjebdlcbhkcaeGreat
open Go.RowKit

theorem runsL_lenE (l : List At) : (runsL l).length ≤ l.length := by
  have key : ∀ k, (pst l k).1.length ≤ k := by
    intro k
    induction k with
    | zero => simp [pst]
    | succ k ih =>
      unfold pst
      split
      · omega
      · simp; omega
  have := key l.length
  simpa [runsL] using this

set_option maxHeartbeats 400000 in
theorem putR_one (p : Option Addr) (n cap : Nat) (c : Int) (t : ByteArray) (w : World) :
    Calls Tryz.prog 85 #[.agg #[.slice p n cap, .int .i64 c, .string t]] w fun e w' => e = .returned (.agg #[.int .i64 1, .slice p n cap, .int .i64 c, .string t, .slice none 0 0, .int .i64 0, .int .i64 0]) ∧ Below w.heap.size w w' := by
  go_enter Tryz.func85, Tryz.ntmps85
  go_wp2
  refine bodyPost_ret (v := .agg #[.int .i64 1, .slice p n cap, .int .i64 c, .string t, .slice none 0 0, .int .i64 0, .int .i64 0]) (by simp [results, Tryz.results85, go_sem]) rfl ⟨rfl, ?_⟩
  exact ((Below.refl _ _).alloc (Nat.le_refl _) _).alloc (by simp) _

set_option maxRecDepth 100000 in
set_option maxHeartbeats 2000000 in
theorem putR_eachS (a : Option Addr) (cap : Nat) (l : List At) (w : World) (hcap : l.length ≤ cap) (hcm : cap ≤ maxLen) (h : AtomsAt w a l) (h0 : chkL l = 0) :
    Calls Tryz.prog 84 #[.slice a l.length cap, .func (.func 85) #[] #[]] w fun e w' => ∃ p k, e = .returned (.slice p (runsL l).length k) ∧ DeedsAt w' p ((runsL l).map putDd) ∧ Below w.heap.size w w' ∧ ShD w' w.heap.size p (runsL l).length := by
  have hlen : (runsL l).length ≤ 300 := by
    have h1 := runsL_lenE l
    have h2 := (okL_of h0).len
    omega
  have HR := hidE (runs_ok a cap l w hcap hcm h h0)
  clear h h0 hcap hcm
  generalize l.length = ln at HR ⊢
  generalize runsL l = rl at HR hlen ⊢
  clear l
  go_enter Tryz.func84, Tryz.ntmps84
  go_wp2_with fail
  refine HR.out.mono ?_
  rintro e w2 ⟨p, k, rfl, hat, hrr, hb2⟩
  clear HR
  obtain ⟨i0, hi0, hz0, hz1, hz2⟩ := Tryz.info64
  go_wp2_with fail
  go_loopw [7, 17] (fun v i wr => ∃ j : Nat, j ≤ rl.length ∧ i = .int .i64 j ∧ ∃ rs, OwnsDd w2 wr w2.heap.size v rs ∧ rs.map RawD.d = (rl.take j).map putDd ∧ Below w2.heap.size w2 wr ∧ ∀ r ∈ rs, ShS w2 w.heap.size r.p r.d.rp.length ∧ ShS w2 w.heap.size r.q r.d.mp.length ∧ r.d.rp.length ≤ maxLen ∧ r.d.mp.length ≤ maxLen) (fun _ i _ => rl.length - (intOf i).toNat)
  case atStart => exact ⟨0, Nat.zero_le _, rfl, [], OwnsDd.nil _ _ _, by simp, Below.refl _ _, fun r h => by simp at h⟩
  case round =>
    obtain ⟨j, hj, rfl, rs, hrow, hmap, hb, hsh⟩ := hrel
    have HSH := hidE hsh
    clear hsh
    have hrl : rs.length = j := by
      have := congrArg List.length hmap
      simp at this; omega
    by_cases hlt : j < rl.length
    · have hat2 := hat
      rcases hat2 with hs | ⟨bb, oo, rfl, hbb, hc⟩
      · simp [hs] at hlt
      obtain ⟨pp, cp, c0, c1, c2, hst, hpl, htl⟩ := hc j hlt
      have HPS := hidE (RunRow.path hrr hlt c0)
      have HPM := hidE hpl
      clear hc
      have HTK : Hid ((rl.take (j + 1)).map putDd = (rl.take j).map putDd ++ [putDd rl[j]]) := by
        show (rl.take (j + 1)).map putDd = (rl.take j).map putDd ++ [putDd rl[j]]
        rw [List.take_succ_eq_append_getElem hlt, List.map_append]; rfl
      have HMAP := hidE hmap
      clear hmap
      generalize rl[j] = x at *
      have hi1 : (j : Int) < (rl.length : Int) := by omega
      replace c0 := (hb.cell (p := ⟨bb, oo + j * 3, none⟩) hbb).trans c0
      replace c1 := (hb.cell (p := ⟨bb, oo + j * 3 + 1, none⟩) hbb).trans c1
      replace c2 := (hb.cell (p := ⟨bb, oo + j * 3 + 2, none⟩) hbb).trans c2
      have HAT : Hid (RawD.At w2 ⟨putDd x, pp, none, cp, 0⟩) := ⟨⟨hst, Or.inl rfl, hpl, Nat.zero_le _, htl⟩, by show (-9223372036854775808 : Int) ≤ 0; decide, by show (0 : Int) ≤ 9223372036854775807; decide⟩
      have HLN : Hid (rl.length ≤ 300) := hidE hlen
      clear hst hpl hat
      go_wp2_with fail
      refine (putR_one _ _ _ _ _ _).mono ?_
      rintro e w3 ⟨rfl, hb3⟩
      have hbx := hb.alloc hb.size (Obj.cells #[.slice pp x.path.length cp, .int .i64 x.clock, .string x.text] 59)
      have hB3 := hbx.thru hb3 hbx.size
      have hRN := rawD_new w3 ⟨putDd x, pp, none, cp, 0⟩
      have hown := (owns_below (hrow.1.alloc (Obj.cells #[.slice pp x.path.length cp, .int .i64 x.clock, .string x.text] 59)) hb3).alloc (Obj.cells #[.int .i64 1, .slice pp x.path.length cp, .int .i64 x.clock, .string x.text, .slice none 0 0, .int .i64 0, .int .i64 0] 64)
      have HEA := hidE hrow.2
      have hB4 := hB3.alloc hB3.size (Obj.cells #[.int .i64 1, .slice pp x.path.length cp, .int .i64 x.clock, .string x.text, .slice none 0 0, .int .i64 0, .int .i64 0] 64)
      have hbase : w2.heap.size ≤ (w3.alloc (Obj.cells #[.int .i64 1, .slice pp x.path.length cp, .int .i64 x.clock, .string x.text, .slice none 0 0, .int .i64 0, .int .i64 0] 64)).heap.size := hB4.size
      clear hrow c0 c1 c2
      go_wp2_with (at_builtin; refine wpList_append_own _ rfl _ _ 26 rfl w2.heap.size 64 i0 (.agg #[.int .i64 0, .slice none 0 0, .int .i64 0, .string ⟨#[]⟩, .slice none 0 0, .int .i64 0, .int .i64 0]) 7 96 Tryz.underlying26 hi0 hz0 hz1 hz2 rfl (by decide) _ _ _ rfl hown ⟨w3.heap.size, 0, none⟩ 1 1 (⟨putDd x, pp, none, cp, 0⟩ : RawD).cells rfl rfl ?qa3 ?qa2 ?qa4 ?qa5 hbase ?_)
      case qa3 => intro j u hj; rw [Addr.add_lit, Nat.zero_add]; exact hRN j u hj
      case qa2 => exact fun u hu => flatD_one [(⟨putDd x, pp, none, cp, 0⟩ : RawD)] u (by simpa [flatD] using hu)
      case qa4 => have := HLN.out; unfold maxLen; omega
      case qa5 => have := HLN.out; omega
      intro v' w5 hown5 hgrow _
      have hb5 := hB4.grown hgrow hbase (fun j hj => (hown.lt j hj).1)
      have hrow5 : OwnsDd w2 w5 w2.heap.size v' (rs ++ [⟨putDd x, pp, none, cp, 0⟩]) := by
        refine ⟨?_, fun y hy => ?_⟩
        · rw [flatD_append, List.length_append, hrl]
          exact hown5
        · rcases List.mem_append.1 hy with hy | hy
          · exact HEA.out y hy
          · rw [List.mem_singleton.1 hy]; exact HAT.out
      have hmap5 : (rs ++ [(⟨putDd x, pp, none, cp, 0⟩ : RawD)]).map RawD.d = (rl.take (j + 1)).map putDd := by
        rw [HTK.out, List.map_append, HMAP.out]; rfl
      have HR5 := hidE hrow5
      have HM5 := hidE hmap5
      clear hown5 hgrow hrow5 hmap5 hown hRN HTK HMAP
      go_wp2_with fail
      go_roundw
      case rel => exact ⟨j + 1, by omega, by go_num, _, HR5.out, HM5.out, hb5, fun r hr => by
        rcases List.mem_append.1 hr with h | h
        · exact HSH.out r h
        · rw [List.mem_singleton.1 h]; exact ⟨HPS.out, Or.inl rfl, HPM.out, Nat.zero_le _⟩⟩
      case measure => simp [intOf]; omega
    · have hje : j = rl.length := by omega
      subst hje
      rw [List.take_length] at hmap
      obtain ⟨p', k', rfl, hd⟩ := hrow.deeds hb
      rw [hmap] at hd
      have HSD := hidE (ShD.dd hrow rfl hb2.size (fun r hr => ⟨(HSH.out r hr).1.sp (SpG.of_below hb hb2.size), (HSH.out r hr).2.1.sp (SpG.of_below hb hb2.size), (HSH.out r hr).2.2⟩))
      have hB := hb2.trans (hb.mono hb2.size)
      have HD := hidE hd
      clear hrow hmap hd
      go_wp2_with fail
      go_ret
      exact ⟨p', k', by rw [hrl]; rfl, HD.out, hB, by rw [← hrl]; exact HSD.out⟩
set_option maxHeartbeats 400000 in
theorem takeR_one (p : Option Addr) (n cap : Nat) (c : Int) (t : ByteArray) (w : World) :
    Calls Tryz.prog 87 #[.agg #[.slice p n cap, .int .i64 c, .string t]] w fun e w' => e = .returned (.agg #[.int .i64 2, .slice none 0 0, .int .i64 0, .string ⟨#[]⟩, .slice p n cap, .int .i64 c, .int .i64 (t.size : Int)]) ∧ Below w.heap.size w w' := by
  go_enter Tryz.func87, Tryz.ntmps87
  go_wp2
  refine bodyPost_ret (v := .agg #[.int .i64 2, .slice none 0 0, .int .i64 0, .string ⟨#[]⟩, .slice p n cap, .int .i64 c, .int .i64 (t.size : Int)]) (by simp [results, Tryz.results87, go_sem]) rfl ⟨rfl, ?_⟩
  exact ((Below.refl _ _).alloc (Nat.le_refl _) _).alloc (by simp) _

set_option maxRecDepth 100000 in
set_option maxHeartbeats 2000000 in
theorem takeR_eachS (a : Option Addr) (cap : Nat) (l : List At) (w : World) (hcap : l.length ≤ cap) (hcm : cap ≤ maxLen) (h : AtomsAt w a l) (h0 : chkL l = 0) :
    Calls Tryz.prog 84 #[.slice a l.length cap, .func (.func 87) #[] #[]] w fun e w' => ∃ p k, e = .returned (.slice p (runsL l).length k) ∧ DeedsAt w' p ((runsL l).map takeDd) ∧ Below w.heap.size w w' ∧ ShD w' w.heap.size p (runsL l).length := by
  have hlen : (runsL l).length ≤ 300 := by
    have h1 := runsL_lenE l
    have h2 := (okL_of h0).len
    omega
  have HR := hidE (runs_ok a cap l w hcap hcm h h0)
  clear h h0 hcap hcm
  generalize l.length = ln at HR ⊢
  generalize runsL l = rl at HR hlen ⊢
  clear l
  go_enter Tryz.func84, Tryz.ntmps84
  go_wp2_with fail
  refine HR.out.mono ?_
  rintro e w2 ⟨p, k, rfl, hat, hrr, hb2⟩
  clear HR
  obtain ⟨i0, hi0, hz0, hz1, hz2⟩ := Tryz.info64
  go_wp2_with fail
  go_loopw [7, 17] (fun v i wr => ∃ j : Nat, j ≤ rl.length ∧ i = .int .i64 j ∧ ∃ rs, OwnsDd w2 wr w2.heap.size v rs ∧ rs.map RawD.d = (rl.take j).map takeDd ∧ Below w2.heap.size w2 wr ∧ ∀ r ∈ rs, ShS w2 w.heap.size r.p r.d.rp.length ∧ ShS w2 w.heap.size r.q r.d.mp.length ∧ r.d.rp.length ≤ maxLen ∧ r.d.mp.length ≤ maxLen) (fun _ i _ => rl.length - (intOf i).toNat)
  case atStart => exact ⟨0, Nat.zero_le _, rfl, [], OwnsDd.nil _ _ _, by simp, Below.refl _ _, fun r h => by simp at h⟩
  case round =>
    obtain ⟨j, hj, rfl, rs, hrow, hmap, hb, hsh⟩ := hrel
    have HSH := hidE hsh
    clear hsh
    have hrl : rs.length = j := by
      have := congrArg List.length hmap
      simp at this; omega
    by_cases hlt : j < rl.length
    · have hat2 := hat
      rcases hat2 with hs | ⟨bb, oo, rfl, hbb, hc⟩
      · simp [hs] at hlt
      obtain ⟨pp, cp, c0, c1, c2, hst, hpl, htl⟩ := hc j hlt
      have HPS := hidE (RunRow.path hrr hlt c0)
      have HPM := hidE hpl
      clear hc
      have HTK : Hid ((rl.take (j + 1)).map takeDd = (rl.take j).map takeDd ++ [takeDd rl[j]]) := by
        show (rl.take (j + 1)).map takeDd = (rl.take j).map takeDd ++ [takeDd rl[j]]
        rw [List.take_succ_eq_append_getElem hlt, List.map_append]; rfl
      have HMAP := hidE hmap
      clear hmap
      generalize rl[j] = x at *
      have hi1 : (j : Int) < (rl.length : Int) := by omega
      replace c0 := (hb.cell (p := ⟨bb, oo + j * 3, none⟩) hbb).trans c0
      replace c1 := (hb.cell (p := ⟨bb, oo + j * 3 + 1, none⟩) hbb).trans c1
      replace c2 := (hb.cell (p := ⟨bb, oo + j * 3 + 2, none⟩) hbb).trans c2
      have HAT : Hid (RawD.At w2 ⟨takeDd x, none, pp, 0, cp⟩) := ⟨⟨Or.inl rfl, hst, Nat.zero_le _, hpl, Nat.zero_le _⟩, by show (-9223372036854775808 : Int) ≤ (x.text.size : Int); omega, by show (x.text.size : Int) ≤ 9223372036854775807; unfold maxLen at htl; omega⟩
      have HLN : Hid (rl.length ≤ 300) := hidE hlen
      clear hst hpl hat
      go_wp2_with fail
      refine (takeR_one _ _ _ _ _ _).mono ?_
      rintro e w3 ⟨rfl, hb3⟩
      have hbx := hb.alloc hb.size (Obj.cells #[.slice pp x.path.length cp, .int .i64 x.clock, .string x.text] 59)
      have hB3 := hbx.thru hb3 hbx.size
      have hRN := rawD_new w3 ⟨takeDd x, none, pp, 0, cp⟩
      have hown := (owns_below (hrow.1.alloc (Obj.cells #[.slice pp x.path.length cp, .int .i64 x.clock, .string x.text] 59)) hb3).alloc (Obj.cells #[.int .i64 2, .slice none 0 0, .int .i64 0, .string ⟨#[]⟩, .slice pp x.path.length cp, .int .i64 x.clock, .int .i64 (x.text.size : Int)] 64)
      have HEA := hidE hrow.2
      have hB4 := hB3.alloc hB3.size (Obj.cells #[.int .i64 2, .slice none 0 0, .int .i64 0, .string ⟨#[]⟩, .slice pp x.path.length cp, .int .i64 x.clock, .int .i64 (x.text.size : Int)] 64)
      have hbase : w2.heap.size ≤ (w3.alloc (Obj.cells #[.int .i64 2, .slice none 0 0, .int .i64 0, .string ⟨#[]⟩, .slice pp x.path.length cp, .int .i64 x.clock, .int .i64 (x.text.size : Int)] 64)).heap.size := hB4.size
      clear hrow c0 c1 c2
      go_wp2_with (at_builtin; refine wpList_append_own _ rfl _ _ 26 rfl w2.heap.size 64 i0 (.agg #[.int .i64 0, .slice none 0 0, .int .i64 0, .string ⟨#[]⟩, .slice none 0 0, .int .i64 0, .int .i64 0]) 7 96 Tryz.underlying26 hi0 hz0 hz1 hz2 rfl (by decide) _ _ _ rfl hown ⟨w3.heap.size, 0, none⟩ 1 1 (⟨takeDd x, none, pp, 0, cp⟩ : RawD).cells rfl rfl ?qa3 ?qa2 ?qa4 ?qa5 hbase ?_)
      case qa3 => intro j u hj; rw [Addr.add_lit, Nat.zero_add]; exact hRN j u hj
      case qa2 => exact fun u hu => flatD_one [(⟨takeDd x, none, pp, 0, cp⟩ : RawD)] u (by simpa [flatD] using hu)
      case qa4 => have := HLN.out; unfold maxLen; omega
      case qa5 => have := HLN.out; omega
      intro v' w5 hown5 hgrow _
      have hb5 := hB4.grown hgrow hbase (fun j hj => (hown.lt j hj).1)
      have hrow5 : OwnsDd w2 w5 w2.heap.size v' (rs ++ [⟨takeDd x, none, pp, 0, cp⟩]) := by
        refine ⟨?_, fun y hy => ?_⟩
        · rw [flatD_append, List.length_append, hrl]
          exact hown5
        · rcases List.mem_append.1 hy with hy | hy
          · exact HEA.out y hy
          · rw [List.mem_singleton.1 hy]; exact HAT.out
      have hmap5 : (rs ++ [(⟨takeDd x, none, pp, 0, cp⟩ : RawD)]).map RawD.d = (rl.take (j + 1)).map takeDd := by
        rw [HTK.out, List.map_append, HMAP.out]; rfl
      have HR5 := hidE hrow5
      have HM5 := hidE hmap5
      clear hown5 hgrow hrow5 hmap5 hown hRN HTK HMAP
      go_wp2_with fail
      go_roundw
      case rel => exact ⟨j + 1, by omega, by go_num, _, HR5.out, HM5.out, hb5, fun r hr => by
        rcases List.mem_append.1 hr with h | h
        · exact HSH.out r h
        · rw [List.mem_singleton.1 h]; exact ⟨Or.inl rfl, HPS.out, Nat.zero_le _, HPM.out⟩⟩
      case measure => simp [intOf]; omega
    · have hje : j = rl.length := by omega
      subst hje
      rw [List.take_length] at hmap
      obtain ⟨p', k', rfl, hd⟩ := hrow.deeds hb
      rw [hmap] at hd
      have HSD := hidE (ShD.dd hrow rfl hb2.size (fun r hr => ⟨(HSH.out r hr).1.sp (SpG.of_below hb hb2.size), (HSH.out r hr).2.1.sp (SpG.of_below hb hb2.size), (HSH.out r hr).2.2⟩))
      have hB := hb2.trans (hb.mono hb2.size)
      have HD := hidE hd
      clear hrow hmap hd
      go_wp2_with fail
      go_ret
      exact ⟨p', k', by rw [hrl]; rfl, HD.out, hB, by rw [← hrl]; exact HSD.out⟩
end Go.Proofs.YtnhjebdlcbhkcaeGreat
