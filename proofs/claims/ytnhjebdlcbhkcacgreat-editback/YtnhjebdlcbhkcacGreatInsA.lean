/- Contract of slices.Insert at atoms, one at a time, into a row that the call owns. -/
import Derived.Test.YtnhjebdlcbhkcacGreatGapA
import Derived.Shelf.Spec.SlicesInsert
import Derived.Lib.AppendZerosOnto
namespace Go.Proofs.YtnhjebdlcbhkcacGreat
open Go.RowKit Go.Lib

theorem grown_toA {w w' : World} {r : Option Nat} (h : w.grownBy w' r) : w.grownBy w'.drew r := ⟨h.os, h.tape, h.output, h.size, h.block⟩
theorem grown_ofA {w w' : World} {r : Option Nat} (h : w.drew.grownBy w' r) : w.grownBy w' r := ⟨h.os, h.tape, h.output, h.size, h.block⟩
theorem heap_oldA (w : World) (o : Obj) {b : Nat} (hb : b < w.heap.size) : (w.alloc o).heap[b]? = w.heap[b]? := by
  show (w.heap.push o)[b]? = _
  rw [Array.getElem?_push, if_neg (by omega)]

set_option maxRecDepth 100000 in
set_option maxHeartbeats 4000000 in
theorem insA_grow (g n c i vb : Nat) (cur : Array Value) (xs news : List Value) (w : World) (hg : w.heap[g]? = some (.cells cur 66 (0, 0))) (hi : i < n) (hnc : n ≤ c) (hroom : c < n + 1) (hn : n ≤ 2000)
    (_hcs : cur.size = c * 3) (hxs : cur.toList.take (n * 3) = xs) (hxl : xs.length = n * 3) (hv : w.heap[vb]? = some (.cells news.toArray 66 (0, 0))) (hvl : news.length = 3)
    (h1x : ∀ u ∈ xs, u.oneCell' = true) (h1v : ∀ u ∈ news, u.oneCell' = true) :
    Calls Tryz.prog 112 #[.slice (some ⟨g, 0, none⟩) n c, .int .i64 i, .slice (some ⟨vb, 0, none⟩) 1 1] w fun e w' => ∃ G cur', e = .returned (.slice (some ⟨w.heap.size, 0, none⟩) (n + 1) G) ∧ n + 1 ≤ G ∧ G ≤ maxLen ∧ w'.heap[w.heap.size]? = some (.cells cur' 66 (0, 0)) ∧ cur'.size = G * 3 ∧ cur'.toList.take ((n + 1) * 3) = xs.take (i * 3) ++ news ++ xs.drop (i * 3) ∧ w.grownBy w' none := by
  obtain ⟨i0, hi0, hz0, hzs, hzb⟩ := Tryz.info66
  have hz2 : ¬ ((i : Int) = (n : Int)) := by omega
  have hz3 : (c : Int) < (n : Int) + 1 := by omega
  have hkk : (n : Int) + 1 - (i : Int) = ((n + 1 - i : Nat) : Int) := by omega
  have hik : i + (n + 1 - i) = n + 1 := by omega
  have hgw : g < w.heap.size := by
    rcases Nat.lt_or_ge g w.heap.size with h | h
    · exact h
    · rw [Array.getElem?_eq_none h] at hg; cases hg
  have hvw : vb < w.heap.size := by
    rcases Nat.lt_or_ge vb w.heap.size with h | h
    · exact h
    · rw [Array.getElem?_eq_none h] at hv; cases hv
  have hcell : ∀ (W : World), W.heap[g]? = w.heap[g]? → ∀ j v, xs[j]? = some v → W.cell? ⟨g, j, none⟩ = some v := by
    intro W hW j v hj
    have hjl : j < n * 3 := by
      have := (List.getElem?_eq_some_iff.1 hj).1; omega
    have : cur.toList[j]? = some v := by
      rw [← hxs, List.getElem?_take, if_pos hjl] at hj; exact hj
    simp [World.cell?, hW, hg, ← this]
  have hvcell : ∀ (W : World), W.heap[vb]? = w.heap[vb]? → ∀ j v, news[j]? = some v → W.cell? ⟨vb, j, none⟩ = some v := by
    intro W hW j v hj
    simp [World.cell?, hW, hv, hj]
  have hold : (Builtin.firstCells i0.size i (.slice (some ⟨g, 0, none⟩) i c)).run Tryz.prog w.drew = .ok (xs.take (i * 3)).toArray w.drew := by
    rw [hzs]
    exact run_firstCells_some w.drew 3 i ⟨g, 0, none⟩ i c (xs.take (i * 3)) (by rw [List.length_take]; omega) (fun j v hj => by
      rw [Addr.add_lit, Nat.zero_add]
      rw [List.getElem?_take] at hj
      split at hj
      · exact hcell _ rfl j v hj
      · cases hj)
  have hrz : ∀ ty, (Builtin.append_ #[22, 3] ty #[.slice (some ⟨g, 0, none⟩) i c, .int .i64 ((n : Int) + 1 - (i : Int))]).run Tryz.prog w =
      .ok (.slice (some ⟨w.heap.size, 0, none⟩) (n + 1) (grownCap w (n + 1) c 66)) (w.drew.alloc (.cells ((xs.take (i * 3)).toArray ++ Builtin.zeroCells (.agg #[.slice none 0 0, .int .i64 0, .int .u8 0] : Value).cells (n + 1 - i) ++ Builtin.zeroCells (.agg #[.slice none 0 0, .int .i64 0, .int .u8 0] : Value).cells (grownCap w (n + 1) c 66 - (n + 1))) 66)) := fun ty => by
    have h := Lib.run_append_grow_zeros w 22 3 ty 66 i0 _ .i64 .i64 Tryz.underlying22 Tryz.underlying3 hi0 hz0 (some ⟨g, 0, none⟩) i c (xs.take (i * 3)) hold (n + 1 - i) (by omega) (by omega) (by omega) (by omega) (by rw [hzb]; omega) (by rw [hzb, hik]; exact growslice_fits hroom (by omega))
    rw [hik] at h
    rw [hkk]
    exact h
  obtain ⟨G, hG⟩ : ∃ G, G = grownCap w (n + 1) c 66 := ⟨_, rfl⟩
  obtain ⟨ROW, hROW⟩ : ∃ ROW : Array Value, ROW = (xs.take (i * 3)).toArray ++ Builtin.zeroCells (.agg #[.slice none 0 0, .int .i64 0, .int .u8 0] : Value).cells (n + 1 - i) ++ Builtin.zeroCells (.agg #[.slice none 0 0, .int .i64 0, .int .u8 0] : Value).cells (G - (n + 1)) := ⟨_, rfl⟩
  rw [← hG] at hrz
  rw [← hROW] at hrz
  have hGn : n + 1 ≤ G := by rw [hG]; exact grownCap_ge w _ _ _
  have hGm : G ≤ maxLen := by
    have := grownCap_le_maxLen w (n + 1) c 66 (by unfold maxLen; omega)
    rw [← hG] at this
    exact this
  have hG63 : G ≤ 9223372036854775807 := by unfold maxLen at hGm; omega
  have hRl : ROW.size = G * 3 := by
    rw [hROW]
    simp [Builtin.zeroCells, Value.cells]
    omega
  have hRt : ROW.toList.take (i * 3) = xs.take (i * 3) := by
    rw [hROW, Array.append_assoc, Array.toList_append, List.take_append_of_le_length (by simp; omega)]
    simp [List.take_take]
  have hGi : ¬ (G = i) := by omega
  have hGim : ¬ (G = i + 1) := by omega
  have hci : ¬ (c = i) := by omega
  have hsz : (Tryz.prog.info? 66).map (·.size) = some 3 := by rw [hi0]; simp [hzs]
  obtain ⟨R1, hR1⟩ : ∃ R1 : Array Value, R1 = (ROW.toList.take (i * 3) ++ news ++ ROW.toList.drop (i * 3 + news.length)).toArray := ⟨_, rfl⟩
  have hR1l : R1.size = G * 3 := by
    rw [hR1]; simp; omega
  have hdl : (xs.drop (i * 3)).length = (n - i) * 3 := by rw [List.length_drop, hxl]; omega
  obtain ⟨R2, hR2⟩ : ∃ R2 : Array Value, R2 = (R1.toList.take ((i + 1) * 3) ++ xs.drop (i * 3) ++ R1.toList.drop ((i + 1) * 3 + (xs.drop (i * 3)).length)).toArray := ⟨_, rfl⟩
  have hR2l : R2.size = G * 3 := by
    rw [hR2]; simp; omega
  have hR1t : R1.toList.take ((i + 1) * 3) = xs.take (i * 3) ++ news := by
    rw [hR1, ← hRt]
    rw [List.take_append_of_le_length (by simp; omega), List.take_of_length_le (by simp; omega)]
  have hR2t : R2.toList.take ((n + 1) * 3) = xs.take (i * 3) ++ news ++ xs.drop (i * 3) := by
    rw [hR2, hR1t]
    rw [List.take_append_of_le_length (by simp; omega), List.take_of_length_le (by simp; omega)]
  have hcpA : ∀ ty dc, (Builtin.copy_ #[22, 22] ty #[.slice (some ⟨w.heap.size, i * 3, none⟩) (n + 1 - i) dc, .slice (some ⟨vb, 0, none⟩) 1 1]).run Tryz.prog (w.alloc (.cells ROW 66)).drew = .ok (.int .i64 1) (w.alloc (.cells R1 66)).drew := fun ty dc => by
    have h := run_copy_rowK (P := Tryz.prog) (w.drew.alloc (.cells ROW 66)) 22 22 ty 66 w.drew.heap.size (i * 3) (n + 1 - i) dc ⟨vb, 0, none⟩ 1 1 3 1 ROW 66 news Tryz.underlying22 hsz (heap_new _ _) (by show 1 = min 1 (n + 1 - i); omega) (by omega) (fun j v hj => by rw [Addr.add_lit, Nat.zero_add]; exact hvcell _ (heap_oldA _ _ hvw) j v hj) (by omega) h1v
    rw [setRow_alloc, ← hR1] at h
    exact h
  have hcpB : ∀ ty dc sc, (Builtin.copy_ #[22, 22] ty #[.slice (some ⟨w.heap.size, (i + 1) * 3, none⟩) (n - i) dc, .slice (some ⟨g, i * 3, none⟩) (n - i) sc]).run Tryz.prog (w.alloc (.cells R1 66)).drew.drew = .ok (goInt ((n - i : Nat) : Int)) (w.alloc (.cells R2 66)).drew.drew := fun ty dc sc => by
    have h := run_copy_rowK (P := Tryz.prog) (w.drew.drew.alloc (.cells R1 66)) 22 22 ty 66 w.drew.drew.heap.size ((i + 1) * 3) (n - i) dc ⟨g, i * 3, none⟩ (n - i) sc 3 (n - i) R1 66 (xs.drop (i * 3)) Tryz.underlying22 hsz (heap_new _ _) (by show n - i = min (n - i) (n - i); omega) hdl (fun j v hj => by rw [Addr.add_lit]; exact hcell _ (heap_oldA _ _ hgw) _ v (by rwa [List.getElem?_drop] at hj)) (by rw [hdl]; omega) (fun v hv => h1x v (List.mem_of_mem_drop hv))
    rw [setRow_alloc, ← hR2] at h
    exact h
  have mixed : Tryz.prog.follows Departure.mixedOrders = true := by kernel_rfl
  have hb1 : (0 : Int) ≤ (i : Int) + 1 := by omega
  have hw1 : IntKind.i64.wrap ((i : Int) + 1) = (i : Int) + 1 := by rw [IntKind.wrap_i64]; omega
  have hin : i ≤ n := by omega
  have htn : ((i : Int) + 1).toNat = i + 1 := by omega
  have hb3 : (i : Int) ≤ (n : Int) := by omega
  have HF : Hid (∃ G cur', (.returned (.slice (some ⟨w.heap.size, 0, none⟩) (n + 1) G) : Ending) = .returned (.slice (some ⟨w.heap.size, 0, none⟩) (n + 1) G) ∧ True ∧ cur' = R2) := ⟨G, R2, rfl, trivial, rfl⟩
  clear hkk hik hold hROW hG hRl hRt hR1 hR1l hR2 hR1t hdl hcell hvcell HF
  have HR2t := hidE hR2t
  have HR2l := hidE hR2l
  clear hR2t hR2l hxs _hcs
  go_enter Tryz.func112, Tryz.ntmps112
  go_wp2_with (first
    | (at_builtin; refine Lib.wpList_append_run _ rfl _ _ _ _ rfl _ _ rfl rfl _ _ (hrz _) ?_)
    | (at_builtin; refine wpList_copy_runI _ rfl _ _ 22 22 rfl _ _ rfl rfl (hcpA _ _) ?_))
  go_region_law_o (refine step_copy_runI rfl _ _ 22 22 rfl (.slice (some ⟨w.heap.size, (i + 1) * 3, none⟩) (n - i) (G - (i + 1))) (.slice (some ⟨g, i * 3, none⟩) (n - i) (c - i)) (by simp [Act.eval, Act.put]) (by simp [Act.eval, Act.put]) (hcpB 3 (G - (i + 1)) (c - i)) ?_)
  go_wp2
  go_ret
  exact ⟨G, R2, rfl, hGn, hGm, heap_new _ _, HR2l.out, HR2t.out, grown_toA (grown_toA (World.grownBy_alloc w _ none))⟩

theorem setRow_atA {w : World} {g : Nat} {cur R : Array Value} {t : TypeId} (hg : w.heap[g]? = some (.cells cur t (0, 0))) : (w.setRow g R).heap[g]? = some (.cells R t (0, 0)) := by
  unfold World.setRow; simp [Array.getElem?_modify, hg]
theorem setRow_offA {w : World} {g b : Nat} {R : Array Value} (hb : b ≠ g) : (w.setRow g R).heap[b]? = w.heap[b]? := by
  unfold World.setRow; simp only [Array.getElem?_modify]; rw [if_neg (fun e => hb e.symm)]
theorem setRow_grownA (w : World) (g : Nat) (R : Array Value) : w.grownBy (w.setRow g R) (some g) :=
  ⟨rfl, rfl, rfl, by unfold World.setRow; simp, fun k _ hne => setRow_offA (fun e => hne (by rw [e]))⟩

set_option maxRecDepth 100000 in
set_option maxHeartbeats 4000000 in
theorem insA_shift (g n c i vb : Nat) (cur : Array Value) (xs news : List Value) (w : World) (hg : w.heap[g]? = some (.cells cur 66 (0, 0))) (hi : i < n) (hroom : n + 1 ≤ c) (hn : n ≤ 2000) (hcm : c ≤ maxLen)
    (hcs : cur.size = c * 3) (hxs : cur.toList.take (n * 3) = xs) (hxl : xs.length = n * 3) (hv : w.heap[vb]? = some (.cells news.toArray 66 (0, 0))) (hvl : news.length = 3) (hne : vb ≠ g)
    (h1x : ∀ u ∈ xs, u.oneCell' = true) (h1v : ∀ u ∈ news, u.oneCell' = true) :
    Calls Tryz.prog 112 #[.slice (some ⟨g, 0, none⟩) n c, .int .i64 i, .slice (some ⟨vb, 0, none⟩) 1 1] w fun e w' => ∃ cur', e = .returned (.slice (some ⟨g, 0, none⟩) (n + 1) c) ∧ w'.heap[g]? = some (.cells cur' 66 (0, 0)) ∧ cur'.size = c * 3 ∧ cur'.toList.take ((n + 1) * 3) = xs.take (i * 3) ++ news ++ xs.drop (i * 3) ∧ w.grownBy w' (some g) := by
  obtain ⟨i0, hi0, hz0, hzs, hzb⟩ := Tryz.info66
  have hz2 : ¬ ((i : Int) = (n : Int)) := by omega
  have hz3 : ¬ ((c : Int) < (n : Int) + 1) := by omega
  have hsz : (Tryz.prog.info? 66).map (·.size) = some 3 := by rw [hi0]; simp [hzs]
  have hcell : ∀ j v, xs[j]? = some v → w.cell? ⟨g, j, none⟩ = some v := by
    intro j v hj
    have hjl : j < n * 3 := by
      have := (List.getElem?_eq_some_iff.1 hj).1; omega
    have : cur.toList[j]? = some v := by
      rw [← hxs, List.getElem?_take, if_pos hjl] at hj; exact hj
    simp [World.cell?, hg, ← this]
  have hdl : (xs.drop (i * 3)).length = (n - i) * 3 := by rw [List.length_drop, hxl]; omega
  obtain ⟨R1, hR1⟩ : ∃ R1 : Array Value, R1 = (cur.toList.take ((i + 1) * 3) ++ xs.drop (i * 3) ++ cur.toList.drop ((i + 1) * 3 + (xs.drop (i * 3)).length)).toArray := ⟨_, rfl⟩
  have hR1l : R1.size = c * 3 := by
    rw [hR1]; simp; omega
  obtain ⟨R2, hR2⟩ : ∃ R2 : Array Value, R2 = (R1.toList.take (i * 3) ++ news ++ R1.toList.drop (i * 3 + news.length)).toArray := ⟨_, rfl⟩
  have hR2l : R2.size = c * 3 := by
    rw [hR2]; simp; omega
  have hR1a : R1.toList.take (i * 3) = xs.take (i * 3) := by
    rw [hR1, ← hxs]
    show List.take _ (_ ++ _ ++ _) = _
    rw [List.append_assoc, List.take_append_of_le_length (by simp; omega), List.take_take, List.take_take]
    congr 1; omega
  have hR1b : R1.toList.drop (i * 3 + news.length) = xs.drop (i * 3) ++ cur.toList.drop ((i + 1) * 3 + (xs.drop (i * 3)).length) := by
    rw [hR1, hvl]
    show List.drop _ (_ ++ _ ++ _) = _
    rw [List.append_assoc, List.drop_append_of_le_length (by simp; omega), List.drop_of_length_le (by simp; omega), List.nil_append]
  have hR2t : R2.toList.take ((n + 1) * 3) = xs.take (i * 3) ++ news ++ xs.drop (i * 3) := by
    rw [hR2, hR1a, hR1b, ← List.append_assoc]
    show List.take _ (_ ++ _) = _
    rw [List.take_append_of_le_length (by simp; omega), List.take_of_length_le (by simp; omega)]
  have hov : ∀ lb cb, (callFunc 133 #[.slice (some ⟨vb, 0, none⟩) 1 1, .slice (some ⟨g, (i + 1) * 3, none⟩) lb cb]).run Tryz.prog w = .ok (.value (.bool false)) w := fun lb cb => by
    rw [run_callFunc_extern Tryz.func133 (by kernel_rfl) (by kernel_rfl) (by kernel_rfl) (e := Extern.SlicesOverlaps.overlaps #[22, 22] #[4]) (by kernel_rfl),
      Lib.run_overlaps_apart w 22 4 66 Tryz.underlying22 3 (fun w => by simp [sizeOf, typeInfo, hi0, hzs]) ⟨vb, 0, none⟩ ⟨g, (i + 1) * 3, none⟩ 1 1 lb cb hne 66 66 news.toArray.size cur.size (by simp [World.shape?, hv]) (by simp [World.shape?, hg]) (by omega) (by simp [World.frozen?, hv]) (by simp [World.frozen?, hv])]
    rfl
  have hcp1 : ∀ ty dc sc, (Builtin.copy_ #[22, 22] ty #[.slice (some ⟨g, (i + 1) * 3, none⟩) (n - i) dc, .slice (some ⟨g, i * 3, none⟩) (n + 1 - i) sc]).run Tryz.prog w.drew = .ok (goInt ((n - i : Nat) : Int)) (w.drew.setRow g R1) := fun ty dc sc => by
    have h := run_copy_rowK (P := Tryz.prog) w.drew 22 22 ty 66 g ((i + 1) * 3) (n - i) dc ⟨g, i * 3, none⟩ (n + 1 - i) sc 3 (n - i) cur 66 (xs.drop (i * 3)) Tryz.underlying22 hsz hg (by show n - i = min (n + 1 - i) (n - i); omega) hdl (fun j v hj => by rw [Addr.add_lit]; exact hcell _ v (by rwa [List.getElem?_drop] at hj)) (by rw [hdl]; omega) (fun v hv => h1x v (List.mem_of_mem_drop hv))
    rw [← hR1] at h
    exact h
  have hcp2 : ∀ ty dc, (Builtin.copy_ #[22, 22] ty #[.slice (some ⟨g, i * 3, none⟩) (n + 1 - i) dc, .slice (some ⟨vb, 0, none⟩) 1 1]).run Tryz.prog (w.drew.setRow g R1) = .ok (.int .i64 1) ((w.drew.setRow g R1).setRow g R2) := fun ty dc => by
    have h := run_copy_rowK (P := Tryz.prog) (w.drew.setRow g R1) 22 22 ty 66 g (i * 3) (n + 1 - i) dc ⟨vb, 0, none⟩ 1 1 3 1 R1 66 news Tryz.underlying22 hsz (setRow_atA hg) (by show 1 = min 1 (n + 1 - i); omega) (by omega) (fun j v hj => by rw [Addr.add_lit, Nat.zero_add]; simp [World.cell?, setRow_offA hne]; rw [show w.drew.heap[vb]? = _ from hv]; simp [hj]) (by omega) h1v
    rw [← hR2] at h
    exact h
  have mixed : Tryz.prog.follows Departure.mixedOrders = true := by kernel_rfl
  have hb1 : (0 : Int) ≤ (i : Int) + 1 := by omega
  have hw1 : IntKind.i64.wrap ((i : Int) + 1) = (i : Int) + 1 := by rw [IntKind.wrap_i64]; omega
  have hin : i ≤ n := by omega
  have hc63 : c ≤ 9223372036854775807 := by unfold maxLen at hcm; omega
  have htn : ((i : Int) + 1).toNat = i + 1 := by omega
  have hb2 : ¬ (c = i + 1) := by omega
  have hb3 : (i : Int) ≤ (n : Int) + 1 := by omega
  have hb4 : ¬ (c = i) := by omega
  have HR2t := hidE hR2t
  have HR2l := hidE hR2l
  have HG := hidE hg
  clear hR2t hR2l hxs hcs hR1 hR2 hR1l hR1a hR1b hdl hcell hcm hg
  go_enter Tryz.func112, Tryz.ntmps112
  go_wp2_with (simp only [hov])
  go_region_law_o (refine step_copy_runI rfl _ _ 22 22 rfl _ _ (by simp [Act.eval, Act.put]) (by simp [Act.eval, Act.put]) (hcp1 _ _ _) ?_)
  go_wp2_with (at_builtin; refine wpList_copy_runI _ rfl _ _ 22 22 rfl _ _ rfl rfl (hcp2 _ _) ?_)
  go_ret
  exact ⟨R2, rfl, setRow_atA (setRow_atA HG.out), HR2l.out, HR2t.out, grown_ofA ((setRow_grownA w.drew g R1).trans (setRow_grownA _ g R2))⟩

set_option maxRecDepth 100000 in
set_option maxHeartbeats 4000000 in
theorem insA_end (base : Nat) (v : Value) (n vb : Nat) (xs news : List Value) (w : World) (hown : w.ownsRow base 66 3 v n xs) (hbase : base ≤ w.heap.size) (hn : n ≤ 2000) (hv : w.heap[vb]? = some (.cells news.toArray 66 (0, 0))) (hvl : news.length = 3) (h1v : ∀ u ∈ news, u.oneCell' = true) :
    Calls Tryz.prog 112 #[v, .int .i64 n, .slice (some ⟨vb, 0, none⟩) 1 1] w fun e w' => ∃ v', e = .returned v' ∧ w'.ownsRow base 66 3 v' (n + 1) (xs ++ news) ∧ w.grownBy w' v.ownBlock := by
  obtain ⟨i0, hi0, hz0, hzs, hzb⟩ := Tryz.info66
  obtain ⟨a, c, rfl, hnc, hc63⟩ : ∃ a c, v = .slice a n c ∧ n ≤ c ∧ c ≤ 9223372036854775807 := by
    rcases hown.2 with ⟨rfl, rfl⟩ | ⟨g, cap, cur, rfl, _, _, h1, h2, _⟩
    · exact ⟨none, 0, rfl, Nat.le_refl _, by omega⟩
    · exact ⟨_, _, rfl, h1, by unfold maxLen at h2; omega⟩
  by_cases hcn : c = n
  all_goals
    go_enter Tryz.func112, Tryz.ntmps112
    go_wp2_with (at_builtin; refine wpList_append_own _ rfl _ _ 22 rfl base 66 i0 (.agg #[.slice none 0 0, .int .i64 0, .int .u8 0]) 3 40 Tryz.underlying22 hi0 hz0 hzs hzb rfl (by decide) _ _ _ rfl hown ⟨vb, 0, none⟩ 1 1 news rfl ?qc1 ?qc2 ?qc3 ?qc4 ?qc5 ?qc6 ?_)
    case qc1 => omega
    case qc2 => intro j u hj; rw [Addr.add_lit, Nat.zero_add]; simp [World.cell?, hv, hj]
    case qc3 => exact h1v
    case qc4 => unfold maxLen; omega
    case qc5 => omega
    case qc6 => exact hbase
    intro v' w' hown' hgrow _
    go_wp2
    go_ret
    exact ⟨v', rfl, hown', by cases a <;> exact hgrow⟩

theorem insA_own (base : Nat) (v : Value) (n i vb : Nat) (xs news : List Value) (w : World) (hown : w.ownsRow base 66 3 v n xs) (hbase : base ≤ w.heap.size) (hi : i ≤ n) (hn : n ≤ 2000) (hv : w.heap[vb]? = some (.cells news.toArray 66 (0, 0))) (hvl : news.length = 3) (hne : some vb ≠ v.ownBlock)
    (h1x : ∀ u ∈ xs, u.oneCell' = true) (h1v : ∀ u ∈ news, u.oneCell' = true) :
    Calls Tryz.prog 112 #[v, .int .i64 i, .slice (some ⟨vb, 0, none⟩) 1 1] w fun e w' => ∃ v', e = .returned v' ∧ w'.ownsRow base 66 3 v' (n + 1) (xs.take (i * 3) ++ news ++ xs.drop (i * 3)) ∧ w.grownBy w' v.ownBlock := by
  rcases Nat.lt_or_ge i n with hlt | hge
  · rcases hown.2 with ⟨_, h0⟩ | ⟨g, c, cur, rfl, hbg, hg, hnc, hcm, hcs, hxs⟩
    · omega
    · have hng : vb ≠ g := fun e => hne (by rw [e]; rfl)
      rcases Nat.lt_or_ge c (n + 1) with hr | hr
      · refine (insA_grow g n c i vb cur xs news w hg hlt hnc hr hn hcs hxs hown.1 hv hvl h1x h1v).mono ?_
        rintro e w' ⟨G, cur', rfl, h1, h2, h3, h4, h5, h6⟩
        exact ⟨_, rfl, ⟨by simp; have := hown.1; omega, Or.inr ⟨_, G, cur', rfl, hbase, h3, h1, h2, h4, h5⟩⟩, ⟨h6.os, h6.tape, h6.output, h6.size, fun k hk _ => h6.block k hk (by simp)⟩⟩
      · refine (insA_shift g n c i vb cur xs news w hg hlt hr hn hcm hcs hxs hown.1 hv hvl hng h1x h1v).mono ?_
        rintro e w' ⟨cur', rfl, h3, h4, h5, h6⟩
        exact ⟨_, rfl, ⟨by simp; have := hown.1; omega, Or.inr ⟨g, c, cur', rfl, hbg, h3, hr, hcm, h4, h5⟩⟩, h6⟩
  · obtain rfl : i = n := by omega
    refine (insA_end base v i vb xs news w hown hbase hn hv hvl h1v).mono ?_
    rintro e w' ⟨v', rfl, h1, h2⟩
    refine ⟨v', rfl, ?_, h2⟩
    rw [List.take_of_length_le (by rw [hown.1]; omega), List.drop_of_length_le (by rw [hown.1]; omega), List.append_nil]
    exact h1
end Go.Proofs.YtnhjebdlcbhkcacGreat
