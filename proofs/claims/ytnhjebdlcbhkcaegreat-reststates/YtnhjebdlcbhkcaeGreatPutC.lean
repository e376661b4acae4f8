/- Contract of slices.Insert at atoms, one at a time, into a row that the call owns. -/
import Derived.Test.YtnhjebdlcbhkcaeGreatGapA
import Derived.Shelf.Spec.SlicesInsert
import Derived.Lib.AppendZerosOnto
import Derived.Test.YtnhjebdlcbhkcaeGreatPutLe
import Derived.Test.YtnhjebdlcbhkcaeGreatPutStep
namespace Go.Proofs.YtnhjebdlcbhkcaeGreat
open Go.RowKit Go.Lib

theorem grown_toA {w w' : World} {r : Option Nat} (h : w.grownBy w' r) : w.grownBy w'.drew r := ⟨h.os, h.tape, h.output, h.size, h.block⟩
theorem grown_ofA {w w' : World} {r : Option Nat} (h : w.drew.grownBy w' r) : w.grownBy w' r := ⟨h.os, h.tape, h.output, h.size, h.block⟩
theorem heap_oldA (w : World) (o : Obj) {b : Nat} (hb : b < w.heap.size) : (w.alloc o).heap[b]? = w.heap[b]? := by
  show (w.heap.push o)[b]? = _
  rw [Array.getElem?_push, if_neg (by omega)]

set_option maxRecDepth 100000 in
set_option maxHeartbeats 4000000 in
theorem insA_grow (g n c i vb : Nat) (cur : Array Value) (xs news : List Value) (w : World) (hg : w.heap[g]? = some (.cells cur 108 (0, 0))) (hi : i < n) (hnc : n ≤ c) (hroom : c < n + 1) (hn : n ≤ 2000)
    (_hcs : cur.size = c * 3) (hxs : cur.toList.take (n * 3) = xs) (hxl : xs.length = n * 3) (hv : w.heap[vb]? = some (.cells news.toArray 108 (0, 0))) (hvl : news.length = 3)
    (h1x : ∀ u ∈ xs, u.oneCell' = true) (h1v : ∀ u ∈ news, u.oneCell' = true) :
    Calls Tryz.prog 75 #[.slice (some ⟨g, 0, none⟩) n c, .int .i64 i, .slice (some ⟨vb, 0, none⟩) 1 1] w fun e w' => ∃ G cur', e = .returned (.slice (some ⟨w.heap.size, 0, none⟩) (n + 1) G) ∧ n + 1 ≤ G ∧ G ≤ maxLen ∧ w'.heap[w.heap.size]? = some (.cells cur' 108 (0, 0)) ∧ cur'.size = G * 3 ∧ cur'.toList.take ((n + 1) * 3) = xs.take (i * 3) ++ news ++ xs.drop (i * 3) ∧ w.grownBy w' none := by
  obtain ⟨i0, hi0, hz0, hzs, hzb⟩ := Tryz.info108
  have hz2 : ¬ ((i : Int) = (n : Int)) := by omega
  have hz3 : (c : Int) < (n : Int) + 1 := by omega
  have hkk : (n : Int) + 1 - (i : Int) = ((n + 1 - i : Nat) : Int) := by omega
  have hik : i + (n + 1 - i) = n + 1 := by omega
  have hgw : g < w.heap.size := by
    rcases Nat.lt_or_ge g w.heap.size with h | h
    · exact h
    · rw [Array.getElem?_eq_none h] at hg; cases hg
  have hvw : vb < w.heap.size := by
    rcases Nat.lt_or_ge vb w.heap.size with h | h
    · exact h
    · rw [Array.getElem?_eq_none h] at hv; cases hv
  have hcell : ∀ (W : World), W.heap[g]? = w.heap[g]? → ∀ j v, xs[j]? = some v → W.cell? ⟨g, j, none⟩ = some v := by
    intro W hW j v hj
    have hjl : j < n * 3 := by
      have := (List.getElem?_eq_some_iff.1 hj).1; omega
    have : cur.toList[j]? = some v := by
      rw [← hxs, List.getElem?_take, if_pos hjl] at hj; exact hj
    simp [World.cell?, hW, hg, ← this]
  have hvcell : ∀ (W : World), W.heap[vb]? = w.heap[vb]? → ∀ j v, news[j]? = some v → W.cell? ⟨vb, j, none⟩ = some v := by
    intro W hW j v hj
    simp [World.cell?, hW, hv, hj]
  have hold : (Builtin.firstCells i0.size i (.slice (some ⟨g, 0, none⟩) i c)).run Tryz.prog w.drew = .ok (xs.take (i * 3)).toArray w.drew := by
    rw [hzs]
    exact run_firstCells_some w.drew 3 i ⟨g, 0, none⟩ i c (xs.take (i * 3)) (by rw [List.length_take]; omega) (fun j v hj => by
      rw [Addr.add_lit, Nat.zero_add]
      rw [List.getElem?_take] at hj
      split at hj
      · exact hcell _ rfl j v hj
      · cases hj)
  have hrz : ∀ ty, (Builtin.append_ #[22, 3] ty #[.slice (some ⟨g, 0, none⟩) i c, .int .i64 ((n : Int) + 1 - (i : Int))]).run Tryz.prog w =
      .ok (.slice (some ⟨w.heap.size, 0, none⟩) (n + 1) (grownCap w (n + 1) c 108)) (w.drew.alloc (.cells ((xs.take (i * 3)).toArray ++ Builtin.zeroCells (.agg #[.slice none 0 0, .int .i64 0, .int .u8 0] : Value).cells (n + 1 - i) ++ Builtin.zeroCells (.agg #[.slice none 0 0, .int .i64 0, .int .u8 0] : Value).cells (grownCap w (n + 1) c 108 - (n + 1))) 108)) := fun ty => by
    have h := Lib.run_append_grow_zeros w 22 3 ty 108 i0 _ .i64 .i64 Tryz.underlying22 Tryz.underlying3 hi0 hz0 (some ⟨g, 0, none⟩) i c (xs.take (i * 3)) hold (n + 1 - i) (by omega) (by omega) (by omega) (by omega) (by rw [hzb]; omega) (by rw [hzb, hik]; exact growslice_fits hroom (by omega))
    rw [hik] at h
    rw [hkk]
    exact h
  obtain ⟨G, hG⟩ : ∃ G, G = grownCap w (n + 1) c 108 := ⟨_, rfl⟩
  obtain ⟨ROW, hROW⟩ : ∃ ROW : Array Value, ROW = (xs.take (i * 3)).toArray ++ Builtin.zeroCells (.agg #[.slice none 0 0, .int .i64 0, .int .u8 0] : Value).cells (n + 1 - i) ++ Builtin.zeroCells (.agg #[.slice none 0 0, .int .i64 0, .int .u8 0] : Value).cells (G - (n + 1)) := ⟨_, rfl⟩
  rw [← hG] at hrz
  rw [← hROW] at hrz
  have hGn : n + 1 ≤ G := by rw [hG]; exact grownCap_ge w _ _ _
  have hGm : G ≤ maxLen := by
    have := grownCap_le_maxLen w (n + 1) c 108 (by unfold maxLen; omega)
    rw [← hG] at this
    exact this
  have hG63 : G ≤ 9223372036854775807 := by unfold maxLen at hGm; omega
  have hRl : ROW.size = G * 3 := by
    rw [hROW]
    simp [Builtin.zeroCells, Value.cells]
    omega
  have hRt : ROW.toList.take (i * 3) = xs.take (i * 3) := by
    rw [hROW, Array.append_assoc, Array.toList_append, List.take_append_of_le_length (by simp; omega)]
    simp [List.take_take]
  have hGi : ¬ (G = i) := by omega
  have hGim : ¬ (G = i + 1) := by omega
  have hci : ¬ (c = i) := by omega
  have hsz : (Tryz.prog.info? 108).map (·.size) = some 3 := by rw [hi0]; simp [hzs]
  obtain ⟨R1, hR1⟩ : ∃ R1 : Array Value, R1 = (ROW.toList.take (i * 3) ++ news ++ ROW.toList.drop (i * 3 + news.length)).toArray := ⟨_, rfl⟩
  have hR1l : R1.size = G * 3 := by
    rw [hR1]; simp; omega
  have hdl : (xs.drop (i * 3)).length = (n - i) * 3 := by rw [List.length_drop, hxl]; omega
  obtain ⟨R2, hR2⟩ : ∃ R2 : Array Value, R2 = (R1.toList.take ((i + 1) * 3) ++ xs.drop (i * 3) ++ R1.toList.drop ((i + 1) * 3 + (xs.drop (i * 3)).length)).toArray := ⟨_, rfl⟩
  have hR2l : R2.size = G * 3 := by
    rw [hR2]; simp; omega
  have hR1t : R1.toList.take ((i + 1) * 3) = xs.take (i * 3) ++ news := by
    rw [hR1, ← hRt]
    rw [List.take_append_of_le_length (by simp; omega), List.take_of_length_le (by simp; omega)]
  have hR2t : R2.toList.take ((n + 1) * 3) = xs.take (i * 3) ++ news ++ xs.drop (i * 3) := by
    rw [hR2, hR1t]
    rw [List.take_append_of_le_length (by simp; omega), List.take_of_length_le (by simp; omega)]
  have hcpA : ∀ ty dc, (Builtin.copy_ #[22, 22] ty #[.slice (some ⟨w.heap.size, i * 3, none⟩) (n + 1 - i) dc, .slice (some ⟨vb, 0, none⟩) 1 1]).run Tryz.prog (w.alloc (.cells ROW 108)).drew = .ok (.int .i64 1) (w.alloc (.cells R1 108)).drew := fun ty dc => by
    have h := run_copy_rowK (P := Tryz.prog) (w.drew.alloc (.cells ROW 108)) 22 22 ty 108 w.drew.heap.size (i * 3) (n + 1 - i) dc ⟨vb, 0, none⟩ 1 1 3 1 ROW 108 news Tryz.underlying22 hsz (heap_new _ _) (by show 1 = min 1 (n + 1 - i); omega) (by omega) (fun j v hj => by rw [Addr.add_lit, Nat.zero_add]; exact hvcell _ (heap_oldA _ _ hvw) j v hj) (by omega) h1v
    rw [setRow_alloc, ← hR1] at h
    exact h
  have hcpB : ∀ ty dc sc, (Builtin.copy_ #[22, 22] ty #[.slice (some ⟨w.heap.size, (i + 1) * 3, none⟩) (n - i) dc, .slice (some ⟨g, i * 3, none⟩) (n - i) sc]).run Tryz.prog (w.alloc (.cells R1 108)).drew.drew = .ok (goInt ((n - i : Nat) : Int)) (w.alloc (.cells R2 108)).drew.drew := fun ty dc sc => by
    have h := run_copy_rowK (P := Tryz.prog) (w.drew.drew.alloc (.cells R1 108)) 22 22 ty 108 w.drew.drew.heap.size ((i + 1) * 3) (n - i) dc ⟨g, i * 3, none⟩ (n - i) sc 3 (n - i) R1 108 (xs.drop (i * 3)) Tryz.underlying22 hsz (heap_new _ _) (by show n - i = min (n - i) (n - i); omega) hdl (fun j v hj => by rw [Addr.add_lit]; exact hcell _ (heap_oldA _ _ hgw) _ v (by rwa [List.getElem?_drop] at hj)) (by rw [hdl]; omega) (fun v hv => h1x v (List.mem_of_mem_drop hv))
    rw [setRow_alloc, ← hR2] at h
    exact h
  have mixed : Tryz.prog.follows Departure.mixedOrders = true := by kernel_rfl
  have hb1 : (0 : Int) ≤ (i : Int) + 1 := by omega
  have hw1 : IntKind.i64.wrap ((i : Int) + 1) = (i : Int) + 1 := by rw [IntKind.wrap_i64]; omega
  have hin : i ≤ n := by omega
  have htn : ((i : Int) + 1).toNat = i + 1 := by omega
  have hb3 : (i : Int) ≤ (n : Int) := by omega
  have HF : Hid (∃ G cur', (.returned (.slice (some ⟨w.heap.size, 0, none⟩) (n + 1) G) : Ending) = .returned (.slice (some ⟨w.heap.size, 0, none⟩) (n + 1) G) ∧ True ∧ cur' = R2) := ⟨G, R2, rfl, trivial, rfl⟩
  clear hkk hik hold hROW hG hRl hRt hR1 hR1l hR2 hR1t hdl hcell hvcell HF
  have HR2t := hidE hR2t
  have HR2l := hidE hR2l
  clear hR2t hR2l hxs _hcs
  go_enter Tryz.func75, Tryz.ntmps75
  go_wp2_with (first
    | (at_builtin; refine Lib.wpList_append_run _ rfl _ _ _ _ rfl _ _ rfl rfl _ _ (hrz _) ?_)
    | (at_builtin; refine wpList_copy_runI _ rfl _ _ 22 22 rfl _ _ rfl rfl (hcpA _ _) ?_))
  go_region_law_o (refine step_copy_runI rfl _ _ 22 22 rfl (.slice (some ⟨w.heap.size, (i + 1) * 3, none⟩) (n - i) (G - (i + 1))) (.slice (some ⟨g, i * 3, none⟩) (n - i) (c - i)) (by simp [Act.eval, Act.put]) (by simp [Act.eval, Act.put]) (hcpB 3 (G - (i + 1)) (c - i)) ?_)
  go_wp2
  go_ret
  exact ⟨G, R2, rfl, hGn, hGm, heap_new _ _, HR2l.out, HR2t.out, grown_toA (grown_toA (World.grownBy_alloc w _ none))⟩

theorem setRow_atA {w : World} {g : Nat} {cur R : Array Value} {t : TypeId} (hg : w.heap[g]? = some (.cells cur t (0, 0))) : (w.setRow g R).heap[g]? = some (.cells R t (0, 0)) := by
  unfold World.setRow; simp [Array.getElem?_modify, hg]
theorem setRow_offA {w : World} {g b : Nat} {R : Array Value} (hb : b ≠ g) : (w.setRow g R).heap[b]? = w.heap[b]? := by
  unfold World.setRow; simp only [Array.getElem?_modify]; rw [if_neg (fun e => hb e.symm)]
theorem setRow_grownA (w : World) (g : Nat) (R : Array Value) : w.grownBy (w.setRow g R) (some g) :=
  ⟨rfl, rfl, rfl, by unfold World.setRow; simp, fun k _ hne => setRow_offA (fun e => hne (by rw [e]))⟩

set_option maxRecDepth 100000 in
set_option maxHeartbeats 4000000 in
theorem insA_shift (g n c i vb : Nat) (cur : Array Value) (xs news : List Value) (w : World) (hg : w.heap[g]? = some (.cells cur 108 (0, 0))) (hi : i < n) (hroom : n + 1 ≤ c) (hn : n ≤ 2000) (hcm : c ≤ maxLen)
    (hcs : cur.size = c * 3) (hxs : cur.toList.take (n * 3) = xs) (hxl : xs.length = n * 3) (hv : w.heap[vb]? = some (.cells news.toArray 108 (0, 0))) (hvl : news.length = 3) (hne : vb ≠ g)
    (h1x : ∀ u ∈ xs, u.oneCell' = true) (h1v : ∀ u ∈ news, u.oneCell' = true) :
    Calls Tryz.prog 75 #[.slice (some ⟨g, 0, none⟩) n c, .int .i64 i, .slice (some ⟨vb, 0, none⟩) 1 1] w fun e w' => ∃ cur', e = .returned (.slice (some ⟨g, 0, none⟩) (n + 1) c) ∧ w'.heap[g]? = some (.cells cur' 108 (0, 0)) ∧ cur'.size = c * 3 ∧ cur'.toList.take ((n + 1) * 3) = xs.take (i * 3) ++ news ++ xs.drop (i * 3) ∧ w.grownBy w' (some g) := by
  obtain ⟨i0, hi0, hz0, hzs, hzb⟩ := Tryz.info108
  have hz2 : ¬ ((i : Int) = (n : Int)) := by omega
  have hz3 : ¬ ((c : Int) < (n : Int) + 1) := by omega
  have hsz : (Tryz.prog.info? 108).map (·.size) = some 3 := by rw [hi0]; simp [hzs]
  have hcell : ∀ j v, xs[j]? = some v → w.cell? ⟨g, j, none⟩ = some v := by
    intro j v hj
    have hjl : j < n * 3 := by
      have := (List.getElem?_eq_some_iff.1 hj).1; omega
    have : cur.toList[j]? = some v := by
      rw [← hxs, List.getElem?_take, if_pos hjl] at hj; exact hj
    simp [World.cell?, hg, ← this]
  have hdl : (xs.drop (i * 3)).length = (n - i) * 3 := by rw [List.length_drop, hxl]; omega
  obtain ⟨R1, hR1⟩ : ∃ R1 : Array Value, R1 = (cur.toList.take ((i + 1) * 3) ++ xs.drop (i * 3) ++ cur.toList.drop ((i + 1) * 3 + (xs.drop (i * 3)).length)).toArray := ⟨_, rfl⟩
  have hR1l : R1.size = c * 3 := by
    rw [hR1]; simp; omega
  obtain ⟨R2, hR2⟩ : ∃ R2 : Array Value, R2 = (R1.toList.take (i * 3) ++ news ++ R1.toList.drop (i * 3 + news.length)).toArray := ⟨_, rfl⟩
  have hR2l : R2.size = c * 3 := by
    rw [hR2]; simp; omega
  have hR1a : R1.toList.take (i * 3) = xs.take (i * 3) := by
    rw [hR1, ← hxs]
    show List.take _ (_ ++ _ ++ _) = _
    rw [List.append_assoc, List.take_append_of_le_length (by simp; omega), List.take_take, List.take_take]
    congr 1; omega
  have hR1b : R1.toList.drop (i * 3 + news.length) = xs.drop (i * 3) ++ cur.toList.drop ((i + 1) * 3 + (xs.drop (i * 3)).length) := by
    rw [hR1, hvl]
    show List.drop _ (_ ++ _ ++ _) = _
    rw [List.append_assoc, List.drop_append_of_le_length (by simp; omega), List.drop_of_length_le (by simp; omega), List.nil_append]
  have hR2t : R2.toList.take ((n + 1) * 3) = xs.take (i * 3) ++ news ++ xs.drop (i * 3) := by
    rw [hR2, hR1a, hR1b, ← List.append_assoc]
    show List.take _ (_ ++ _) = _
    rw [List.take_append_of_le_length (by simp; omega), List.take_of_length_le (by simp; omega)]
  have hov : ∀ lb cb, (callFunc 165 #[.slice (some ⟨vb, 0, none⟩) 1 1, .slice (some ⟨g, (i + 1) * 3, none⟩) lb cb]).run Tryz.prog w = .ok (.value (.bool false)) w := fun lb cb => by
    rw [run_callFunc_extern Tryz.func165 (by kernel_rfl) (by kernel_rfl) (by kernel_rfl) (e := Extern.SlicesOverlaps.overlaps #[22, 22] #[4]) (by kernel_rfl),
      Lib.run_overlaps_apart w 22 4 108 Tryz.underlying22 3 (fun w => by simp [sizeOf, typeInfo, hi0, hzs]) ⟨vb, 0, none⟩ ⟨g, (i + 1) * 3, none⟩ 1 1 lb cb hne 108 108 news.toArray.size cur.size (by simp [World.shape?, hv]) (by simp [World.shape?, hg]) (by omega) (by simp [World.frozen?, hv]) (by simp [World.frozen?, hv])]
    rfl
  have hcp1 : ∀ ty dc sc, (Builtin.copy_ #[22, 22] ty #[.slice (some ⟨g, (i + 1) * 3, none⟩) (n - i) dc, .slice (some ⟨g, i * 3, none⟩) (n + 1 - i) sc]).run Tryz.prog w.drew = .ok (goInt ((n - i : Nat) : Int)) (w.drew.setRow g R1) := fun ty dc sc => by
    have h := run_copy_rowK (P := Tryz.prog) w.drew 22 22 ty 108 g ((i + 1) * 3) (n - i) dc ⟨g, i * 3, none⟩ (n + 1 - i) sc 3 (n - i) cur 108 (xs.drop (i * 3)) Tryz.underlying22 hsz hg (by show n - i = min (n + 1 - i) (n - i); omega) hdl (fun j v hj => by rw [Addr.add_lit]; exact hcell _ v (by rwa [List.getElem?_drop] at hj)) (by rw [hdl]; omega) (fun v hv => h1x v (List.mem_of_mem_drop hv))
    rw [← hR1] at h
    exact h
  have hcp2 : ∀ ty dc, (Builtin.copy_ #[22, 22] ty #[.slice (some ⟨g, i * 3, none⟩) (n + 1 - i) dc, .slice (some ⟨vb, 0, none⟩) 1 1]).run Tryz.prog (w.drew.setRow g R1) = .ok (.int .i64 1) ((w.drew.setRow g R1).setRow g R2) := fun ty dc => by
    have h := run_copy_rowK (P := Tryz.prog) (w.drew.setRow g R1) 22 22 ty 108 g (i * 3) (n + 1 - i) dc ⟨vb, 0, none⟩ 1 1 3 1 R1 108 news Tryz.underlying22 hsz (setRow_atA hg) (by show 1 = min 1 (n + 1 - i); omega) (by omega) (fun j v hj => by rw [Addr.add_lit, Nat.zero_add]; simp [World.cell?, setRow_offA hne]; rw [show w.drew.heap[vb]? = _ from hv]; simp [hj]) (by omega) h1v
    rw [← hR2] at h
    exact h
  have mixed : Tryz.prog.follows Departure.mixedOrders = true := by kernel_rfl
  have hb1 : (0 : Int) ≤ (i : Int) + 1 := by omega
  have hw1 : IntKind.i64.wrap ((i : Int) + 1) = (i : Int) + 1 := by rw [IntKind.wrap_i64]; omega
  have hin : i ≤ n := by omega
  have hc63 : c ≤ 9223372036854775807 := by unfold maxLen at hcm; omega
  have htn : ((i : Int) + 1).toNat = i + 1 := by omega
  have hb2 : ¬ (c = i + 1) := by omega
  have hb3 : (i : Int) ≤ (n : Int) + 1 := by omega
  have hb4 : ¬ (c = i) := by omega
  have HR2t := hidE hR2t
  have HR2l := hidE hR2l
  have HG := hidE hg
  clear hR2t hR2l hxs hcs hR1 hR2 hR1l hR1a hR1b hdl hcell hcm hg
  go_enter Tryz.func75, Tryz.ntmps75
  go_wp2_with (simp only [hov])
  go_region_law_o (refine step_copy_runI rfl _ _ 22 22 rfl _ _ (by simp [Act.eval, Act.put]) (by simp [Act.eval, Act.put]) (hcp1 _ _ _) ?_)
  go_wp2_with (at_builtin; refine wpList_copy_runI _ rfl _ _ 22 22 rfl _ _ rfl rfl (hcp2 _ _) ?_)
  go_ret
  exact ⟨R2, rfl, setRow_atA (setRow_atA HG.out), HR2l.out, HR2t.out, grown_ofA ((setRow_grownA w.drew g R1).trans (setRow_grownA _ g R2))⟩

set_option maxRecDepth 100000 in
set_option maxHeartbeats 4000000 in
theorem insA_end (base : Nat) (v : Value) (n vb : Nat) (xs news : List Value) (w : World) (hown : w.ownsRow base 108 3 v n xs) (hbase : base ≤ w.heap.size) (hn : n ≤ 2000) (hv : w.heap[vb]? = some (.cells news.toArray 108 (0, 0))) (hvl : news.length = 3) (h1v : ∀ u ∈ news, u.oneCell' = true) :
    Calls Tryz.prog 75 #[v, .int .i64 n, .slice (some ⟨vb, 0, none⟩) 1 1] w fun e w' => ∃ v', e = .returned v' ∧ w'.ownsRow base 108 3 v' (n + 1) (xs ++ news) ∧ w.grownBy w' v.ownBlock := by
  obtain ⟨i0, hi0, hz0, hzs, hzb⟩ := Tryz.info108
  obtain ⟨a, c, rfl, hnc, hc63⟩ : ∃ a c, v = .slice a n c ∧ n ≤ c ∧ c ≤ 9223372036854775807 := by
    rcases hown.2 with ⟨rfl, rfl⟩ | ⟨g, cap, cur, rfl, _, _, h1, h2, _⟩
    · exact ⟨none, 0, rfl, Nat.le_refl _, by omega⟩
    · exact ⟨_, _, rfl, h1, by unfold maxLen at h2; omega⟩
  by_cases hcn : c = n
  all_goals
    go_enter Tryz.func75, Tryz.ntmps75
    go_wp2_with (at_builtin; refine wpList_append_own _ rfl _ _ 22 rfl base 108 i0 (.agg #[.slice none 0 0, .int .i64 0, .int .u8 0]) 3 40 Tryz.underlying22 hi0 hz0 hzs hzb rfl (by decide) _ _ _ rfl hown ⟨vb, 0, none⟩ 1 1 news rfl ?qc1 ?qc2 ?qc3 ?qc4 ?qc5 ?qc6 ?_)
    case qc1 => omega
    case qc2 => intro j u hj; rw [Addr.add_lit, Nat.zero_add]; simp [World.cell?, hv, hj]
    case qc3 => exact h1v
    case qc4 => unfold maxLen; omega
    case qc5 => omega
    case qc6 => exact hbase
    intro v' w' hown' hgrow _
    go_wp2
    go_ret
    exact ⟨v', rfl, hown', by cases a <;> exact hgrow⟩

theorem insA_own (base : Nat) (v : Value) (n i vb : Nat) (xs news : List Value) (w : World) (hown : w.ownsRow base 108 3 v n xs) (hbase : base ≤ w.heap.size) (hi : i ≤ n) (hn : n ≤ 2000) (hv : w.heap[vb]? = some (.cells news.toArray 108 (0, 0))) (hvl : news.length = 3) (hne : some vb ≠ v.ownBlock)
    (h1x : ∀ u ∈ xs, u.oneCell' = true) (h1v : ∀ u ∈ news, u.oneCell' = true) :
    Calls Tryz.prog 75 #[v, .int .i64 i, .slice (some ⟨vb, 0, none⟩) 1 1] w fun e w' => ∃ v', e = .returned v' ∧ w'.ownsRow base 108 3 v' (n + 1) (xs.take (i * 3) ++ news ++ xs.drop (i * 3)) ∧ w.grownBy w' v.ownBlock := by
  rcases Nat.lt_or_ge i n with hlt | hge
  · rcases hown.2 with ⟨_, h0⟩ | ⟨g, c, cur, rfl, hbg, hg, hnc, hcm, hcs, hxs⟩
    · omega
    · have hng : vb ≠ g := fun e => hne (by rw [e]; rfl)
      rcases Nat.lt_or_ge c (n + 1) with hr | hr
      · refine (insA_grow g n c i vb cur xs news w hg hlt hnc hr hn hcs hxs hown.1 hv hvl h1x h1v).mono ?_
        rintro e w' ⟨G, cur', rfl, h1, h2, h3, h4, h5, h6⟩
        exact ⟨_, rfl, ⟨by simp; have := hown.1; omega, Or.inr ⟨_, G, cur', rfl, hbase, h3, h1, h2, h4, h5⟩⟩, ⟨h6.os, h6.tape, h6.output, h6.size, fun k hk _ => h6.block k hk (by simp)⟩⟩
      · refine (insA_shift g n c i vb cur xs news w hg hlt hr hn hcm hcs hxs hown.1 hv hvl hng h1x h1v).mono ?_
        rintro e w' ⟨cur', rfl, h3, h4, h5, h6⟩
        exact ⟨_, rfl, ⟨by simp; have := hown.1; omega, Or.inr ⟨g, c, cur', rfl, hbg, h3, hr, hcm, h4, h5⟩⟩, h6⟩
  · obtain rfl : i = n := by omega
    refine (insA_end base v i vb xs news w hown hbase hn hv hvl h1v).mono ?_
    rintro e w' ⟨v', rfl, h1, h2⟩
    refine ⟨v', rfl, ?_, h2⟩
    rw [List.take_of_length_le (by rw [hown.1]; omega), List.drop_of_length_le (by rw [hown.1]; omega), List.append_nil]
    exact h1
end Go.Proofs.YtnhjebdlcbhkcaeGreat

namespace Go.Proofs.YtnhjebdlcbhkcaeGreat
open Go.RowKit

set_option maxHeartbeats 400000 in
theorem put3_any (n : Int) (w : World) : Calls Tryz.prog 73 #[.int .i64 n] w fun e w' => e = .returned (.bool true) ∧ w' = w := by
  go_enter Tryz.func73, Tryz.ntmps73
  go_wp2
  go_ret
  exact ⟨rfl, rfl⟩

set_option maxRecDepth 100000 in
set_option maxHeartbeats 4000000 in
theorem pickAll_ok (a : Option Addr) (cap : Nat) (l : List At) (w : World) (h : AtomsAt w a l) (hl : l.length ≤ 1000) (hok : ∀ i (h : i < l.length), 0 < l[i].path.length ∧ l[i].path.length ≤ 10) :
    Calls Tryz.prog 72 #[.slice a l.length cap, .func (.func 73) #[] #[]] w fun e w' => ∃ p c, e = .returned (.slice p (pickTo (fun _ => true) l l.length).length c) ∧ AtomsAt w' p (pickTo (fun _ => true) l l.length) ∧ PickRow w' w.heap.size (.slice p (pickTo (fun _ => true) l l.length).length c) (pickTo (fun _ => true) l l.length) ∧ Below w.heap.size w w' := by
  obtain ⟨i0, hi, hz0, hz1, hz2⟩ := Tryz.info108
  have HOK := hidE hok
  clear hok
  go_enter Tryz.func72, Tryz.ntmps72
  go_wp2
  go_loopw [10, 5] (fun i v wr => ∃ k : Nat, k ≤ l.length ∧ i = .int .i64 k ∧ PickRow wr w.heap.size v (pickTo (fun _ => true) l k) ∧ Below w.heap.size w wr) (fun i _ _ => l.length - (intOf i).toNat)
  case atStart => exact ⟨0, Nat.zero_le _, rfl, ⟨[], rfl, World.ownsRow_nil _ _ _ _, fun i h => by simp [pickTo] at h⟩, Below.refl _ _⟩
  case round =>
    obtain ⟨k, hk, rfl, hrow, hb⟩ := hrel
    by_cases hlt : k < l.length
    · obtain ⟨ab, ao, rfl, hab, hc⟩ := (h.below hb (Nat.le_refl _)).raw (by omega)
      obtain ⟨⟨p, n, cp, ck, sk⟩, hr, c0, c1, c2⟩ := hc k hlt
      have hi1 : (k : Int) < l.length := by omega
      have HT : Hid (pickTo (fun _ => true) l (k + 1) = pickTo (fun _ => true) l k ++ [l[k]]) := by
        show (pickTo (fun _ => true) l k ++ if true = true then l[k]?.toList else []) = _
        rw [if_pos rfl, List.getElem?_eq_getElem hlt]; rfl
      have HL := hidE (pickTo_len (fun _ => true) l k)
      have hokk := HOK.out k hlt
      have hn : n = l[k].path.length := hr.n
      have hck : ck = l[k].clock := hr.clock
      have hsk : sk = l[k].sign := hr.sign
      subst hn hck hsk
      have s0 := hr.s0
      have s1 := hr.s1
      have hst := hr.steps
      generalize pickTo (fun _ => true) l k = xs at *
      generalize l[k] = x at *
      clear hc h hr HOK
      obtain ⟨pb, po, rfl⟩ : ∃ pb po, p = some ⟨pb, po, none⟩ := by
        rcases hst with e | ⟨pb, po, rfl, _⟩
        · have e' : x.path = [] := e
          have : x.path.length = 0 := by rw [e']; rfl
          omega
        · exact ⟨pb, po, rfl⟩
      obtain ⟨rs, hrl, hown, hrr⟩ := hrow
      have hb0 := hb.alloc hb.size (.cells #[.slice (some ⟨pb, po, none⟩) x.path.length cp, .int .i64 x.clock, .int .u8 x.sign] 108)
      have hbn : Below wr.heap.size wr (wr.alloc (.cells #[.slice (some ⟨pb, po, none⟩) x.path.length cp, .int .i64 x.clock, .int .u8 x.sign] 108)) := (Below.refl _ _).alloc (Nat.le_refl _) _
      have x0 : (wr.alloc (.cells #[.slice (some ⟨pb, po, none⟩) x.path.length cp, .int .i64 x.clock, .int .u8 x.sign] 108)).cell? ⟨wr.heap.size, 0, none⟩ = some (.slice (some ⟨pb, po, none⟩) x.path.length cp) := by simp
      have x1 : (wr.alloc (.cells #[.slice (some ⟨pb, po, none⟩) x.path.length cp, .int .i64 x.clock, .int .u8 x.sign] 108)).cell? ⟨wr.heap.size, 1, none⟩ = some (.int .i64 x.clock) := by simp
      have x2 : (wr.alloc (.cells #[.slice (some ⟨pb, po, none⟩) x.path.length cp, .int .i64 x.clock, .int .u8 x.sign] 108)).cell? ⟨wr.heap.size, 2, none⟩ = some (.int .u8 x.sign) := by simp
      have hsz : wr.heap.size < (wr.alloc (.cells #[.slice (some ⟨pb, po, none⟩) x.path.length cp, .int .i64 x.clock, .int .u8 x.sign] 108)).heap.size := by simp
      have hON : some wr.heap.size ≠ Value.ownBlock u5 := own_ne hown (by omega)
      have hownN := owns_below hown hbn
      have HRN := hidE (fun i h h' => (hrr i h h').below hbn)
      have hstN := hst.below hbn (Nat.le_refl _)
      have hwn : w.heap.size ≤ wr.heap.size := hb.size
      go_upto_region 5 with fail
      generalize wr.alloc (.cells #[.slice (some ⟨pb, po, none⟩) x.path.length cp, .int .i64 x.clock, .int .u8 x.sign] 108) = w2 at hb0 hbn x0 x1 x2 hsz hownN HRN hstN ⊢
      clear c0 c1 c2 hown hrr hst hb hbn
      go_upto_region 6 with (go_at_call 73; refine (put3_any _ _).mono ?_; rintro e w' ⟨rfl, hw⟩; rw [hw]; clear hw w')
      have hBd : Below w2.heap.size w2 w2.drew := (Below.refl _ _).drew
      have hml : x.path.length ≤ maxLen := by unfold maxLen; omega
      go_region_held_law (fun w' => w'.cell? ⟨wr.heap.size, 0, none⟩ = some (.slice (some ⟨pb, po, none⟩) x.path.length cp) ∧ w'.cell? ⟨wr.heap.size, 1, none⟩ = some (.int .i64 x.clock) ∧ w'.cell? ⟨wr.heap.size, 2, none⟩ = some (.int .u8 x.sign))
          (first | exact ⟨x0, x1, x2⟩ | exact ⟨t0, t1, t2⟩ | exact ⟨s0', s1', s2'⟩ | exact ⟨y0, y1, y2⟩)
          (first
            | (refine step_append_own rfl (.tmp 18) (.tmp 25) 22 rfl w.heap.size 108 i0 (.agg #[.slice none 0 0, .int .i64 0, .int .u8 0]) 3 40 Tryz.underlying22 hi hz0 hz1 hz2 rfl (by decide) u5 xs.length (flatR rs) (by simp [Act.eval]) (hown3.alloc _) ⟨w3.heap.size, 0, none⟩ 1 1 ((⟨some ⟨g, 0, none⟩, x.path.length, cap2, x.clock, x.sign⟩ : Raw).cells) (by simp [Act.eval]) rfl (by intro j u hj; rw [Addr.add_lit, Nat.zero_add]; exact raw_new w3 ⟨some ⟨g, 0, none⟩, x.path.length, cap2, x.clock, x.sign⟩ j u hj) (fun u hu => flatR_one [⟨some ⟨g, 0, none⟩, x.path.length, cap2, x.clock, x.sign⟩] u (by simpa [flatR] using hu)) (by have := HL.out; unfold maxLen; omega) (by have := HL.out; omega) (by simp; omega) ?_; intro v' w4 hown4 hgrow; have y0 := ((grown_cell hgrow hz4 hON 0).trans (hb4.cell (p := ⟨wr.heap.size, 0, none⟩) hz3)).trans t0; have y1 := ((grown_cell hgrow hz4 hON 1).trans (hb4.cell (p := ⟨wr.heap.size, 1, none⟩) hz3)).trans t1; have y2 := ((grown_cell hgrow hz4 hON 2).trans (hb4.cell (p := ⟨wr.heap.size, 2, none⟩) hz3)).trans t2)
            | (go_at_call 76; refine (freshMark_ok pb po _ _ x.path _ _ rfl hml (by omega) (hstN.below hBd (Nat.le_refl _))).mono ?_; rintro e w3 ⟨g, cap2, rfl, hownS, hb3⟩; have hb3' : Below w2.heap.size w2 w3 := hBd.thru hb3 (Nat.le_refl _); have t0 := (hb3'.cell (p := ⟨wr.heap.size, 0, none⟩) hsz).trans x0; have t1 := (hb3'.cell (p := ⟨wr.heap.size, 1, none⟩) hsz).trans x1; have t2 := (hb3'.cell (p := ⟨wr.heap.size, 2, none⟩) hsz).trans x2; have hz3 : wr.heap.size < w3.heap.size := Nat.lt_of_lt_of_le hsz hb3'.size; have hown3 := owns_below hownN hb3'; have hb4 : Below w3.heap.size w3 (w3.alloc (.cells #[.slice (some ⟨g, 0, none⟩) x.path.length cap2, .int .i64 x.clock, .int .u8 x.sign] 108)) := (Below.refl _ _).alloc (Nat.le_refl _) _; have hz4 : wr.heap.size < (w3.alloc (.cells #[.slice (some ⟨g, 0, none⟩) x.path.length cap2, .int .i64 x.clock, .int .u8 x.sign] 108)).heap.size := Nat.lt_of_lt_of_le hz3 hb4.size; have s0' := (hb4.cell (p := ⟨wr.heap.size, 0, none⟩) hz3).trans t0; have s1' := (hb4.cell (p := ⟨wr.heap.size, 1, none⟩) hz3).trans t1; have s2' := (hb4.cell (p := ⟨wr.heap.size, 2, none⟩) hz3).trans t2))
      have hb3w := hb0.thru hb3' hb0.size
      have hb5 := (hb3w.alloc hb3w.size _).grown hgrow (hb3w.alloc hb3w.size _).size (fun k hk => (hown3.lt k hk).1)
      have hrow2 : PickRow w4 w.heap.size v' (xs ++ [x]) := PickRow.snoc hrl (hown3.alloc _) (fun i h h' => ((HRN.out i h h').below hb3').below hb4) ⟨g, cap2, rfl, (owns_base hownS (by show w.heap.size ≤ w2.heap.size; omega)).alloc _, hml, s0, s1⟩ hgrow hown4
      go_wp2_with fail
      go_roundw
      case rel => exact ⟨k + 1, by omega, by go_num, by rw [HT.out]; exact hrow2, hb5⟩
      case measure => simp [intOf]; omega
    · have hkl : k = l.length := by omega
      subst hkl
      obtain ⟨p, c, rfl, hat, _⟩ := hrow.owns.atoms (Below.refl _ _)
      go_wp2
      go_ret
      exact ⟨p, c, rfl, hat, hrow, hb⟩
end Go.Proofs.YtnhjebdlcbhkcaeGreat

namespace Go.Proofs.YtnhjebdlcbhkcaeGreat
open Go.RowKit

set_option maxHeartbeats 400000 in
theorem or25_any (b cap : Nat) (x y : Int) (w : World) (h0 : w.cell? ⟨b, 0, none⟩ = some (.int .i64 x)) (h1 : w.cell? ⟨b, 1, none⟩ = some (.int .i64 y)) :
    Calls Tryz.prog 71 #[.slice (some ⟨b, 0, none⟩) 2 cap] w fun e w' => e = .returned (.int .i64 (orI x y)) ∧ w' = w := by
  go_enter Tryz.func71, Tryz.ntmps71
  go_wp2
  go_loop [8] (fun i => ∃ k : Nat, k ≤ 2 ∧ i = .int .i64 k ∧ (1 ≤ k → x = 0) ∧ (2 ≤ k → y = 0)) (fun i => 2 - (intOf i).toNat)
  case atStart => exact ⟨0, by omega, rfl, by omega, by omega⟩
  case round =>
    obtain ⟨k, hk, rfl, hx, hy⟩ := hrel
    rcases (show k = 0 ∨ k = 1 ∨ k = 2 by omega) with rfl | rfl | rfl
    · clear hx hy
      by_cases hx : x = 0
      · go_wp2
        go_round
        case rel => exact ⟨1, by omega, by go_num, fun _ => hx, by omega⟩
        case measure => simp [intOf]
      · go_wp2
        go_ret
        exact ⟨ret_int (by simp [orI, hx]), rfl⟩
    · have hx0 := hx (by omega)
      subst hx0
      clear hx hy
      by_cases hy : y = 0
      · go_wp2
        go_round
        case rel => exact ⟨2, by omega, by go_num, fun _ => by simp, fun _ => hy⟩
        case measure => simp [intOf]
      · go_wp2
        go_ret
        exact ⟨ret_int (by simp [orI]), rfl⟩
    · have hx0 := hx (by omega)
      have hy0 := hy (by omega)
      subst hx0
      subst hy0
      clear hx hy
      go_wp2
      go_ret
      exact ⟨ret_int (by simp [orI]), rfl⟩

set_option maxRecDepth 100000 in
set_option maxHeartbeats 2000000 in
theorem put_bad (a a' : Option Addr) (cap cap' : Nat) (l m : List At) (w : World) (hl : l.length ≤ maxLen) (hm : m.length ≤ maxLen) (h : AtomsAt w a l) (h' : AtomsAt w a' m) (h0 : orI (chkL l) (chkL m) ≠ 0) :
    Calls Tryz.prog 20 #[.slice a l.length cap, .slice a' m.length cap'] w fun e w' => e = .returned (.tuple #[.slice none 0 0, .int .i64 (orI (chkL l) (chkL m))]) ∧ Below w.heap.size w w' := by
  have hx : (orI (chkL l) (chkL m) != 0) = true := bne_iff_ne.2 h0
  clear h0
  go_enter Tryz.func20, Tryz.ntmps20
  go_wp2_with fail
  refine (atomCheck_any _ _ l _ hl h).mono ?_
  rintro e w1 ⟨rfl, hb1⟩
  go_wp2_with fail
  refine (atomCheck_any _ _ m _ hm (h'.below hb1 (Nat.le_refl _))).mono ?_
  rintro e w2 ⟨rfl, hb2⟩
  have hb3 := hb1.thru hb2 hb1.size
  go_wp2_with (go_at_call 71; refine (or25_any _ _ (chkL l) (chkL m) _ (by go_simp) (by go_simp)).mono ?_; rintro e w' ⟨rfl, rfl⟩)
  refine bodyPost_ret (v := .tuple #[.slice none 0 0, .int .i64 (orI (chkL l) (chkL m))]) (by simp [results, Tryz.results20, go_sem]) rfl ?_
  exact ⟨rfl, hb3.alloc hb3.size _⟩


theorem flatR_take (rs : List Raw) : ∀ i, (flatR rs).take (i * 3) = flatR (rs.take i) := by
  induction rs with
  | nil => intro i; simp [flatR]
  | cons r rs ih =>
    intro i
    cases i with
    | zero => simp [flatR]
    | succ i =>
      have h1 : flatR (r :: rs) = r.cells ++ flatR rs := rfl
      have h2 : flatR ((r :: rs).take (i + 1)) = r.cells ++ flatR (rs.take i) := rfl
      rw [h1, h2, List.take_append, List.take_of_length_le (by show 3 ≤ _; omega), show (i + 1) * 3 - r.cells.length = i * 3 by show (i + 1) * 3 - 3 = _; omega, ih]
theorem flatR_drop (rs : List Raw) : ∀ i, (flatR rs).drop (i * 3) = flatR (rs.drop i) := by
  induction rs with
  | nil => intro i; simp [flatR]
  | cons r rs ih =>
    intro i
    cases i with
    | zero => simp [flatR]
    | succ i =>
      have h1 : flatR (r :: rs) = r.cells ++ flatR rs := rfl
      have h2 : flatR ((r :: rs).drop (i + 1)) = flatR (rs.drop i) := rfl
      rw [h1, h2, List.drop_append, List.drop_of_length_le (by show 3 ≤ _; omega), show (i + 1) * 3 - r.cells.length = i * 3 by show (i + 1) * 3 - 3 = _; omega, ih, List.nil_append]

theorem PickRow.ins {w w' : World} {base : Nat} {v v' : Value} {xs : List At} {r : Raw} {x : At} {rs : List Raw} {i : Nat} (hi : i ≤ xs.length) (hl : rs.length = xs.length) (hown : w.ownsRow base 108 3 v xs.length (flatR rs)) (hr : ∀ i (h : i < xs.length) (h' : i < rs.length), PickRaw w base rs[i] xs[i]) (hx : PickRaw w base r x) (hg : w.grownBy w' v.ownBlock)
    (h : w'.ownsRow base 108 3 v' (xs.length + 1) ((flatR rs).take (i * 3) ++ r.cells ++ (flatR rs).drop (i * 3))) : PickRow w' base v' (xs.take i ++ x :: xs.drop i) := by
  refine ⟨rs.take i ++ r :: rs.drop i, by simp [hl], ?_, fun k hk hk' => ?_⟩
  · have e1 : (xs.take i ++ x :: xs.drop i).length = xs.length + 1 := by simp; omega
    rw [e1, flatR_append]
    rw [flatR_take, flatR_drop, List.append_assoc] at h
    exact h
  · have hkl : k < xs.length + 1 := by simp at hk; omega
    rcases Nat.lt_trichotomy k i with hlt | heq | hgt
    · have e1 : (rs.take i ++ r :: rs.drop i)[k] = rs[k]'(by omega) := by rw [List.getElem_append_left (by simp; omega)]; simp
      have e2 : (xs.take i ++ x :: xs.drop i)[k] = xs[k]'(by omega) := by rw [List.getElem_append_left (by simp; omega)]; simp
      rw [e1, e2]
      exact (hr k (by omega) (by omega)).kept hg (fun g cap _ ho => types_ne ho hown)
    · subst heq
      have e1 : (rs.take k ++ r :: rs.drop k)[k] = r := by
        rw [List.getElem_append_right (by simp; omega)]
        simp [show k - min k rs.length = 0 by omega]
      have e2 : (xs.take k ++ x :: xs.drop k)[k] = x := by
        rw [List.getElem_append_right (by simp; omega)]
        simp [show k - min k xs.length = 0 by omega]
      rw [e1, e2]
      exact hx.kept hg (fun g cap _ ho => types_ne ho hown)
    · obtain ⟨j, rfl⟩ : ∃ j, k = j + 1 := ⟨k - 1, by omega⟩
      have e1 : (rs.take i ++ r :: rs.drop i)[j + 1] = rs[j]'(by omega) := by
        rw [List.getElem_append_right (by simp; omega)]
        simp only [List.length_take, show j + 1 - min i rs.length = (j - i) + 1 by omega, List.getElem_cons_succ, List.getElem_drop]
        congr 1; omega
      have e2 : (xs.take i ++ x :: xs.drop i)[j + 1] = xs[j]'(by omega) := by
        rw [List.getElem_append_right (by simp; omega)]
        simp only [List.length_take, show j + 1 - min i xs.length = (j - i) + 1 by omega, List.getElem_cons_succ, List.getElem_drop]
        congr 1; omega
      rw [e1, e2]
      exact (hr j (by omega) (by omega)).kept hg (fun g cap _ ho => types_ne ho hown)

theorem flatR_set (rs : List Raw) : ∀ (i : Nat) (s : Int) (h : i < rs.length), (flatR rs).set (i * 3 + 2) (.int .u8 s) = flatR (rs.set i { rs[i] with sign := s }) := by
  induction rs with
  | nil => intro i s h; simp at h
  | cons r rs ih =>
    intro i s h
    cases i with
    | zero => rfl
    | succ i =>
      have h1 : flatR (r :: rs) = r.cells ++ flatR rs := rfl
      have h2 : flatR ((r :: rs).set (i + 1) { (r :: rs)[i + 1] with sign := s }) = r.cells ++ flatR (rs.set i { (rs[i]'(by simpa using h)) with sign := s }) := rfl
      rw [h1, h2, List.set_append_right _ _ (by show 3 ≤ _; omega), show (i + 1) * 3 + 2 - r.cells.length = i * 3 + 2 by show (i + 1) * 3 + 2 - 3 = _; omega, ih i s (by simpa using h)]

theorem PickRow.less {w : World} {base g cap : Nat} {xs : List At} {rs : List Raw} {i : Nat} {s : Int} (hi : i < xs.length) (hl : rs.length = xs.length) (hown : w.ownsRow base 108 3 (.slice (some ⟨g, 0, none⟩) xs.length cap) xs.length (flatR rs)) (hr : ∀ i (h : i < xs.length) (h' : i < rs.length), PickRaw w base rs[i] xs[i]) (s0 : 0 ≤ s) (s1 : s ≤ 255) :
    PickRow (w.setCell ⟨g, i * 3 + 2, none⟩ (.int .u8 s)) base (.slice (some ⟨g, 0, none⟩) xs.length cap) (xs.set i { xs[i] with sign := s }) ∧ w.grownBy (w.setCell ⟨g, i * 3 + 2, none⟩ (.int .u8 s)) (some g) := by
  obtain ⟨h1, h2⟩ := hown.stored (i * 3 + 2) (.int .u8 s)
  refine ⟨⟨rs.set i { (rs[i]'(by omega)) with sign := s }, by simp [hl], ?_, fun k hk hk' => ?_⟩, h2⟩
  · rw [flatR_set rs i s (by omega)] at h1
    simpa using h1
  · have hk2 : k < xs.length := by simpa using hk
    by_cases e : k = i
    · subst e
      obtain ⟨g2, cap2, hq, ho, h3, h4, h5⟩ := (hr k hi (by omega)).kept h2 (fun g cap _ ho => types_ne ho hown)
      rw [List.getElem_set_self, List.getElem_set_self]
      refine ⟨g2, cap2, ?_, ho, h3, s0, s1⟩
      rw [hq]
    · rw [List.getElem_set_ne (fun h => e h.symm), List.getElem_set_ne (fun h => e h.symm)]
      exact (hr k hk2 (by omega)).kept h2 (fun g cap _ ho => types_ne ho hown)
end Go.Proofs.YtnhjebdlcbhkcaeGreat
