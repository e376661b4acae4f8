/- Contract of slices.Insert at marks, one at a time, into a row that the call owns. -/
import Derived.Test.YtnhjebdlcbhkcaeGreatGapA
import Derived.Test.YtnhjebdlcbhkcaeGreatRowC
import Derived.Shelf.Spec.SlicesInsert
import Derived.Lib.AppendZerosOnto
import Derived.Test.YtnhjebdlcbhkcaeGreatDoerC
import Derived.Test.YtnhjebdlcbhkcaeGreatNextOf
namespace Go.Proofs.YtnhjebdlcbhkcaeGreat
open Go.RowKit Go.Lib

theorem grown_toM {w w' : World} {r : Option Nat} (h : w.grownBy w' r) : w.grownBy w'.drew r := ⟨h.os, h.tape, h.output, h.size, h.block⟩
theorem grown_ofM {w w' : World} {r : Option Nat} (h : w.drew.grownBy w' r) : w.grownBy w' r := ⟨h.os, h.tape, h.output, h.size, h.block⟩
theorem heap_oldM (w : World) (o : Obj) {b : Nat} (hb : b < w.heap.size) : (w.alloc o).heap[b]? = w.heap[b]? := by
  show (w.heap.push o)[b]? = _
  rw [Array.getElem?_push, if_neg (by omega)]

set_option maxRecDepth 100000 in
set_option maxHeartbeats 4000000 in
theorem insM_grow (g n c i vb : Nat) (cur : Array Value) (xs news : List Value) (w : World) (hg : w.heap[g]? = some (.cells cur 42 (0, 0))) (hi : i < n) (hnc : n ≤ c) (hroom : c < n + 1) (hn : n ≤ 2000)
    (_hcs : cur.size = c * 2) (hxs : cur.toList.take (n * 2) = xs) (hxl : xs.length = n * 2) (hv : w.heap[vb]? = some (.cells news.toArray 42 (0, 0))) (hvl : news.length = 2)
    (h1x : ∀ u ∈ xs, u.oneCell' = true) (h1v : ∀ u ∈ news, u.oneCell' = true) :
    Calls Tryz.prog 211 #[.slice (some ⟨g, 0, none⟩) n c, .int .i64 i, .slice (some ⟨vb, 0, none⟩) 1 1] w fun e w' => ∃ G cur', e = .returned (.slice (some ⟨w.heap.size, 0, none⟩) (n + 1) G) ∧ n + 1 ≤ G ∧ G ≤ maxLen ∧ w'.heap[w.heap.size]? = some (.cells cur' 42 (0, 0)) ∧ cur'.size = G * 2 ∧ cur'.toList.take ((n + 1) * 2) = xs.take (i * 2) ++ news ++ xs.drop (i * 2) ∧ w.grownBy w' none := by
  obtain ⟨i0, hi0, hz0, hzs, hzb⟩ := Tryz.info42
  have hz2 : ¬ ((i : Int) = (n : Int)) := by omega
  have hz3 : (c : Int) < (n : Int) + 1 := by omega
  have hkk : (n : Int) + 1 - (i : Int) = ((n + 1 - i : Nat) : Int) := by omega
  have hik : i + (n + 1 - i) = n + 1 := by omega
  have hgw : g < w.heap.size := by
    rcases Nat.lt_or_ge g w.heap.size with h | h
    · exact h
    · rw [Array.getElem?_eq_none h] at hg; cases hg
  have hvw : vb < w.heap.size := by
    rcases Nat.lt_or_ge vb w.heap.size with h | h
    · exact h
    · rw [Array.getElem?_eq_none h] at hv; cases hv
  have hcell : ∀ (W : World), W.heap[g]? = w.heap[g]? → ∀ j v, xs[j]? = some v → W.cell? ⟨g, j, none⟩ = some v := by
    intro W hW j v hj
    have hjl : j < n * 2 := by
      have := (List.getElem?_eq_some_iff.1 hj).1; omega
    have : cur.toList[j]? = some v := by
      rw [← hxs, List.getElem?_take, if_pos hjl] at hj; exact hj
    simp [World.cell?, hW, hg, ← this]
  have hvcell : ∀ (W : World), W.heap[vb]? = w.heap[vb]? → ∀ j v, news[j]? = some v → W.cell? ⟨vb, j, none⟩ = some v := by
    intro W hW j v hj
    simp [World.cell?, hW, hv, hj]
  have hold : (Builtin.firstCells i0.size i (.slice (some ⟨g, 0, none⟩) i c)).run Tryz.prog w.drew = .ok (xs.take (i * 2)).toArray w.drew := by
    rw [hzs]
    exact run_firstCells_some w.drew 2 i ⟨g, 0, none⟩ i c (xs.take (i * 2)) (by rw [List.length_take]; omega) (fun j v hj => by
      rw [Addr.add_lit, Nat.zero_add]
      rw [List.getElem?_take] at hj
      split at hj
      · exact hcell _ rfl j v hj
      · cases hj)
  have hrz : ∀ ty, (Builtin.append_ #[23, 3] ty #[.slice (some ⟨g, 0, none⟩) i c, .int .i64 ((n : Int) + 1 - (i : Int))]).run Tryz.prog w =
      .ok (.slice (some ⟨w.heap.size, 0, none⟩) (n + 1) (grownCap w (n + 1) c 42)) (w.drew.alloc (.cells ((xs.take (i * 2)).toArray ++ Builtin.zeroCells (.agg #[.slice none 0 0, .int .i64 0] : Value).cells (n + 1 - i) ++ Builtin.zeroCells (.agg #[.slice none 0 0, .int .i64 0] : Value).cells (grownCap w (n + 1) c 42 - (n + 1))) 42)) := fun ty => by
    have h := Lib.run_append_grow_zeros w 23 3 ty 42 i0 _ .i64 .i64 Tryz.underlying23 Tryz.underlying3 hi0 hz0 (some ⟨g, 0, none⟩) i c (xs.take (i * 2)) hold (n + 1 - i) (by omega) (by omega) (by omega) (by omega) (by rw [hzb]; omega) (by rw [hzb, hik]; exact growslice_fits hroom (by omega))
    rw [hik] at h
    rw [hkk]
    exact h
  obtain ⟨G, hG⟩ : ∃ G, G = grownCap w (n + 1) c 42 := ⟨_, rfl⟩
  obtain ⟨ROW, hROW⟩ : ∃ ROW : Array Value, ROW = (xs.take (i * 2)).toArray ++ Builtin.zeroCells (.agg #[.slice none 0 0, .int .i64 0] : Value).cells (n + 1 - i) ++ Builtin.zeroCells (.agg #[.slice none 0 0, .int .i64 0] : Value).cells (G - (n + 1)) := ⟨_, rfl⟩
  rw [← hG] at hrz
  rw [← hROW] at hrz
  have hGn : n + 1 ≤ G := by rw [hG]; exact grownCap_ge w _ _ _
  have hGm : G ≤ maxLen := by
    have := grownCap_le_maxLen w (n + 1) c 42 (by unfold maxLen; omega)
    rw [← hG] at this
    exact this
  have hG63 : G ≤ 9223372036854775807 := by unfold maxLen at hGm; omega
  have hRl : ROW.size = G * 2 := by
    rw [hROW]
    simp [Builtin.zeroCells, Value.cells]
    omega
  have hRt : ROW.toList.take (i * 2) = xs.take (i * 2) := by
    rw [hROW, Array.append_assoc, Array.toList_append, List.take_append_of_le_length (by simp; omega)]
    simp [List.take_take]
  have hGi : ¬ (G = i) := by omega
  have hGim : ¬ (G = i + 1) := by omega
  have hci : ¬ (c = i) := by omega
  have hsz : (Tryz.prog.info? 42).map (·.size) = some 2 := by rw [hi0]; simp [hzs]
  obtain ⟨R1, hR1⟩ : ∃ R1 : Array Value, R1 = (ROW.toList.take (i * 2) ++ news ++ ROW.toList.drop (i * 2 + news.length)).toArray := ⟨_, rfl⟩
  have hR1l : R1.size = G * 2 := by
    rw [hR1]; simp; omega
  have hdl : (xs.drop (i * 2)).length = (n - i) * 2 := by rw [List.length_drop, hxl]; omega
  obtain ⟨R2, hR2⟩ : ∃ R2 : Array Value, R2 = (R1.toList.take ((i + 1) * 2) ++ xs.drop (i * 2) ++ R1.toList.drop ((i + 1) * 2 + (xs.drop (i * 2)).length)).toArray := ⟨_, rfl⟩
  have hR2l : R2.size = G * 2 := by
    rw [hR2]; simp; omega
  have hR1t : R1.toList.take ((i + 1) * 2) = xs.take (i * 2) ++ news := by
    rw [hR1, ← hRt]
    rw [List.take_append_of_le_length (by simp; omega), List.take_of_length_le (by simp; omega)]
  have hR2t : R2.toList.take ((n + 1) * 2) = xs.take (i * 2) ++ news ++ xs.drop (i * 2) := by
    rw [hR2, hR1t]
    rw [List.take_append_of_le_length (by simp; omega), List.take_of_length_le (by simp; omega)]
  have hcpA : ∀ ty dc, (Builtin.copy_ #[23, 23] ty #[.slice (some ⟨w.heap.size, i * 2, none⟩) (n + 1 - i) dc, .slice (some ⟨vb, 0, none⟩) 1 1]).run Tryz.prog (w.alloc (.cells ROW 42)).drew = .ok (.int .i64 1) (w.alloc (.cells R1 42)).drew := fun ty dc => by
    have h := run_copy_rowK (P := Tryz.prog) (w.drew.alloc (.cells ROW 42)) 23 23 ty 42 w.drew.heap.size (i * 2) (n + 1 - i) dc ⟨vb, 0, none⟩ 1 1 2 1 ROW 42 news Tryz.underlying23 hsz (heap_new _ _) (by show 1 = min 1 (n + 1 - i); omega) (by omega) (fun j v hj => by rw [Addr.add_lit, Nat.zero_add]; exact hvcell _ (heap_oldM _ _ hvw) j v hj) (by omega) h1v
    rw [setRow_alloc, ← hR1] at h
    exact h
  have hcpB : ∀ ty dc sc, (Builtin.copy_ #[23, 23] ty #[.slice (some ⟨w.heap.size, (i + 1) * 2, none⟩) (n - i) dc, .slice (some ⟨g, i * 2, none⟩) (n - i) sc]).run Tryz.prog (w.alloc (.cells R1 42)).drew.drew = .ok (goInt ((n - i : Nat) : Int)) (w.alloc (.cells R2 42)).drew.drew := fun ty dc sc => by
    have h := run_copy_rowK (P := Tryz.prog) (w.drew.drew.alloc (.cells R1 42)) 23 23 ty 42 w.drew.drew.heap.size ((i + 1) * 2) (n - i) dc ⟨g, i * 2, none⟩ (n - i) sc 2 (n - i) R1 42 (xs.drop (i * 2)) Tryz.underlying23 hsz (heap_new _ _) (by show n - i = min (n - i) (n - i); omega) hdl (fun j v hj => by rw [Addr.add_lit]; exact hcell _ (heap_oldM _ _ hgw) _ v (by rwa [List.getElem?_drop] at hj)) (by rw [hdl]; omega) (fun v hv => h1x v (List.mem_of_mem_drop hv))
    rw [setRow_alloc, ← hR2] at h
    exact h
  have mixed : Tryz.prog.follows Departure.mixedOrders = true := by kernel_rfl
  have hb1 : (0 : Int) ≤ (i : Int) + 1 := by omega
  have hw1 : IntKind.i64.wrap ((i : Int) + 1) = (i : Int) + 1 := by rw [IntKind.wrap_i64]; omega
  have hin : i ≤ n := by omega
  have htn : ((i : Int) + 1).toNat = i + 1 := by omega
  have hb3 : (i : Int) ≤ (n : Int) := by omega
  have HF : Hid (∃ G cur', (.returned (.slice (some ⟨w.heap.size, 0, none⟩) (n + 1) G) : Ending) = .returned (.slice (some ⟨w.heap.size, 0, none⟩) (n + 1) G) ∧ True ∧ cur' = R2) := ⟨G, R2, rfl, trivial, rfl⟩
  clear hkk hik hold hROW hG hRl hRt hR1 hR1l hR2 hR1t hdl hcell hvcell HF
  have HR2t := hidE hR2t
  have HR2l := hidE hR2l
  clear hR2t hR2l hxs _hcs
  go_enter Tryz.func211, Tryz.ntmps211
  go_wp2_with (first
    | (at_builtin; refine Lib.wpList_append_run _ rfl _ _ _ _ rfl _ _ rfl rfl _ _ (hrz _) ?_)
    | (at_builtin; refine wpList_copy_runI _ rfl _ _ 23 23 rfl _ _ rfl rfl (hcpA _ _) ?_))
  go_region_law_o (refine step_copy_runI rfl _ _ 23 23 rfl (.slice (some ⟨w.heap.size, (i + 1) * 2, none⟩) (n - i) (G - (i + 1))) (.slice (some ⟨g, i * 2, none⟩) (n - i) (c - i)) (by simp [Act.eval, Act.put]) (by simp [Act.eval, Act.put]) (hcpB 3 (G - (i + 1)) (c - i)) ?_)
  go_wp2
  go_ret
  exact ⟨G, R2, rfl, hGn, hGm, heap_new _ _, HR2l.out, HR2t.out, grown_toM (grown_toM (World.grownBy_alloc w _ none))⟩

theorem setRow_atM {w : World} {g : Nat} {cur R : Array Value} {t : TypeId} (hg : w.heap[g]? = some (.cells cur t (0, 0))) : (w.setRow g R).heap[g]? = some (.cells R t (0, 0)) := by
  unfold World.setRow; simp [Array.getElem?_modify, hg]
theorem setRow_offM {w : World} {g b : Nat} {R : Array Value} (hb : b ≠ g) : (w.setRow g R).heap[b]? = w.heap[b]? := by
  unfold World.setRow; simp only [Array.getElem?_modify]; rw [if_neg (fun e => hb e.symm)]
theorem setRow_grownM (w : World) (g : Nat) (R : Array Value) : w.grownBy (w.setRow g R) (some g) :=
  ⟨rfl, rfl, rfl, by unfold World.setRow; simp, fun k _ hne => setRow_offM (fun e => hne (by rw [e]))⟩

set_option maxRecDepth 100000 in
set_option maxHeartbeats 4000000 in
theorem insM_shift (g n c i vb : Nat) (cur : Array Value) (xs news : List Value) (w : World) (hg : w.heap[g]? = some (.cells cur 42 (0, 0))) (hi : i < n) (hroom : n + 1 ≤ c) (hn : n ≤ 2000) (hcm : c ≤ maxLen)
    (hcs : cur.size = c * 2) (hxs : cur.toList.take (n * 2) = xs) (hxl : xs.length = n * 2) (hv : w.heap[vb]? = some (.cells news.toArray 42 (0, 0))) (hvl : news.length = 2) (hne : vb ≠ g)
    (h1x : ∀ u ∈ xs, u.oneCell' = true) (h1v : ∀ u ∈ news, u.oneCell' = true) :
    Calls Tryz.prog 211 #[.slice (some ⟨g, 0, none⟩) n c, .int .i64 i, .slice (some ⟨vb, 0, none⟩) 1 1] w fun e w' => ∃ cur', e = .returned (.slice (some ⟨g, 0, none⟩) (n + 1) c) ∧ w'.heap[g]? = some (.cells cur' 42 (0, 0)) ∧ cur'.size = c * 2 ∧ cur'.toList.take ((n + 1) * 2) = xs.take (i * 2) ++ news ++ xs.drop (i * 2) ∧ w.grownBy w' (some g) := by
  obtain ⟨i0, hi0, hz0, hzs, hzb⟩ := Tryz.info42
  have hz2 : ¬ ((i : Int) = (n : Int)) := by omega
  have hz3 : ¬ ((c : Int) < (n : Int) + 1) := by omega
  have hsz : (Tryz.prog.info? 42).map (·.size) = some 2 := by rw [hi0]; simp [hzs]
  have hcell : ∀ j v, xs[j]? = some v → w.cell? ⟨g, j, none⟩ = some v := by
    intro j v hj
    have hjl : j < n * 2 := by
      have := (List.getElem?_eq_some_iff.1 hj).1; omega
    have : cur.toList[j]? = some v := by
      rw [← hxs, List.getElem?_take, if_pos hjl] at hj; exact hj
    simp [World.cell?, hg, ← this]
  have hdl : (xs.drop (i * 2)).length = (n - i) * 2 := by rw [List.length_drop, hxl]; omega
  obtain ⟨R1, hR1⟩ : ∃ R1 : Array Value, R1 = (cur.toList.take ((i + 1) * 2) ++ xs.drop (i * 2) ++ cur.toList.drop ((i + 1) * 2 + (xs.drop (i * 2)).length)).toArray := ⟨_, rfl⟩
  have hR1l : R1.size = c * 2 := by
    rw [hR1]; simp; omega
  obtain ⟨R2, hR2⟩ : ∃ R2 : Array Value, R2 = (R1.toList.take (i * 2) ++ news ++ R1.toList.drop (i * 2 + news.length)).toArray := ⟨_, rfl⟩
  have hR2l : R2.size = c * 2 := by
    rw [hR2]; simp; omega
  have hR1a : R1.toList.take (i * 2) = xs.take (i * 2) := by
    rw [hR1, ← hxs]
    show List.take _ (_ ++ _ ++ _) = _
    rw [List.append_assoc, List.take_append_of_le_length (by simp; omega), List.take_take, List.take_take]
    congr 1; omega
  have hR1b : R1.toList.drop (i * 2 + news.length) = xs.drop (i * 2) ++ cur.toList.drop ((i + 1) * 2 + (xs.drop (i * 2)).length) := by
    rw [hR1, hvl]
    show List.drop _ (_ ++ _ ++ _) = _
    rw [List.append_assoc, List.drop_append_of_le_length (by simp; omega), List.drop_of_length_le (by simp; omega), List.nil_append]
  have hR2t : R2.toList.take ((n + 1) * 2) = xs.take (i * 2) ++ news ++ xs.drop (i * 2) := by
    rw [hR2, hR1a, hR1b, ← List.append_assoc]
    show List.take _ (_ ++ _) = _
    rw [List.take_append_of_le_length (by simp; omega), List.take_of_length_le (by simp; omega)]
  have hov : ∀ lb cb, (callFunc 246 #[.slice (some ⟨vb, 0, none⟩) 1 1, .slice (some ⟨g, (i + 1) * 2, none⟩) lb cb]).run Tryz.prog w = .ok (.value (.bool false)) w := fun lb cb => by
    rw [run_callFunc_extern Tryz.func246 (by kernel_rfl) (by kernel_rfl) (by kernel_rfl) (e := Extern.SlicesOverlaps.overlaps #[23, 23] #[4]) (by kernel_rfl),
      Lib.run_overlaps_apart w 23 4 42 Tryz.underlying23 2 (fun w => by simp [sizeOf, typeInfo, hi0, hzs]) ⟨vb, 0, none⟩ ⟨g, (i + 1) * 2, none⟩ 1 1 lb cb hne 42 42 news.toArray.size cur.size (by simp [World.shape?, hv]) (by simp [World.shape?, hg]) (by omega) (by simp [World.frozen?, hv]) (by simp [World.frozen?, hv])]
    rfl
  have hcp1 : ∀ ty dc sc, (Builtin.copy_ #[23, 23] ty #[.slice (some ⟨g, (i + 1) * 2, none⟩) (n - i) dc, .slice (some ⟨g, i * 2, none⟩) (n + 1 - i) sc]).run Tryz.prog w.drew = .ok (goInt ((n - i : Nat) : Int)) (w.drew.setRow g R1) := fun ty dc sc => by
    have h := run_copy_rowK (P := Tryz.prog) w.drew 23 23 ty 42 g ((i + 1) * 2) (n - i) dc ⟨g, i * 2, none⟩ (n + 1 - i) sc 2 (n - i) cur 42 (xs.drop (i * 2)) Tryz.underlying23 hsz hg (by show n - i = min (n + 1 - i) (n - i); omega) hdl (fun j v hj => by rw [Addr.add_lit]; exact hcell _ v (by rwa [List.getElem?_drop] at hj)) (by rw [hdl]; omega) (fun v hv => h1x v (List.mem_of_mem_drop hv))
    rw [← hR1] at h
    exact h
  have hcp2 : ∀ ty dc, (Builtin.copy_ #[23, 23] ty #[.slice (some ⟨g, i * 2, none⟩) (n + 1 - i) dc, .slice (some ⟨vb, 0, none⟩) 1 1]).run Tryz.prog (w.drew.setRow g R1) = .ok (.int .i64 1) ((w.drew.setRow g R1).setRow g R2) := fun ty dc => by
    have h := run_copy_rowK (P := Tryz.prog) (w.drew.setRow g R1) 23 23 ty 42 g (i * 2) (n + 1 - i) dc ⟨vb, 0, none⟩ 1 1 2 1 R1 42 news Tryz.underlying23 hsz (setRow_atM hg) (by show 1 = min 1 (n + 1 - i); omega) (by omega) (fun j v hj => by rw [Addr.add_lit, Nat.zero_add]; simp [World.cell?, setRow_offM hne]; rw [show w.drew.heap[vb]? = _ from hv]; simp [hj]) (by omega) h1v
    rw [← hR2] at h
    exact h
  have mixed : Tryz.prog.follows Departure.mixedOrders = true := by kernel_rfl
  have hb1 : (0 : Int) ≤ (i : Int) + 1 := by omega
  have hw1 : IntKind.i64.wrap ((i : Int) + 1) = (i : Int) + 1 := by rw [IntKind.wrap_i64]; omega
  have hin : i ≤ n := by omega
  have hc63 : c ≤ 9223372036854775807 := by unfold maxLen at hcm; omega
  have htn : ((i : Int) + 1).toNat = i + 1 := by omega
  have hb2 : ¬ (c = i + 1) := by omega
  have hb3 : (i : Int) ≤ (n : Int) + 1 := by omega
  have hb4 : ¬ (c = i) := by omega
  have HR2t := hidE hR2t
  have HR2l := hidE hR2l
  have HG := hidE hg
  clear hR2t hR2l hxs hcs hR1 hR2 hR1l hR1a hR1b hdl hcell hcm hg
  go_enter Tryz.func211, Tryz.ntmps211
  go_wp2_with (simp only [hov])
  go_region_law_o (refine step_copy_runI rfl _ _ 23 23 rfl _ _ (by simp [Act.eval, Act.put]) (by simp [Act.eval, Act.put]) (hcp1 _ _ _) ?_)
  go_wp2_with (at_builtin; refine wpList_copy_runI _ rfl _ _ 23 23 rfl _ _ rfl rfl (hcp2 _ _) ?_)
  go_ret
  exact ⟨R2, rfl, setRow_atM (setRow_atM HG.out), HR2l.out, HR2t.out, grown_ofM ((setRow_grownM w.drew g R1).trans (setRow_grownM _ g R2))⟩

end Go.Proofs.YtnhjebdlcbhkcaeGreat

namespace Go.Proofs.YtnhjebdlcbhkcaeGreat
open Go.RowKit Go.Lib

theorem run_append_ownB {P : Program} (w : World) (base : Nat) (t ty e : TypeId) (i : TypeInfo) (z : Value) (size bytes : Nat) (ht : P.underlying t = some (.slice e)) (hi : P.info? e = some i) (hz : i.zero = some z)
    (hsize : i.size = size) (hby : i.bytes = bytes) (hzs : z.cells.size = size) (hsz : 0 < size) (v : Value) (n : Nat) (xs : List Value) (hown : w.ownsRow base e size v n xs)
    (a : Addr) (c : Nat) (news : List Value) (hl : news.length = 1 * size) (hnews : ∀ j u, news[j]? = some u → w.cell? (a.add j) = some u) (h1 : ∀ u ∈ news, u.oneCell' = true)
    (h63 : n + 1 ≤ maxLen) (hbytes : (n + 1) * bytes ≤ 140737488355328) (hbase : base ≤ w.heap.size) :
    ∃ v' w', (Builtin.append_ #[t, t] ty #[v, .slice (some a) 1 c]).run P w = .ok v' w' ∧ w'.ownsRow base e size v' (n + 1) (xs ++ news) ∧ w.grownBy w' v.ownBlock ∧ (v'.ownBlock = v.ownBlock ∨ v'.ownBlock = some w.heap.size) := by
  obtain ⟨v', w', hrun, r1, r2, _⟩ := run_append_own (P := P) w base t ty e i z size bytes ht hi hz hsize hby hzs hsz v n xs hown a 1 c news hl hnews h1 h63 hbytes hbase
  refine ⟨v', w', hrun, r1, r2, ?_⟩
  unfold maxLen at h63
  subst hsize hby
  rcases hown.2 with ⟨rfl, rfl⟩ | ⟨g, cap, cur, rfl, hbg, hg, hnc, hcm, hcs, htake⟩
  · have hr := run_append_nil (P := P) w t ty e i z ht hi hz a 1 c news hl hnews (by omega) (by omega) (by omega)
    rw [hrun] at hr
    injection hr with e1 e2
    right; rw [e1]; rfl
  · by_cases hroom : n + 1 ≤ cap
    · have hfit : n * i.size + news.length ≤ cur.size := by rw [hl, hcs, ← Nat.add_mul]; exact Nat.mul_le_mul_right _ hroom
      have hr := run_append_room (P := P) w t ty e i ht hi g n cap cur hg a 1 c news hl hnews h1 hroom hfit
      rw [hrun] at hr
      injection hr with e1 e2
      left; rw [e1]; rfl
    · have holds : ∀ j u, xs[j]? = some u → w.cell? ((⟨g, 0, none⟩ : Addr).add j) = some u := hown.cells (g := g) rfl
      have hr := run_append_grow (P := P) w t ty e i z ht hi hz ⟨g, 0, none⟩ n cap xs hown.1 holds a 1 c news hl hnews (by omega) (by omega) (growslice_fits (by omega) hbytes)
      rw [hrun] at hr
      injection hr with e1 e2
      right; rw [e1]; rfl

theorem wpList_append_ownB {P : Program} {w : World} {ops : Array Oper} {rest : List Oper} {o : Oper} {a : Act} {Q : Exit → Act → World → Prop} (hgd : o.guard = none) (s x : Operand) (t : TypeId)
    (ho : o.op = .call { callee := .builtin .append, args := #[s, x], argTypes := #[t, t] })
    (base : Nat) (e : TypeId) (i : TypeInfo) (z : Value) (size bytes : Nat) (ht : P.underlying t = some (.slice e)) (hi : P.info? e = some i) (hz : i.zero = some z)
    (hsize : i.size = size) (hby : i.bytes = bytes) (hzs : z.cells.size = size) (hsz : 0 < size)
    (v : Value) (n : Nat) (xs : List Value) (hs : a.eval s = v) (hown : w.ownsRow base e size v n xs)
    (ad : Addr) (c : Nat) (news : List Value) (hx : a.eval x = .slice (some ad) 1 c) (hl : news.length = 1 * size) (hnews : ∀ j u, news[j]? = some u → w.cell? (ad.add j) = some u) (h1 : ∀ u ∈ news, u.oneCell' = true)
    (h63 : n + 1 ≤ maxLen) (hbytes : (n + 1) * bytes ≤ 140737488355328) (hbase : base ≤ w.heap.size)
    (h : ∀ v' w', w'.ownsRow base e size v' (n + 1) (xs ++ news) → w.grownBy w' v.ownBlock → (v'.ownBlock = v.ownBlock ∨ v'.ownBlock = some w.heap.size) → wpList P ops Q rest (a.put o.dst v') w') : wpList P ops Q (o :: rest) a w := by
  refine wpList_plain hgd fun K hK => ?_
  obtain ⟨v', w', hrun, r1, r2, r3⟩ := run_append_ownB (P := P) w base t o.type e i z size bytes ht hi hz hsize hby hzs hsz v n xs hown ad c news hl hnews h1 h63 hbytes hbase
  unfold Oper.wp
  simp [execOp, ho, resolve, invoke, builtin, hs, hx, hrun, Result.andThen]
  exact hK _ _ (h v' w' r1 r2 r3)

set_option maxRecDepth 100000 in
set_option maxHeartbeats 4000000 in
theorem insM_endB (base : Nat) (v : Value) (n vb : Nat) (xs news : List Value) (w : World) (hown : w.ownsRow base 42 2 v n xs) (hbase : base ≤ w.heap.size) (hn : n ≤ 2000) (hv : w.heap[vb]? = some (.cells news.toArray 42 (0, 0))) (hvl : news.length = 2) (h1v : ∀ u ∈ news, u.oneCell' = true) :
    Calls Tryz.prog 211 #[v, .int .i64 n, .slice (some ⟨vb, 0, none⟩) 1 1] w fun e w' => ∃ v', e = .returned v' ∧ w'.ownsRow base 42 2 v' (n + 1) (xs ++ news) ∧ w.grownBy w' v.ownBlock ∧ (v'.ownBlock = v.ownBlock ∨ v'.ownBlock = some w.heap.size) := by
  obtain ⟨i0, hi0, hz0, hzs, hzb⟩ := Tryz.info42
  obtain ⟨a, c, rfl, hnc, hc63⟩ : ∃ a c, v = .slice a n c ∧ n ≤ c ∧ c ≤ 9223372036854775807 := by
    rcases hown.2 with ⟨rfl, rfl⟩ | ⟨g, cap, cur, rfl, _, _, h1, h2, _⟩
    · exact ⟨none, 0, rfl, Nat.le_refl _, by omega⟩
    · exact ⟨_, _, rfl, h1, by unfold maxLen at h2; omega⟩
  by_cases hcn : c = n
  all_goals
    go_enter Tryz.func211, Tryz.ntmps211
    go_wp2_with (at_builtin; refine wpList_append_ownB rfl _ _ 23 rfl base 42 i0 (.agg #[.slice none 0 0, .int .i64 0]) 2 32 Tryz.underlying23 hi0 hz0 hzs hzb rfl (by decide) _ _ _ rfl hown ⟨vb, 0, none⟩ 1 news rfl ?qc1 ?qc2 ?qc3 ?qc4 ?qc5 ?qc6 ?_)
    case qc1 => omega
    case qc2 => intro j u hj; rw [Addr.add_lit, Nat.zero_add]; simp [World.cell?, hv, hj]
    case qc3 => exact h1v
    case qc4 => unfold maxLen; omega
    case qc5 => omega
    case qc6 => exact hbase
    intro v' w' hown' hgrow hblk
    go_wp2
    go_ret
    exact ⟨v', rfl, hown', by cases a <;> exact hgrow, by cases a <;> exact hblk⟩

theorem insM_ownB (base : Nat) (v : Value) (n i vb : Nat) (xs news : List Value) (w : World) (hown : w.ownsRow base 42 2 v n xs) (hbase : base ≤ w.heap.size) (hi : i ≤ n) (hn : n ≤ 2000) (hv : w.heap[vb]? = some (.cells news.toArray 42 (0, 0))) (hvl : news.length = 2) (hne : some vb ≠ v.ownBlock)
    (h1x : ∀ u ∈ xs, u.oneCell' = true) (h1v : ∀ u ∈ news, u.oneCell' = true) :
    Calls Tryz.prog 211 #[v, .int .i64 i, .slice (some ⟨vb, 0, none⟩) 1 1] w fun e w' => ∃ v', e = .returned v' ∧ w'.ownsRow base 42 2 v' (n + 1) (xs.take (i * 2) ++ news ++ xs.drop (i * 2)) ∧ w.grownBy w' v.ownBlock ∧ (v'.ownBlock = v.ownBlock ∨ v'.ownBlock = some w.heap.size) := by
  rcases Nat.lt_or_ge i n with hlt | hge
  · rcases hown.2 with ⟨_, h0⟩ | ⟨g, c, cur, rfl, hbg, hg, hnc, hcm, hcs, hxs⟩
    · omega
    · have hng : vb ≠ g := fun e => hne (by rw [e]; rfl)
      rcases Nat.lt_or_ge c (n + 1) with hr | hr
      · refine (insM_grow g n c i vb cur xs news w hg hlt hnc hr hn hcs hxs hown.1 hv hvl h1x h1v).mono ?_
        rintro e w' ⟨G, cur', rfl, h1, h2, h3, h4, h5, h6⟩
        exact ⟨_, rfl, ⟨by simp; have := hown.1; omega, Or.inr ⟨_, G, cur', rfl, hbase, h3, h1, h2, h4, h5⟩⟩, ⟨h6.os, h6.tape, h6.output, h6.size, fun k hk _ => h6.block k hk (by simp)⟩, Or.inr rfl⟩
      · refine (insM_shift g n c i vb cur xs news w hg hlt hr hn hcm hcs hxs hown.1 hv hvl hng h1x h1v).mono ?_
        rintro e w' ⟨cur', rfl, h3, h4, h5, h6⟩
        exact ⟨_, rfl, ⟨by simp; have := hown.1; omega, Or.inr ⟨g, c, cur', rfl, hbg, h3, hr, hcm, h4, h5⟩⟩, h6, Or.inl rfl⟩
  · obtain rfl : i = n := by omega
    refine (insM_endB base v i vb xs news w hown hbase hn hv hvl h1v).mono ?_
    rintro e w' ⟨v', rfl, h1, h2, h3⟩
    refine ⟨v', rfl, ?_, h2, h3⟩
    rw [List.take_of_length_le (by rw [hown.1]; omega), List.drop_of_length_le (by rw [hown.1]; omega), List.append_nil]
    exact h1
end Go.Proofs.YtnhjebdlcbhkcaeGreat

namespace Go.Proofs.YtnhjebdlcbhkcaeGreat
open Go.RowKit

def insG (g : List Mk) (m : Mk) : List Mk := if hasGone g m.1 m.2 = true then g else g.take (lowM g m.1 m.2) ++ m :: g.drop (lowM g m.1 m.2)

theorem lowM_le (g : List Mk) (m : List (Int × Int)) (d : Int) : lowM g m d ≤ g.length := List.countP_le_length

theorem insG_len (g : List Mk) (m : Mk) : (insG g m).length ≤ g.length + 1 := by
  unfold insG
  split
  · omega
  · simp; have := lowM_le g m.1 m.2; omega

theorem up_all {x : Mk} {g : List Mk} (h : Up (x :: g)) {m : Mk} (h0 : 0 ≤ ordM x.1 x.2 m.1 m.2) : ∀ y ∈ g, 0 < ordM y.1 y.2 m.1 m.2 := by
  intro y hy
  have h1 : ordM x.1 x.2 y.1 y.2 < 0 := (List.pairwise_cons.1 h).1 y hy
  rcases Int.lt_or_le 0 (ordM y.1 y.2 m.1 m.2) with h2 | h2
  · exact h2
  · have h3 : ordM x.1 x.2 m.1 m.2 < 0 := cmpM.lt_le (a := x) (b := y) (c := m) h1 h2
    omega

theorem low_parts : ∀ {g : List Mk} (_ : Up g) (m : Mk), (∀ y ∈ g.take (lowM g m.1 m.2), ordM y.1 y.2 m.1 m.2 < 0) ∧ ∀ y ∈ g.drop (lowM g m.1 m.2), 0 ≤ ordM y.1 y.2 m.1 m.2
  | [], _, m => by simp
  | x :: g, h, m => by
    by_cases h0 : ordM x.1 x.2 m.1 m.2 < 0
    · have e : lowM (x :: g) m.1 m.2 = lowM g m.1 m.2 + 1 := by unfold lowM; rw [List.countP_cons]; simp [h0]
      have ih := low_parts (List.pairwise_cons.1 h).2 m
      rw [e, List.take_succ_cons, List.drop_succ_cons]
      refine ⟨fun y hy => ?_, ih.2⟩
      rcases List.mem_cons.1 hy with rfl | hy
      · exact h0
      · exact ih.1 y hy
    · have ha := up_all h (show 0 ≤ ordM x.1 x.2 m.1 m.2 by omega)
      have e : lowM (x :: g) m.1 m.2 = 0 := by
        unfold lowM
        rw [List.countP_eq_zero]
        intro y hy
        rcases List.mem_cons.1 hy with rfl | hy
        · simpa using h0
        · have := ha y hy; simp; omega
      rw [e]
      refine ⟨by simp, fun y hy => ?_⟩
      simp only [List.drop_zero] at hy
      rcases List.mem_cons.1 hy with rfl | hy
      · omega
      · have := ha y hy; omega

theorem insG_up {g : List Mk} (h : Up g) (m : Mk) : Up (insG g m) := by
  unfold insG
  split
  · exact h
  · rename_i hn
    obtain ⟨h1, h2⟩ := low_parts h m
    have hg : ∀ y ∈ g, ordM y.1 y.2 m.1 m.2 ≠ 0 := by
      intro y hy e
      apply hn
      unfold hasGone
      rw [List.any_eq_true]
      exact ⟨y, hy, by simpa using e⟩
    have h3 : ∀ y ∈ g.drop (lowM g m.1 m.2), ordM m.1 m.2 y.1 y.2 < 0 := by
      intro y hy
      have e1 := h2 y hy
      have e2 := hg y (List.mem_of_mem_drop hy)
      have e3 : ordM m.1 m.2 y.1 y.2 = - ordM y.1 y.2 m.1 m.2 := cmpM.anti m y
      omega
    have hs : Up (g.take (lowM g m.1 m.2) ++ g.drop (lowM g m.1 m.2)) := by rw [List.take_append_drop]; exact h
    have hs' := List.pairwise_append.1 hs
    refine List.pairwise_append.2 ⟨hs'.1, List.pairwise_cons.2 ⟨h3, hs'.2.1⟩, fun a ha b hb => ?_⟩
    rcases List.mem_cons.1 hb with rfl | hb
    · exact h1 a ha
    · exact hs'.2.2 a ha b hb

theorem insAll_up {g : List Mk} (h : Up g) : ∀ (ms : List Mk), Up (ms.foldl insG g)
  | [] => h
  | m :: ms => insAll_up (insG_up h m) ms
theorem insAll_len : ∀ (ms : List Mk) (g : List Mk), (ms.foldl insG g).length ≤ g.length + ms.length
  | [], _ => by simp
  | m :: ms, g => by
    have := insAll_len ms (insG g m)
    have := insG_len g m
    simp only [List.foldl_cons, List.length_cons]
    omega
theorem insAll_take {g : List Mk} {ms : List Mk} {k : Nat} (h : k < ms.length) : (ms.take (k + 1)).foldl insG g = insG ((ms.take k).foldl insG g) ms[k] := by
  rw [List.take_succ_eq_append_getElem h, List.foldl_append]; rfl
end Go.Proofs.YtnhjebdlcbhkcaeGreat

namespace Go.Proofs.YtnhjebdlcbhkcaeGreat
open Go.RowKit

structure GoneAt (w : World) (B D : Nat) (g : List Mk) : Prop where
  bl : B < w.heap.size
  b0 : w.cell? ⟨B, 0, none⟩ = some (.pointer (some ⟨D, 0, none⟩))
  dl : D < w.heap.size
  gs : ∃ b cap, w.cell? ⟨D, 1, none⟩ = some (.slice b g.length cap) ∧ MarksAt w b g
theorem GoneAt.below {w w' : World} {B D : Nat} {g : List Mk} {X : Nat} (h : GoneAt w B D g) (hb : Below X w w') (hX : w.heap.size ≤ X) : GoneAt w' B D g := by
  obtain ⟨h1, h2, h3, b, cap, h4, h5⟩ := h
  exact ⟨Nat.lt_of_lt_of_le h1 hb.size, (hb.cell (p := ⟨B, 0, none⟩) (Nat.lt_of_lt_of_le h1 hX)).trans h2, Nat.lt_of_lt_of_le h3 hb.size, b, cap, (hb.cell (p := ⟨D, 1, none⟩) (Nat.lt_of_lt_of_le h3 hX)).trans h4, h5.below hb hX⟩

set_option maxRecDepth 100000 in
set_option maxHeartbeats 4000000 in
theorem put1_any (B D : Nat) (p : Option Addr) (cap : Nat) (g : List Mk) (m : List (Int × Int)) (d s : Int) (w : World) (hG : GoneAt w B D g) (hl : g.length ≤ 1000) (hu : Up g) (hm : m.length ≤ maxLen) (h' : StepsAt w p m) :
    Calls Tryz.prog 209 #[.agg #[.slice p m.length cap, .int .i64 d, .int .u8 s], .pointer (some ⟨B, 0, none⟩)] w fun e w' => e = .returned (.bool (hasGone g m d)) ∧ Below w.heap.size w w' := by
  have hb1 : Below w.heap.size w (w.alloc (Obj.cells #[.slice p m.length cap, .int .i64 d, .int .u8 s] 108)) := (Below.refl _ _).alloc (Nat.le_refl _) _
  have a0 : (w.alloc (Obj.cells #[.slice p m.length cap, .int .i64 d, .int .u8 s] 108)).cell? ⟨w.heap.size, 0, none⟩ = some (.slice p m.length cap) := by simp
  have a1 : (w.alloc (Obj.cells #[.slice p m.length cap, .int .i64 d, .int .u8 s] 108)).cell? ⟨w.heap.size, 1, none⟩ = some (.int .i64 d) := by simp
  have HU := hidE hu
  clear hu
  replace hG := hG.below hb1 (Nat.le_refl _)
  replace h' := h'.below hb1 (Nat.le_refl _)
  go_enter Tryz.func209, Tryz.ntmps209
  go_upto_region 1 with fail
  generalize w.alloc (Obj.cells #[.slice p m.length cap, .int .i64 d, .int .u8 s] 108) = w1 at hb1 a0 a1 hG h' ⊢
  have HG := hidE (fun (W : World) (hh : GoneAt W B D g) (hs : StepsAt W p m) => (show Calls Tryz.prog 210 #[.pointer (some ⟨D, 0, none⟩), .agg #[.slice p m.length cap, .int .i64 d]] W fun e w' => e = .returned (.tuple #[.int .i64 (lowM g m d), .bool (hasGone g m d)]) ∧ Below W.heap.size W w' from by obtain ⟨_, _, dl, b, cp, c1, hM⟩ := hh; exact doerFind_any D b p cp cap g m d W hl hm c1 dl hM hs HU.out))
  have b0 := hG.b0
  go_wp2_with (go_at_call 210; refine (HG.out _ hG h').mono ?_; rintro e w2 ⟨rfl, hb⟩)
  go_ret
  exact ⟨rfl, hb1.thru hb hb1.size⟩

def goneA (g : List Mk) (x : At) : Bool := hasGone g x.path x.clock
def firstG (g : List Mk) (l : List At) : Nat := (l.takeWhile fun x => !goneA g x).length
def idxG (g : List Mk) (l : List At) : Int := if firstG g l < l.length then (firstG g l : Int) else -1
theorem firstG_drop {g : List Mk} {l : List At} {k : Nat} (h : k < l.length) : firstG g (l.drop k) = if goneA g l[k] then 0 else firstG g (l.drop (k + 1)) + 1 := by
  unfold firstG
  rw [List.drop_eq_getElem_cons h, List.takeWhile_cons]
  cases goneA g l[k] <;> simp

set_option maxRecDepth 100000 in
set_option maxHeartbeats 4000000 in
theorem indexG_any (B D : Nat) (a : Option Addr) (cap : Nat) (l : List At) (g : List Mk) (w : World) (hG : GoneAt w B D g) (hg : g.length ≤ 1000) (hu : Up g) (hl : l.length ≤ 1000) (h : AtomsAt w a l) :
    Calls Tryz.prog 244 #[.slice a l.length cap, .func (.func 209) #[] #[.pointer (some ⟨B, 0, none⟩)]] w fun e w' => e = .returned (.int .i64 (idxG g l)) ∧ Below w.heap.size w w' := by
  have HU := hidE hu
  clear hu
  go_enter Tryz.func244, Tryz.ntmps244
  go_wp2_with fail
  go_loopw [8] (fun i wr => ∃ k : Nat, k ≤ l.length ∧ i = .int .i64 k ∧ firstG g l = k + firstG g (l.drop k) ∧ Below w.heap.size w wr) (fun i _ => l.length - (intOf i).toNat)
  case atStart => exact ⟨0, Nat.zero_le _, rfl, by simp, Below.refl _ _⟩
  case round =>
    obtain ⟨k, hk, rfl, hck, hb⟩ := hrel
    have HK := hidE hck
    clear hck
    by_cases hlt : k < l.length
    · rcases h.below hb (Nat.le_refl _) with hs | ⟨ab, ao, rfl, hab, hc⟩
      · simp [hs] at hlt
      obtain ⟨p, cp, c0, c1, c2, hst, hle, _⟩ := hc k hlt
      have hi1 : (k : Int) < l.length := by omega
      have HD := hidE (firstG_drop (g := g) hlt)
      have hc1 := put1_any B D p cp g l[k].path l[k].clock l[k].sign wr (hG.below hb (Nat.le_refl _)) hg HU.out hle hst
      have HC1 := hidE hc1
      have HGA : Hid (goneA g l[k] = hasGone g l[k].path l[k].clock) := rfl
      clear hc1 hc
      cases hgo : hasGone g l[k].path l[k].clock
      · have HF : Hid (firstG g l = k + 1 + firstG g (l.drop (k + 1))) := by show _ = _; rw [HK.out, HD.out, HGA.out, hgo]; simp; omega
        rw [hgo] at HC1
        clear HD HGA hgo
        go_wp2_with (go_at_call 209; refine HC1.out.mono ?_; rintro e w2 ⟨rfl, hb2⟩)
        go_roundw
        case rel => exact ⟨k + 1, by omega, by go_num, HF.out, hb.thru hb2 hb.size⟩
        case measure => simp [intOf]; omega
      · have HF : Hid (idxG g l = k) := by
          show _ = _
          have e : firstG g l = k := by rw [HK.out, HD.out, HGA.out, hgo]; simp
          unfold idxG
          rw [e, if_pos hlt]
        rw [hgo] at HC1
        clear HD HGA hgo
        go_wp2_with (go_at_call 209; refine HC1.out.mono ?_; rintro e w2 ⟨rfl, hb2⟩)
        go_ret
        exact ⟨ret_int (by rw [HF.out]), hb.thru hb2 hb.size⟩
    · have HF : Hid (idxG g l = -1) := by
        show _ = _
        have e : ¬ firstG g l < l.length := by rw [HK.out, List.drop_eq_nil_of_le (by omega)]; simp [firstG]; omega
        unfold idxG
        rw [if_neg e]
      go_wp2_with fail
      go_ret
      exact ⟨ret_int (by rw [HF.out]), hb⟩
end Go.Proofs.YtnhjebdlcbhkcaeGreat
